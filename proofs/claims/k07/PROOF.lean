import PyProof.Rows.All
import Wide.All
import OpenK.AllK
import Wide.FinOn
import HandS.ForMost
import HandS.More
import HandS.TupAny
import HandS.Style
import KE.KDictPairs
import HandS.IsInst
import HandS.Evl
import HandS.Walk
import HandS.TupLe
import HandS.SortKw
import PyProof.StrOps2
import KE.KSortTup
import HandS.Text
import PyProof.Rows.ReprOcc
import HandS.Deep
import HandS.Set
import HandS.SetTxt0
import HandS.SetBool
import KE.SortKeyHeap
import KE.KDictZip
import KE.GoesMore
import KE.GoesZip
import HandS.MapObj
import KE.GoesEnum
import HandS.Comp
import KE.KDictKeyed
import KE.KDictCopyH
import KE.KDictList
import HandS.DictComp
import HandS.SetFor
import HandS.SetKeys
import HandS.Zip
import HandS.DictTup
import HandS.Conv
import HandS.TryOnly
import HandS.StrMore
import HandS.Dict
import PyProof.IsRules
import PyProof.StrLawsFirst
import PyProof.StrLawsChain
import PyProof.StrLawsTight
import PyProof.Rows.StrNews2
import KE.IntTextText
import HandS.Flow
import HandS.ExcOwn
import HandS.ExcInit
import HandS.ExcField
import HandS.ExcIs
import HandS.WordsExc
import HandS.WordsDict
import KE.KExcIs
import PySem.Challenge.RW_onlywith_k07_where_equations_cannot_be_u
set_option Elab.async false
set_option linter.all false
set_option maxRecDepth 100000
set_option maxHeartbeats 4000000
/-! Tuples without a dict of their own, and dict() of them. -/
namespace BV
open PySem PySem.Spec PyProof.Rows L2

/-- a tuple at a, and the object there has no dict of its own -/
def SqP (K : PySem.W.Frag) (H : Hp) (a : Addr) (xs : List V) : Prop :=
  (∃ ob : Obj, H a = some (.frz ob (.tup xs)) ∧ ob.dict = none) ∨
    ∃ (o : Obj) (its : Array Value) (n : Nat), K.lookup a = some o ∧ o.cls = .type "tuple" ∧ o.dict = none ∧ o.data = .seq its n ∧ its.size ≤ sizeLine ∧ Vals xs its.toList
theorem SqP.t {K : PySem.W.Frag} {H : Hp} {a : Addr} {xs : List V} (h : SqP K H a xs) : SqT K H a xs := by
  rcases h with ⟨ob, h, _⟩ | ⟨o, its, n, h1, h2, _, h3, h4, h5⟩
  · exact .inl (.inr ⟨ob, h⟩)
  · exact .inr ⟨o, its, n, h1, h2, h3, h4, h5⟩
section
variable {X : Cx} {pins : List (Addr × Obj)} {σ : L2.St} {H : Hp} {s : Shared} {a : Addr} {xs : List V}
theorem plainT (I : Inv X pins σ H s) (h : SqP X.K H a xs) : ∃ its : List Value, Vals xs its ∧ (∃ (o : Obj) (n : Nat), s.heap.get? a = some o ∧ o.cls = .type "tuple" ∧ o.dict = none ∧ o.data = .seq its.toArray n) ∧ xs.length ≤ sizeLine := by
  rcases h with ⟨ob, h, hd⟩ | ⟨o, its, n, hk, hc, hd, hs, hz, r⟩
  · obtain ⟨e, z, its, r, ⟨o, e2, hc, n, hdat⟩⟩ := I.hok a _ h
    rw [e] at e2
    cases e2
    exact ⟨its, r, ⟨ob, n, e, hc, hd, hdat⟩, z⟩
  · refine ⟨its.toList, r, ⟨o, n, I.kIn a o hk, hc, hd, by simpa using hs⟩, ?_⟩
    have e := r.length
    simp only [Array.length_toList] at e
    omega
end
section
variable {X : Cx} {pos : Pos} {es : List Expr} {t : TA}
/-- (e, ..) -/
def tTupF (t : TA) : TE := fun σ H Q => t σ H fun xs H1 => xs.length ≤ sizeLine ∧ ∀ p ob, ob.dict = none → H1 p = none → Q (.ref p) (upd H1 p (.frz ob (.tup xs)))
theorem pe_tupF {x1} (h : PA X es t) : PE X (.Tuple es x1 pos) (tTupF t) := by
  refine ⟨fun pins s σ H Q I hq => ?_⟩
  refine wpAny_Tuple_spliced (thn (h.run pos pins s σ H _ I hq) fun us s1 ⟨xs, H1, I1, r, z, q⟩ => ⟨by rw [← r.length]; exact z, ?_⟩)
  have hf : H1 s1.heap.objs.size = none := I1.hok.fresh (Nat.le_refl _)
  refine ⟨.ref s1.heap.objs.size, upd H1 s1.heap.objs.size (.frz { cls := .type "tuple", data := .seq us.toArray } (.tup xs)), I1.laid (t' := s1.toks) (fun b u e => Heap.get?_push_of_some _ e) (Nat.le_refl _) ?_, rfl, q _ _ rfl hf⟩
  exact ⟨Heap.get?_push_size _ rfl, z, us, r, ⟨_, Heap.get?_push_size _ rfl, rfl, _, rfl⟩⟩
theorem call_tupleF : CallR X (.type "tuple") (fun xs H Q => ∃ p ys, xs = [.ref p] ∧ ((SqL X.K H p ys ∧ ∀ l ob, ob.dict = none → H l = none → Q (.ref l) (upd H l (.frz ob (.tup ys)))) ∨ (SqT X.K H p ys ∧ Q (.ref p) H))) := by
  intro pins s σ H xs us Q I r h
  obtain ⟨p, ys, rfl, h⟩ := h
  obtain ⟨u, rfl, rx⟩ := vals1 r
  cases rx
  rcases h with ⟨hq, q⟩ | ⟨hq, q⟩
  · obtain ⟨its, r', pl, hz⟩ := I.list hq
    have hlen := r'.length
    refine call_tuple_list pl.isList (fun h' kp => ?_) (by simp only [List.size_toArray] <;> omega)
    have I1 : Inv X pins σ H { s with heap := h' } := I.kept (t' := s.toks) kp
    have I2 : Inv X pins σ (upd H h'.objs.size (.frz { cls := .type "tuple", data := .seq its.toArray } (.tup ys))) { s with heap := h'.push { cls := .type "tuple", data := .seq its.toArray } } :=
      I1.laid (t' := s.toks) (fun b o e => Heap.get?_push_of_some _ e) (Nat.le_refl _) (show ObjOk X.prog X.w _ _ _ (.frz { cls := .type "tuple", data := .seq its.toArray } (.tup ys)) from ⟨Heap.get?_push_size _ rfl, hz, its, r', IsTup.new _ _⟩)
    exact ⟨.ref h'.objs.size, _, I2, rfl, q _ _ rfl (I1.hok.fresh (Nat.le_refl _))⟩
  · obtain ⟨its, r', pl, hz⟩ := I.tuple hq
    exact call_tuple_same pl ⟨.ref p, H, I, rfl, q⟩
def rCatF (K : PySem.W.Frag) : R2 := fun x y H Q => ∃ a b xs ys, x = .ref a ∧ y = .ref b ∧ SqT K H a xs ∧ SqT K H b ys ∧ xs.length + ys.length ≤ sizeLine ∧
  (xs = [] → Q (.ref b) H) ∧ (xs ≠ [] → ys = [] → Q (.ref a) H) ∧ (xs ≠ [] → ys ≠ [] → ∀ p ob, ob.dict = none → H p = none → Q (.ref p) (upd H p (.frz ob (.tup (xs ++ ys)))))
theorem op_catF : OpR X (binaryOp .Add) (rCatF X.K) := by
  intro pins s σ H x y v u Q I rx ry h
  obtain ⟨a, b, xs, ys, rfl, rfl, ha, hb, hz, q0, q1, q2⟩ := h
  by_cases hx : xs = []
  · exact op_catA pins s σ H _ _ v u Q I rx ry ⟨a, b, xs, ys, rfl, rfl, ha, hb, hz, q0, q1, fun z => absurd hx z⟩
  · cases rx
    cases ry
    obtain ⟨its, r1, p1, _⟩ := I.tuple ha
    obtain ⟨its2, r2, p2, _⟩ := I.tuple hb
    refine HT.cat_tup p1 p2 (fun z => hx (r1.nil_iff.mp z)) (fun z => ⟨.ref a, H, I, rfl, q1 hx (r2.nil_iff.mp z)⟩) (fun z => ?_) (by rw [← r1.length, ← r2.length]; exact hz)
    refine ⟨.ref s.heap.objs.size, _, I.laid (t' := s.toks) (o := .frz { cls := .type "tuple", data := .seq (its ++ its2).toArray } (.tup (xs ++ ys))) (fun b ob q => Heap.get?_push_of_some _ q) (Nat.le_refl _) ?_, rfl, q2 hx (fun w => z (r2.nil_iff.mpr w)) _ _ rfl (I.hok.fresh (Nat.le_refl _))⟩
    exact ⟨Heap.get?_push_size _ rfl, by rw [List.length_append]; exact hz, _, r1.append r2, IsTup.new _ _⟩
def rSlF (K : PySem.W.Frag) : V → Option Int → Option Int → Hp → VK → Prop := fun x lo hi H Q => ∃ a xs, x = .ref a ∧ SqT K H a xs ∧
  (HT.sIx xs.length 0 lo = 0 ∧ HT.sIx xs.length xs.length hi = xs.length → Q (.ref a) H) ∧ (¬ (HT.sIx xs.length 0 lo = 0 ∧ HT.sIx xs.length xs.length hi = xs.length) → ∀ p ob, ob.dict = none → H p = none → Q (.ref p) (upd H p (.frz ob (.tup (cutV xs lo hi)))))
theorem sl_tupF : SlR X (rSlF X.K) := by
  intro pins s σ H x v vl vu lo hi sl Q I rx hs pl pu h
  obtain ⟨a, xs, rfl, hx, q1, q2⟩ := h
  by_cases hw : HT.sIx xs.length 0 lo = 0 ∧ HT.sIx xs.length xs.length hi = xs.length
  · exact sl_tupA pins s σ H _ v vl vu lo hi sl Q I rx hs pl pu ⟨a, xs, rfl, hx, q1, fun z => absurd hw z⟩
  · cases rx
    obtain ⟨its, r, ht, hz⟩ := I.tuple hx
    have hlen : its.toArray.size = xs.length := by rw [List.size_toArray]; exact r.length.symm
    refine ⟨"tuple", _, PyProof.Rows.slot_tuple_getitem.lookup, ht.typeIs, ?_⟩
    refine HT.getItem_tuple_cut ht hs pl pu (by rw [hlen]; exact hw) ?_ (by rw [hlen]; exact hz)
    rw [hlen]
    refine ⟨.ref s.heap.objs.size, _, I.laid (t' := s.toks) (o := .frz { cls := .type "tuple", data := .seq (((its.drop (HT.sIx xs.length 0 lo)).take (HT.sIx xs.length xs.length hi - HT.sIx xs.length 0 lo))).toArray } (.tup (cutV xs lo hi))) (fun b ob q => Heap.get?_push_of_some _ q) (Nat.le_refl _) ?_, rfl, q2 hw _ _ rfl (I.hok.fresh (Nat.le_refl _))⟩
    exact ⟨Heap.get?_push_size _ rfl, Nat.le_trans (cutV_length xs lo hi) hz, _, (r.drop (HT.sIx xs.length 0 lo)).take (HT.sIx xs.length xs.length hi - HT.sIx xs.length 0 lo), IsTup.new _ _⟩
end
section
variable {X : Cx}
theorem zip_get {α β : Type} : ∀ {l : List α} {m : List β} {i : Nat} {p : α × β}, (l.zip m)[i]? = some p → l[i]? = some p.1 ∧ m[i]? = some p.2
  | [], _, i, p, h => by simp at h
  | _ :: _, [], i, p, h => by simp at h
  | a :: l, b :: m, 0, p, h => by simp at h; subst h; exact ⟨rfl, rfl⟩
  | a :: l, b :: m, i + 1, p, h => zip_get (l := l) (m := m) (by simpa using h)
theorem pairs_of2 {pins : List (Addr × Obj)} {σ : L2.St} {H : Hp} {s : Shared} (I : Inv X pins σ H s) : ∀ {ps : List Addr} {kvs : List (L2.Key × V)}, Paired (fun p kv => SqT X.K H p [kV kv.1, kv.2]) ps kvs →
    ∃ (prs : List (L2.Key × Value)) (us : List Value), KV kvs prs ∧ prs.length = ps.length ∧ us.length = ps.length ∧ ∀ (j : Nat) (q : L2.Key × Value) (u : Value), prs[j]? = some q → us[j]? = some u → ∃ b : Addr, ps[j]? = some b ∧ IsTup s.heap b #[u, q.2] ∧ keyIs q.1 u = true
  | _, _, .nil => ⟨[], [], .nil, rfl, rfl, fun j q u e => by simp at e⟩
  | _, _, .cons (a := p) (b := kv) h t => by
    obtain ⟨prs, us, r, hl, hl2, hp⟩ := pairs_of2 I t
    obtain ⟨its, rv, ht, _⟩ := I.tuple h
    obtain ⟨u, y, ei, ru, ry⟩ := vals2 rv
    subst ei
    refine ⟨(kv.1, y) :: prs, u :: us, .cons ⟨rfl, ry⟩ r, by rw [List.length_cons, List.length_cons, hl], by rw [List.length_cons, List.length_cons, hl2], fun j q u' e e' => ?_⟩
    cases j with
    | zero =>
      have e1 : (kv.1, y) = q := Option.some.inj e
      have e2 : u = u' := Option.some.inj e'
      subst e1
      subst e2
      exact ⟨p, rfl, ht, kV_is (P := X.prog) (w := X.w) ru⟩
    | succ j =>
      obtain ⟨b, e1, e2, e3⟩ := hp j q u' (by simpa using e) (by simpa using e')
      exact ⟨b, by simpa using e1, e2, e3⟩
/-- dict(t) of a tuple of pairs (key, value) -/
theorem call_dictT (hcalm : X.calm = true) : CallR X (.type "dict") (fun xs H Q => ∃ (a : Addr) (ps : List Addr) (kvs : List (L2.Key × V)), xs = [.ref a] ∧ SqP X.K H a (ps.map V.ref) ∧ Paired (fun p kv => SqT X.K H p [kV kv.1, kv.2]) ps kvs ∧
    ∀ p, H p = none → Q (.ref p) (upd H p (.dK (mergeK [] kvs)))) := by
  intro pins s σ H xs us Q I r q
  obtain ⟨a, ps, kvs, ex, hq, hp, q⟩ := q
  subst ex
  obtain ⟨u, eu, rx⟩ := vals1 r
  subst eu
  cases rx
  obtain ⟨its, rv, ⟨o, n, ho, hc, hd, hdat⟩, hz⟩ := plainT I hq
  have ei := refs_at rv
  subst ei
  rw [List.length_map] at hz
  obtain ⟨prs, ks, rel, hl, hl2, hpr⟩ := pairs_of2 I hp
  have hzl : (ks.zip (prs.map (·.2))).length = ps.length := by simp [hl, hl2]
  refine PySem.call_dict_pairs (knd := mixKind X.prog X.w) (kvs := prs) (PairArg.tuple a (ps.map Value.ref).toArray (fun j => ps.getD j 0) (ks.zip (prs.map (·.2)))) (I.ok.hd hcalm) ⟨⟨o, n, ho, hc, hd, hdat⟩, by simp [hl, hl2], fun j k v e => ?_⟩ ⟨by rw [hzl, hl], fun j k v e => ?_⟩ (by rw [hzl]; exact hz) fun h' tk hd' hk => ?_
  · obtain ⟨e1, e2⟩ := zip_get e
    rw [List.getElem?_map] at e2
    obtain ⟨q', e3, rfl⟩ := Option.map_eq_some_iff.mp e2
    obtain ⟨b, h1, h2, h3⟩ := hpr j q' k e3 e1
    have e4 : ps.getD j 0 = b := by rw [List.getD_eq_getElem?_getD, h1]; rfl
    refine ⟨by simp [h1], ?_⟩
    dsimp only
    rw [e4]
    exact .inl h2
  · obtain ⟨e1, e2⟩ := zip_get (p := (k, v)) e
    rw [List.getElem?_map] at e2
    obtain ⟨q', e3, e5⟩ := Option.map_eq_some_iff.mp e2
    obtain ⟨b, h1, h2, h3⟩ := hpr j q' k e3 e1
    refine ⟨q'.1, ?_, h3⟩
    rw [e3]
    exact congrArg some (Prod.ext rfl e5)
  · have hm : (s.heap.objs.size == sysModules) = false := beq_eq_false_iff_ne.mpr (Nat.ne_of_gt I.big)
    have hlen : (mergeK [] kvs).length ≤ sizeLine := by
      refine Nat.le_trans (length_mergeK kvs []) ?_
      rw [List.length_nil, Nat.zero_add, rel.length, hl]
      exact hz
    exact ⟨.ref s.heap.objs.size, upd H s.heap.objs.size (.dK (mergeK [] kvs)), I.laid (t' := tk) (fun b ob e => hk b ob (by simp) e) (Nat.le_refl _) (show ObjOk X.prog X.w _ _ _ (.dK (mergeK [] kvs)) from ⟨hlen, hm, merged [] prs, KV.merge rel .nil, hd'⟩), rfl, q _ (I.hok.fresh (Nat.le_refl _))⟩
end
end BV

/-! Data by value over the hand layer. -/
namespace BV
open PySem PySem.Spec PyProof.Rows L2 Evl

inductive D where
  | non | bl (b : Bool) | int (i : Int) | str (s : Str) | tup (ds : List D) | lst (ds : List D) | pur | pr (ds : List D) | dic (ks : List L2.Key) (vs : List D)

def keyPy : L2.Key → PyData
  | .inl i => .int i
  | .inr x => .str x
mutual
def D.py : D → PyData
  | .non => .none
  | .bl b => .bool b
  | .int i => .int i
  | .str s => .str s
  | .tup ds => .tuple (D.pys ds)
  | .lst ds => .list (D.pys ds)
  | .pur => .none
  | .pr ds => .tuple (D.pys ds)
  | .dic ks vs => .dict ((ks.map keyPy).zip (D.pys vs))
def D.pys : List D → List PyData
  | [] => []
  | d :: ds => D.py d :: D.pys ds
end
mutual
/-- no list, no purse in it -/
def D.lf : D → Bool
  | .lst _ => false
  | .pur => false
  | .tup ds => D.lfs ds
  | .pr ds => D.lfs ds
  | .dic _ _ => false
  | .non => true
  | .bl _ => true
  | .int _ => true
  | .str _ => true
def D.lfs : List D → Bool
  | [] => true
  | d :: ds => D.lf d && D.lfs ds
end
mutual
/-- no purse in it -/
def D.pf : D → Bool
  | .pur => false
  | .lst ds => D.pfs ds
  | .tup ds => D.pfs ds
  | .pr ds => D.pfs ds
  | .dic _ _ => false
  | .non => true
  | .bl _ => true
  | .int _ => true
  | .str _ => true
def D.pfs : List D → Bool
  | [] => true
  | d :: ds => D.pf d && D.pfs ds
end

mutual
def Dn (K : PySem.W.Frag) (C : Hp) (pu : Addr) : D → V → Prop
  | .non, v => v = .non
  | .bl b, v => v = .bl b
  | .int i, v => v = .int i
  | .str x, v => v = .str x
  | .tup ds, v => ∃ a xs, v = .ref a ∧ SqP K C a xs ∧ Dns K C pu ds xs
  | .pr ds, v => ∃ a xs, v = .ref a ∧ SqT K C a xs ∧ Dns K C pu ds xs
  | .dic ks vs, v => ∃ a kvs, v = .ref a ∧ C a = some (.dK kvs) ∧ kvs.map (·.1) = ks ∧ Dns K C pu vs (kvs.map (·.2))
  | .lst ds, v => ∃ a xs, v = .ref a ∧ C a = some (.lst xs) ∧ Dns K C pu ds xs
  | .pur, v => v = .ref pu
def Dns (K : PySem.W.Frag) (C : Hp) (pu : Addr) : List D → List V → Prop
  | [], xs => xs = []
  | d :: ds, xs => ∃ v r, xs = v :: r ∧ Dn K C pu d v ∧ Dns K C pu ds r
end

theorem ex_p {K : PySem.W.Frag} {C C' : Hp} (e : Ex C C') {a : Addr} {xs : List V} (h : SqP K C a xs) : SqP K C' a xs := by
  rcases h with ⟨ob, h, hd⟩ | h
  · exact .inl ⟨ob, e _ _ h, hd⟩
  · exact .inr h
section
variable {K : PySem.W.Frag} {C C' : Hp} {pu : Addr}
mutual
theorem Dn.mono (e : Ex C C') : ∀ (d : D) (v : V), Dn K C pu d v → Dn K C' pu d v
  | .non, v, h => by unfold Dn at h ⊢; exact h
  | .bl b, v, h => by unfold Dn at h ⊢; exact h
  | .int i, v, h => by unfold Dn at h ⊢; exact h
  | .str x, v, h => by unfold Dn at h ⊢; exact h
  | .tup ds, v, h => by
    unfold Dn at h ⊢
    obtain ⟨a, xs, e1, e2, e3⟩ := h
    exact ⟨a, xs, e1, ex_p e e2, Dns.mono e ds xs e3⟩
  | .pr ds, v, h => by
    unfold Dn at h ⊢
    obtain ⟨a, xs, e1, e2, e3⟩ := h
    exact ⟨a, xs, e1, ex_t e e2, Dns.mono e ds xs e3⟩
  | .dic ks vs, v, h => by
    unfold Dn at h ⊢
    obtain ⟨a, kvs, e1, e2, e3, e4⟩ := h
    exact ⟨a, kvs, e1, e _ _ e2, e3, Dns.mono e vs _ e4⟩
  | .lst ds, v, h => by
    unfold Dn at h ⊢
    obtain ⟨a, xs, e1, e2, e3⟩ := h
    exact ⟨a, xs, e1, e _ _ e2, Dns.mono e ds xs e3⟩
  | .pur, v, h => by unfold Dn at h ⊢; exact h
theorem Dns.mono (e : Ex C C') : ∀ (ds : List D) (xs : List V), Dns K C pu ds xs → Dns K C' pu ds xs
  | [], xs, h => by unfold Dns at h ⊢; exact h
  | d :: ds, xs, h => by
    unfold Dns at h ⊢
    obtain ⟨v, r, e1, e2, e3⟩ := h
    exact ⟨v, r, e1, Dn.mono e d v e2, Dns.mono e ds r e3⟩
end
theorem dn_non {v : V} : Dn K C pu .non v ↔ v = .non := by unfold Dn; exact Iff.rfl
theorem dn_bl {b : Bool} {v : V} : Dn K C pu (.bl b) v ↔ v = .bl b := by unfold Dn; exact Iff.rfl
theorem dn_int {i : Int} {v : V} : Dn K C pu (.int i) v ↔ v = .int i := by unfold Dn; exact Iff.rfl
theorem dn_str {i : Str} {v : V} : Dn K C pu (.str i) v ↔ v = .str i := by unfold Dn; exact Iff.rfl
theorem dn_tupP {ds : List D} {v : V} : Dn K C pu (.tup ds) v ↔ ∃ a xs, v = .ref a ∧ SqP K C a xs ∧ Dns K C pu ds xs := by rw [Dn]
theorem dn_tup {ds : List D} {v : V} (h : Dn K C pu (.tup ds) v) : ∃ a xs, v = .ref a ∧ SqT K C a xs ∧ Dns K C pu ds xs := by
  obtain ⟨a, xs, e1, e2, e3⟩ := dn_tupP.mp h
  exact ⟨a, xs, e1, e2.t, e3⟩
theorem dn_pr {ds : List D} {v : V} : Dn K C pu (.pr ds) v ↔ ∃ a xs, v = .ref a ∧ SqT K C a xs ∧ Dns K C pu ds xs := by rw [Dn]
theorem dn_dic {ks : List L2.Key} {vs : List D} {v : V} : Dn K C pu (.dic ks vs) v ↔ ∃ a kvs, v = .ref a ∧ C a = some (.dK kvs) ∧ kvs.map (·.1) = ks ∧ Dns K C pu vs (kvs.map (·.2)) := by rw [Dn]
theorem dn_lst {ds : List D} {v : V} : Dn K C pu (.lst ds) v ↔ ∃ a xs, v = .ref a ∧ C a = some (.lst xs) ∧ Dns K C pu ds xs := by rw [Dn]
theorem dn_pur {v : V} : Dn K C pu .pur v ↔ v = .ref pu := by unfold Dn; exact Iff.rfl
theorem dns_nil {xs : List V} : Dns K C pu [] xs ↔ xs = [] := by unfold Dns; exact Iff.rfl
theorem dns_cons {d : D} {ds : List D} {xs : List V} : Dns K C pu (d :: ds) xs ↔ ∃ v r, xs = v :: r ∧ Dn K C pu d v ∧ Dns K C pu ds r := by rw [Dns]

theorem Dns.len : ∀ {ds : List D} {xs : List V}, Dns K C pu ds xs → xs.length = ds.length
  | [], xs, h => by rw [dns_nil.mp h]; rfl
  | d :: ds, xs, h => by
    obtain ⟨v, r, e, _, q⟩ := dns_cons.mp h
    rw [e, List.length_cons, List.length_cons, Dns.len q]
theorem Dns.get : ∀ {ds : List D} {xs : List V} {i : Nat} {d : D}, Dns K C pu ds xs → ds[i]? = some d → ∃ v, xs[i]? = some v ∧ Dn K C pu d v
  | [], xs, i, d, h, e => by simp at e
  | c :: ds, xs, 0, d, h, e => by
    obtain ⟨v, r, e1, q, _⟩ := dns_cons.mp h
    have : c = d := by simpa using e
    subst this
    exact ⟨v, by rw [e1]; rfl, q⟩
  | c :: ds, xs, i + 1, d, h, e => by
    obtain ⟨v, r, e1, _, q⟩ := dns_cons.mp h
    obtain ⟨u, h1, h2⟩ := Dns.get (i := i) (d := d) q (by simpa using e)
    exact ⟨u, by rw [e1]; simpa using h1, h2⟩
theorem Dns.get' : ∀ {ds : List D} {xs : List V} {i : Nat} {v : V}, Dns K C pu ds xs → xs[i]? = some v → ∃ d, ds[i]? = some d ∧ Dn K C pu d v := fun {ds xs i v} h e => by
  have hl := h.len
  have hi : i < ds.length := by
    have := (List.getElem?_eq_some_iff.mp e).1
    omega
  obtain ⟨u, h1, h2⟩ := h.get (List.getElem?_eq_getElem hi)
  rw [e] at h1
  cases h1
  exact ⟨_, List.getElem?_eq_getElem hi, h2⟩
theorem Dns.app : ∀ {ds es : List D} {xs ys : List V}, Dns K C pu ds xs → Dns K C pu es ys → Dns K C pu (ds ++ es) (xs ++ ys)
  | [], es, xs, ys, h, k => by rw [dns_nil.mp h]; exact k
  | d :: ds, es, xs, ys, h, k => by
    obtain ⟨v, r, e, q1, q⟩ := dns_cons.mp h
    rw [e]
    exact dns_cons.mpr ⟨v, r ++ ys, rfl, q1, Dns.app q k⟩
theorem Dns.take : ∀ {ds : List D} {xs : List V} (n : Nat), Dns K C pu ds xs → Dns K C pu (ds.take n) (xs.take n)
  | ds, xs, 0, h => by simp [dns_nil]
  | [], xs, n + 1, h => by rw [dns_nil.mp h]; exact dns_nil.mpr rfl
  | d :: ds, xs, n + 1, h => by
    obtain ⟨v, r, e, q1, q⟩ := dns_cons.mp h
    rw [e]
    exact dns_cons.mpr ⟨v, r.take n, rfl, q1, Dns.take n q⟩
theorem Dns.drop : ∀ {ds : List D} {xs : List V} (n : Nat), Dns K C pu ds xs → Dns K C pu (ds.drop n) (xs.drop n)
  | ds, xs, 0, h => h
  | [], xs, n + 1, h => by rw [dns_nil.mp h]; exact dns_nil.mpr rfl
  | d :: ds, xs, n + 1, h => by
    obtain ⟨v, r, e, q1, q⟩ := dns_cons.mp h
    rw [e]
    exact Dns.drop n q
theorem Dns.one {d : D} {v : V} (h : Dn K C pu d v) : Dns K C pu [d] [v] := dns_cons.mpr ⟨v, [], rfl, h, dns_nil.mpr rfl⟩
theorem Dns.rep : ∀ {ds : List D} {xs : List V} (n : Nat), Dns K C pu ds xs → Dns K C pu (List.replicate n ds).flatten (List.replicate n xs).flatten
  | ds, xs, 0, h => dns_nil.mpr rfl
  | ds, xs, n + 1, h => by
    rw [List.replicate_succ, List.replicate_succ, List.flatten_cons, List.flatten_cons]
    exact Dns.app h (Dns.rep n h)
/-- of data without a list, only the tuples matter -/
def TupSub (K : PySem.W.Frag) (C C' : Hp) : Prop := (∀ a xs, SqT K C a xs → SqT K C' a xs) ∧ ∀ a xs, SqP K C a xs → SqP K C' a xs
mutual
theorem Dn.lf (e : TupSub K C C') : ∀ (d : D) (v : V), d.lf = true → Dn K C pu d v → Dn K C' pu d v
  | .non, v, l, h => by unfold Dn at h ⊢; exact h
  | .bl b, v, l, h => by unfold Dn at h ⊢; exact h
  | .int i, v, l, h => by unfold Dn at h ⊢; exact h
  | .str x, v, l, h => by unfold Dn at h ⊢; exact h
  | .tup ds, v, l, h => by
    rw [dn_tupP] at h ⊢
    obtain ⟨a, xs, e1, e2, e3⟩ := h
    exact ⟨a, xs, e1, e.2 a xs e2, Dns.lf e ds xs (by simpa [D.lf] using l) e3⟩
  | .pr ds, v, l, h => by
    rw [dn_pr] at h ⊢
    obtain ⟨a, xs, e1, e2, e3⟩ := h
    exact ⟨a, xs, e1, e.1 a xs e2, Dns.lf e ds xs (by simpa [D.lf] using l) e3⟩
  | .dic ks vs, v, l, h => by simp [D.lf] at l
  | .lst ds, v, l, h => by simp [D.lf] at l
  | .pur, v, l, h => by simp [D.lf] at l
theorem Dns.lf (e : TupSub K C C') : ∀ (ds : List D) (xs : List V), D.lfs ds = true → Dns K C pu ds xs → Dns K C' pu ds xs
  | [], xs, l, h => by unfold Dns at h ⊢; exact h
  | d :: ds, xs, l, h => by
    rw [dns_cons] at h ⊢
    obtain ⟨v, r, e1, e2, e3⟩ := h
    have l' : d.lf = true ∧ D.lfs ds = true := by simpa [D.lfs] using l
    exact ⟨v, r, e1, Dn.lf e d v l'.1 e2, Dns.lf e ds r l'.2 e3⟩
end
mutual
theorem Dn.dp {H : Hp} (e : Ex C H) : ∀ (d : D) (v : V), d.pf = true → Dn K C pu d v → Dp K H v d.py
  | .non, v, l, h => by rw [dn_non.mp h]; exact .non
  | .bl b, v, l, h => by rw [dn_bl.mp h]; exact .bl b
  | .int i, v, l, h => by rw [dn_int.mp h]; exact .int i
  | .str x, v, l, h => by rw [dn_str.mp h]; exact .str x
  | .tup ds, v, l, h => by
    obtain ⟨a, xs, e1, e2, e3⟩ := dn_tup h
    rw [e1]
    exact .tup (ex_t e e2) (Dns.dp e ds xs (by simpa [D.pf] using l) e3)
  | .pr ds, v, l, h => by
    obtain ⟨a, xs, e1, e2, e3⟩ := dn_pr.mp h
    rw [e1]
    exact .tup (ex_t e e2) (Dns.dp e ds xs (by simpa [D.pf] using l) e3)
  | .dic ks vs, v, l, h => by simp [D.pf] at l
  | .lst ds, v, l, h => by
    obtain ⟨a, xs, e1, e2, e3⟩ := dn_lst.mp h
    rw [e1]
    exact .lst (sq_of (e _ _ e2)) (Dns.dp e ds xs (by simpa [D.pf] using l) e3)
  | .pur, v, l, h => by simp [D.pf] at l
theorem Dns.dp {H : Hp} (e : Ex C H) : ∀ (ds : List D) (xs : List V), D.pfs ds = true → Dns K C pu ds xs → DpAll K H xs (D.pys ds)
  | [], xs, l, h => by rw [dns_nil.mp h]; exact .nil
  | d :: ds, xs, l, h => by
    obtain ⟨v, r, e1, e2, e3⟩ := dns_cons.mp h
    have l' : d.pf = true ∧ D.pfs ds = true := by simpa [D.pfs] using l
    rw [e1]
    exact .cons (Dn.dp e d v l'.1 e2) (Dns.dp e ds r l'.2 e3)
end
end

/-! ### the purse, the state, the step -/
structure Pz where
  p : Addr
  g : Addr
  c : Addr
structure Pur (z : Pz) (C H : Hp) : Prop where
  at_ : ∃ (gs cs : List Int) (s k : Int), H z.p = some (.lst [.ref z.g, .ref z.c, .int s, .int k]) ∧ H z.g = some (.lst (gs.map V.int)) ∧ H z.c = some (.lst (cs.map V.int)) ∧ gs.length ≤ 64 ∧ cs ≠ [] ∧ cs.length ≤ 64
  cp : C z.p = none
  cg : C z.g = none
  cc : C z.c = none
  pg : z.p ≠ z.g
  pc : z.p ≠ z.c
  gc : z.g ≠ z.c
structure Ok (z : Pz) (C H : Hp) : Prop where
  ex : Ex C H
  pur : Pur z C H
structure Tr (z : Pz) (C H C' H' : Hp) : Prop where
  cc : Ex C C'
  ok : Ok z C' H'
  keep : ∀ a o, H a = some o → a ≠ z.p → a ≠ z.g → H' a = some o
  new : ∀ a, H a ≠ none → C' a = C a
section
variable {z : Pz} {C H C1 H1 C2 H2 : Hp}
theorem Tr.refl (o : Ok z C H) : Tr z C H C H := ⟨Ex.refl _, o, fun _ _ h _ _ => h, fun _ _ => rfl⟩
theorem Pur.pn (p : Pur z C H) : H z.p ≠ none := by
  obtain ⟨gs, cs, s, k, e, _⟩ := p.at_
  rw [e]
  exact fun q => nomatch q
theorem Pur.gn (p : Pur z C H) : H z.g ≠ none := by
  obtain ⟨gs, cs, s, k, _, e, _⟩ := p.at_
  rw [e]
  exact fun q => nomatch q
theorem Tr.there (t : Tr z C H C1 H1) {a : Addr} (h : H a ≠ none) : H1 a ≠ none := by
  by_cases hp : a = z.p
  · rw [hp]; exact t.ok.pur.pn
  by_cases hg : a = z.g
  · rw [hg]; exact t.ok.pur.gn
  cases e : H a with
  | none => exact absurd e h
  | some o =>
    rw [t.keep a o e hp hg]
    exact fun q => nomatch q
theorem Tr.trans (t : Tr z C H C1 H1) (u : Tr z C1 H1 C2 H2) : Tr z C H C2 H2 :=
  ⟨t.cc.trans u.cc, u.ok, fun a o h hp hg => u.keep a o (t.keep a o h hp hg) hp hg, fun a h => (u.new a (t.there h)).trans (t.new a h)⟩
/-- the heap grew by what is no purse's, nothing of it in the core -/
theorem Tr.ext (o : Ok z C H) (e : Ex H H1) : Tr z C H C H1 :=
  ⟨Ex.refl _, ⟨o.ex.trans e, let ⟨gs, cs, s, k, h1, h2, h3, h4⟩ := o.pur.at_; ⟨⟨gs, cs, s, k, e _ _ h1, e _ _ h2, e _ _ h3, h4⟩, o.pur.cp, o.pur.cg, o.pur.cc, o.pur.pg, o.pur.pc, o.pur.gc⟩⟩, fun a u h _ _ => e a u h, fun _ _ => rfl⟩
theorem Pur.cn (p : Pur z C H) : H z.c ≠ none := by
  obtain ⟨gs, cs, s, k, _, _, e, _⟩ := p.at_
  rw [e]
  exact fun q => nomatch q
/-- a new object goes into the core -/
theorem Tr.put {p : Addr} {u : HO} (o : Ok z C H) (h : H p = none) : Tr z C H (upd C p u) (upd H p u) := by
  have hc : C p = none := by
    cases e : C p with
    | none => rfl
    | some x => rw [o.ex p x e] at h; cases h
  have np : z.p ≠ p := fun e => o.pur.pn (by rw [e]; exact h)
  have ng : z.g ≠ p := fun e => o.pur.gn (by rw [e]; exact h)
  have nc : z.c ≠ p := fun e => o.pur.cn (by rw [e]; exact h)
  refine ⟨Ex.new hc, ⟨fun a x e => ?_, ?_⟩, fun a x e _ _ => Ex.new h a x e, fun a e => ?_⟩
  · by_cases ha : a = p
    · subst ha; rw [upd_same] at e ⊢; exact e
    · rw [upd_ne ha] at e ⊢; exact o.ex a x e
  · obtain ⟨gs, cs, s, k, h1, h2, h3, h4⟩ := o.pur.at_
    exact ⟨⟨gs, cs, s, k, by rw [upd_ne np]; exact h1, by rw [upd_ne ng]; exact h2, by rw [upd_ne nc]; exact h3, h4⟩, by rw [upd_ne np]; exact o.pur.cp, by rw [upd_ne ng]; exact o.pur.cg, by rw [upd_ne nc]; exact o.pur.cc, o.pur.pg, o.pur.pc, o.pur.gc⟩
  · have : a ≠ p := fun q => e (by rw [q]; exact h)
    rw [upd_ne this]
end

abbrev Env := List (Option D)
abbrev ME := Env → (D → Prop) → Prop
structure EnvR (K : PySem.W.Frag) (z : Pz) (C : Hp) (env : Env) (σ : L2.St) : Prop where
  len : env.length = σ.length
  at_ : ∀ (i : Nat) (d : D), env[i]? = some (some d) → ∃ v, σ[i]? = some (some v) ∧ Dn K C z.p d v
theorem EnvR.mono {K : PySem.W.Frag} {z : Pz} {C C' : Hp} {env : Env} {σ : L2.St} (r : EnvR K z C env σ) (e : Ex C C') : EnvR K z C' env σ :=
  ⟨r.len, fun i d h => let ⟨v, h1, h2⟩ := r.at_ i d h; ⟨v, h1, h2.mono e⟩⟩
theorem EnvR.set {K : PySem.W.Frag} {z : Pz} {C : Hp} {env : Env} {σ : L2.St} (r : EnvR K z C env σ) (i : Nat) {d : D} {v : V} (h : Dn K C z.p d v) : EnvR K z C (env.set i (some d)) (σ.set i (some v)) := by
  refine ⟨by rw [List.length_set, List.length_set]; exact r.len, fun j e hj => ?_⟩
  by_cases hij : i = j
  · subst hij
    have hl : i < env.length := by
      have := (List.getElem?_eq_some_iff.mp hj).1
      rwa [List.length_set] at this
    rw [List.getElem?_set_self hl] at hj
    cases hj
    exact ⟨v, by rw [List.getElem?_set_self (by rw [← r.len]; exact hl)], h⟩
  · rw [List.getElem?_set_ne hij] at hj
    rw [List.getElem?_set_ne hij]
    exact r.at_ j e hj
theorem EnvR.unset {K : PySem.W.Frag} {z : Pz} {C : Hp} {env : Env} {σ : L2.St} (r : EnvR K z C env σ) (i : Nat) : EnvR K z C (env.set i none) (σ.set i none) := by
  refine ⟨by rw [List.length_set, List.length_set]; exact r.len, fun j e hj => ?_⟩
  by_cases hij : i = j
  · subst hij
    have hl : i < env.length := by
      have := (List.getElem?_eq_some_iff.mp hj).1
      rwa [List.length_set] at this
    rw [List.getElem?_set_self hl] at hj
    cases hj
  · rw [List.getElem?_set_ne hij] at hj
    rw [List.getElem?_set_ne hij]
    exact r.at_ j e hj
def wipeE (env : Env) : List Nat → Env
  | [] => env
  | v :: vs => (wipeE env vs).set v none
theorem EnvR.wipe {K : PySem.W.Frag} {z : Pz} {C : Hp} {env : Env} {σ : L2.St} (r : EnvR K z C env σ) : ∀ vs : List Nat, EnvR K z C (wipeE env vs) (L2.wipe σ vs)
  | [] => r
  | v :: vs => (EnvR.wipe r vs).unset v

def lift (K : PySem.W.Frag) (m : ME) : TE := fun σ H Q => ∃ z C env, Ok z C H ∧ EnvR K z C env σ ∧ m env fun d => ∀ v C' H', Tr z C H C' H' → Dn K C' z.p d v → Q v H'
def Mono (m : ME) : Prop := ∀ env (Q Q' : D → Prop), (∀ d, Q d → Q' d) → m env Q → m env Q'
structure PD (X : Cx) (e : Expr) (m : ME) : Prop where
  run : PE X e (lift X.K m)
  mono : Mono m
theorem pe_imp {X : Cx} {e : Expr} {t t' : TE} (h : PE X e t) (i : ∀ σ H Q, t' σ H Q → t σ H Q) : PE X e t' := ⟨fun pins s σ H Q I q => h.run pins s σ H Q I (i σ H Q q)⟩

/-! ### names, constants -/
def mVar (i : Nat) : ME := fun env Q => ∃ d, env[i]? = some (some d) ∧ Q d
def mC (d : D) : ME := fun _ Q => Q d
section
variable {X : Cx} {e a b : Expr} {pos : Pos} {ma mb : ME}
theorem pd_var (i : Nat) (h : PE X e (tVar i)) : PD X e (mVar i) := by
  refine ⟨pe_imp h fun σ H Q q => ?_, fun env Q Q' i ⟨d, h1, h2⟩ => ⟨d, h1, i d h2⟩⟩
  obtain ⟨z, C, env, o, r, d, h1, h2⟩ := q
  obtain ⟨v, g1, g2⟩ := r.at_ i d h1
  exact ⟨v, g1, h2 v C H (Tr.refl o) g2⟩
theorem pd_const {v : V} {d : D} (h : PE X e (tC v)) (hd : ∀ K C pu, Dn K C pu d v) : PD X e (mC d) := by
  refine ⟨pe_imp h fun σ H Q q => ?_, fun env Q Q' i h => i _ h⟩
  obtain ⟨z, C, env, o, r, h2⟩ := q
  exact h2 v C H (Tr.refl o) (hd _ _ _)
theorem pd_int {i j} : PD X (.Constant (.int i) j pos) (mC (.int i)) := pd_const pe_int fun _ _ _ => dn_int.mpr rfl
theorem pd_bl {i j} : PD X (.Constant (.bool i) j pos) (mC (.bl i)) := pd_const pe_bl fun _ _ _ => dn_bl.mpr rfl
theorem pd_non {j} : PD X (.Constant .none j pos) (mC .non) := pd_const pe_non fun _ _ _ => dn_non.mpr rfl
theorem pd_str {x j} : PD X (.Constant (.str x) j pos) (mC (.str x)) := pd_const pe_str fun _ _ _ => dn_str.mpr rfl

/-! ### two-place operations -/
/-- f on values does what g does on data -/
def OpD (X : Cx) (f : Value → Value → Sem Value) (g : D → D → Option D) : Prop :=
  ∃ R : R2, OpR X f R ∧ ∀ (z : Pz) (C H : Hp) (d e u : D) (x y : V) (Q : VK), Ok z C H → Dn X.K C z.p d x → Dn X.K C z.p e y → g d e = some u → (∀ v C' H', Tr z C H C' H' → Dn X.K C' z.p u v → Q v H') → R x y H Q
def mOp (g : D → D → Option D) (ma mb : ME) : ME := fun env Q => ma env fun x => mb env fun y => ∃ u, g x y = some u ∧ Q u
theorem mono_op {g : D → D → Option D} (ha : Mono ma) (hb : Mono mb) : Mono (mOp g ma mb) := fun env Q Q' i h =>
  ha env _ _ (fun x h => hb env _ _ (fun y ⟨u, h1, h2⟩ => ⟨u, h1, i u h2⟩) h) h
/-- two expressions in a row -/
theorem two {ta tb : TE} {R : V → V → Hp → Prop} {σ : L2.St} {H : Hp} {z : Pz} {C : Hp} {env : Env} {m1 m2 : ME} {P : D → D → Prop} {K : PySem.W.Frag} (o : Ok z C H) (r : EnvR K z C env σ) (ha : Mono m1) (hb : Mono m2)
    (h : m1 env fun x => m2 env fun y => P x y)
    (k : ∀ x y v u C' H', P x y → Tr z C H C' H' → Dn K C' z.p x v → Dn K C' z.p y u → R v u H') : lift K m1 σ H fun v H1 => lift K m2 σ H1 fun u H2 => R v u H2 :=
  ⟨z, C, env, o, r, ha env _ _ (fun x h1 v C1 H1 t1 d1 => ⟨z, C1, env, t1.ok, r.mono t1.cc, hb env _ _ (fun y h2 u C2 H2 t2 d2 => k x y v u C2 H2 h2 (t1.trans t2) (d1.mono t2.cc) d2) h1⟩) h⟩
theorem pd_op {op : Operator} {g : D → D → Option D} (ho : OpD X (binaryOp op) g) (ha : PD X a ma) (hb : PD X b mb) : PD X (.BinOp a op b pos) (mOp g ma mb) := by
  obtain ⟨R, hR, hi⟩ := ho
  refine ⟨pe_imp (pe_op hR ha.run hb.run) fun σ H Q q => ?_, mono_op ha.mono hb.mono⟩
  obtain ⟨z, C, env, o, r, q⟩ := q
  exact two (ta := lift X.K ma) (tb := lift X.K mb) o r ha.mono hb.mono q fun x y v u C' H' ⟨w, e, q⟩ t d1 d2 => hi z C' H' x y w v u Q t.ok d1 d2 e fun v' C2 H2 t2 => q v' C2 H2 (t.trans t2)
theorem pd_cmp {op : CmpOp} {g : D → D → Option D} (ho : OpD X (compareOp op) g) (ha : PD X a ma) (hb : PD X b mb) (hm : behindInMarks op b = false) : PD X (.Compare a [op] [b] pos) (mOp g ma mb) := by
  obtain ⟨R, hR, hi⟩ := ho
  refine ⟨pe_imp (pe_cmpR hR ha.run hb.run hm) fun σ H Q q => ?_, mono_op ha.mono hb.mono⟩
  obtain ⟨z, C, env, o, r, q⟩ := q
  exact two (ta := lift X.K ma) (tb := lift X.K mb) o r ha.mono hb.mono q fun x y v u C' H' ⟨w, e, q⟩ t d1 d2 => hi z C' H' x y w v u Q t.ok d1 d2 e fun v' C2 H2 t2 => q v' C2 H2 (t.trans t2)
theorem OpD.of {f : Value → Value → Sem Value} {g : D → D → Option D} (R : R2) (h : OpR X f R) (k : ∀ (z : Pz) (C H : Hp) (d e u : D) (x y : V) (Q : VK), Ok z C H → Dn X.K C z.p d x → Dn X.K C z.p e y → g d e = some u → (∀ v C' H', Tr z C H C' H' → Dn X.K C' z.p u v → Q v H') → R x y H Q) : OpD X f g := ⟨R, h, k⟩

/-! ### tests -/
abbrev MT := Env → (Bool → Prop) → Prop
def liftT (K : PySem.W.Frag) (m : MT) : TT := fun σ H Q => ∃ z C env, Ok z C H ∧ EnvR K z C env σ ∧ m env fun b => ∀ C' H', Tr z C H C' H' → Q b H'
def MonoT (m : MT) : Prop := ∀ env (Q Q' : Bool → Prop), (∀ d, Q d → Q' d) → m env Q → m env Q'
structure PDT (X : Cx) (e : Expr) (m : MT) : Prop where
  run : PT X e (liftT X.K m)
  mono : MonoT m
structure PDW (X : Cx) (e : Expr) (m : MT) : Prop where
  run : PW X e (liftT X.K m)
  mono : MonoT m
theorem pt_imp {t t' : TT} (h : PT X e t) (i : ∀ σ H Q, t' σ H Q → t σ H Q) : PT X e t' := ⟨fun pins s σ H Q I q => h.run pins s σ H Q I (i σ H Q q)⟩
theorem pw_imp {t t' : TT} (h : PW X e t) (i : ∀ σ H Q, t' σ H Q → t σ H Q) : PW X e t' := ⟨fun w pins s σ H Q I q => h.run w pins s σ H Q I (i σ H Q q)⟩
/-- a value that is a bool, as a test -/
def tBl (m : ME) : MT := fun env Q => m env fun d => ∃ b, d = .bl b ∧ Q b
theorem mono_bl {m : ME} (h : Mono m) : MonoT (tBl m) := fun env Q Q' i q => h env _ _ (fun d ⟨b, e, q⟩ => ⟨b, e, i b q⟩) q
theorem lift_bl {K : PySem.W.Frag} {m : ME} (hm : Mono m) {σ : L2.St} {H : Hp} {Q : Bool → Hp → Prop} (q : liftT K (tBl m) σ H Q) : lift K m σ H fun x H' => ∃ k, x = .bl k ∧ Q k H' := by
  obtain ⟨z, C, env, o, r, q⟩ := q
  exact ⟨z, C, env, o, r, hm env _ _ (fun d ⟨b, e, q⟩ v C' H' t dn => ⟨b, dn_bl.mp (e ▸ dn), q C' H' t⟩) q⟩
theorem pdt_val {m : ME} (h : PD X e m) (he : ∀ whole, isTrue e X.env whole = (do let v ← whole; standAt e.pos; holding [v] (truthy v)) := by intro _; rfl) : PDT X e (tBl m) :=
  ⟨pt_imp (pt_val h.run he) fun σ H Q q => lift_bl h.mono q, mono_bl h.mono⟩
theorem pdt_cmp {op : CmpOp} {g : D → D → Option D} (ho : OpD X (compareOp op) g) (ha : PD X a ma) (hb : PD X b mb) (hm : behindInMarks op b = false) : PDT X (.Compare a [op] [b] pos) (tBl (mOp g ma mb)) := by
  obtain ⟨R, hR, hi⟩ := ho
  refine ⟨pt_imp (pt_cmpR hR ha.run hb.run hm) fun σ H Q q => ?_, mono_bl (mono_op ha.mono hb.mono)⟩
  obtain ⟨z, C, env, o, r, q⟩ := q
  exact two (ta := lift X.K ma) (tb := lift X.K mb) o r ha.mono hb.mono q fun x y v u C' H' ⟨w, e, k, e2, q⟩ t d1 d2 => hi z C' H' x y w v u _ t.ok d1 d2 e fun v' C2 H2 t2 dn => ⟨k, dn_bl.mp (e2 ▸ dn), q C2 H2 (t.trans t2)⟩
def mNotT (m : MT) : MT := fun env Q => m env fun b => Q (!b)
def mAndT (m n : MT) : MT := fun env Q => m env fun b => if b = true then n env Q else Q false
def mOrT (m n : MT) : MT := fun env Q => m env fun b => if b = true then Q true else n env Q
theorem liftT_seq {K : PySem.W.Frag} {z : Pz} {C H : Hp} {env : Env} {σ : L2.St} {m : MT} {P : Bool → Prop} {Q : Bool → Hp → Prop} (hm : MonoT m) (o : Ok z C H) (r : EnvR K z C env σ) (q : m env P) (k : ∀ b C' H', P b → Tr z C H C' H' → Q b H') : liftT K m σ H Q :=
  ⟨z, C, env, o, r, hm env _ _ (fun b p C' H' t => k b C' H' p t) q⟩
theorem pdt_not {m : MT} (h : PDT X a m) : PDT X (.UnaryOp .Not a pos) (mNotT m) := by
  refine ⟨pt_imp (pt_not h.run) fun σ H Q q => ?_, fun env Q Q' i q => h.mono env _ _ (fun b q => i _ q) q⟩
  obtain ⟨z, C, env, o, r, q⟩ := q
  exact ⟨z, C, env, o, r, q⟩
theorem pdw_and1 {m : MT} (h : PDT X a m) : PDW X (.BoolOp .And [a] pos) m := ⟨pw_and1 h.run, h.mono⟩
theorem pdw_or1 {m : MT} (h : PDT X a m) : PDW X (.BoolOp .Or [a] pos) m := ⟨pw_or1 h.run, h.mono⟩
variable {rest : List Expr}
theorem pdw_and {m n : MT} (h : PDT X a m) (k : PDW X (.BoolOp .And (b :: rest) pos) n) : PDW X (.BoolOp .And (a :: b :: rest) pos) (mAndT m n) := by
  refine ⟨pw_imp (pw_and h.run k.run) fun σ H Q q => ?_, fun env Q Q' i q => h.mono env _ _ (fun b q => ?_) q⟩
  · obtain ⟨z, C, env, o, r, q⟩ := q
    refine liftT_seq h.mono o r q fun b C' H' p t => ?_
    cases b with
    | false => exact p C' H' t
    | true => exact liftT_seq k.mono t.ok (r.mono t.cc) p fun b2 C2 H2 p2 t2 => p2 C2 H2 (t.trans t2)
  · cases b with
    | false => exact i _ q
    | true => exact k.mono env _ _ i q
theorem pdw_or {m n : MT} (h : PDT X a m) (k : PDW X (.BoolOp .Or (b :: rest) pos) n) : PDW X (.BoolOp .Or (a :: b :: rest) pos) (mOrT m n) := by
  refine ⟨pw_imp (pw_or h.run k.run) fun σ H Q q => ?_, fun env Q Q' i q => h.mono env _ _ (fun b q => ?_) q⟩
  · obtain ⟨z, C, env, o, r, q⟩ := q
    refine liftT_seq h.mono o r q fun b C' H' p t => ?_
    cases b with
    | true => exact p C' H' t
    | false => exact liftT_seq k.mono t.ok (r.mono t.cc) p fun b2 C2 H2 p2 t2 => p2 C2 H2 (t.trans t2)
  · cases b with
    | true => exact i _ q
    | false => exact k.mono env _ _ i q
theorem PDW.pdt {m : MT} (h : PDW X e m) : PDT X e m := ⟨h.run.pt, h.mono⟩
/-- and, or, not, if as values -/
def mIf (t : MT) (ma mb : ME) : ME := fun env Q => t env fun b => if b = true then ma env Q else mb env Q
theorem lift_use {K : PySem.W.Frag} {z : Pz} {C H : Hp} {env : Env} {σ : L2.St} {m : ME} {P : D → Prop} {Q : VK} (hm : Mono m) (o : Ok z C H) (r : EnvR K z C env σ) (q : m env P) (k : ∀ d v C' H', P d → Tr z C H C' H' → Dn K C' z.p d v → Q v H') : lift K m σ H Q :=
  ⟨z, C, env, o, r, hm env _ _ (fun d p v C' H' t dn => k d v C' H' p t dn) q⟩
theorem pd_ifExp {c : Expr} {t : MT} (hc : PDT X c t) (ha : PD X a ma) (hb : PD X b mb) : PD X (.IfExp c a b pos) (mIf t ma mb) := by
  refine ⟨pe_imp (pe_ifExp hc.run ha.run hb.run) fun σ H Q q => ?_, fun env Q Q' i q => hc.mono env _ _ (fun b q => ?_) q⟩
  · obtain ⟨z, C, env, o, r, q⟩ := q
    refine liftT_seq hc.mono o r q fun b C' H' p t => ?_
    cases b with
    | true => exact lift_use ha.mono t.ok (r.mono t.cc) p fun d v C2 H2 p2 t2 dn => p2 v C2 H2 (t.trans t2) dn
    | false => exact lift_use hb.mono t.ok (r.mono t.cc) p fun d v C2 H2 p2 t2 dn => p2 v C2 H2 (t.trans t2) dn
  · cases b with
    | true => exact ha.mono env _ _ i q
    | false => exact hb.mono env _ _ i q
def mAndV (ma mb : ME) : ME := fun env Q => ma env fun x => ∃ c, x = .bl c ∧ if c = true then mb env Q else Q (.bl false)
def mOrV (ma mb : ME) : ME := fun env Q => ma env fun x => ∃ c, x = .bl c ∧ if c = true then Q (.bl true) else mb env Q
def mNotV (ma : ME) : ME := fun env Q => ma env fun x => ∃ c, x = .bl c ∧ Q (.bl (!c))
theorem pd_one {op} (h : PD X a ma) : PD X (.BoolOp op [a] pos) ma := ⟨pe_one h.run, h.mono⟩
theorem pd_and (ha : PD X a ma) (hb : PD X (.BoolOp .And (b :: rest) pos) mb) : PD X (.BoolOp .And (a :: b :: rest) pos) (mAndV ma mb) := by
  refine ⟨pe_imp (pe_and ha.run hb.run) fun σ H Q q => ?_, fun env Q Q' i q => ha.mono env _ _ (fun x ⟨c, e, q⟩ => ⟨c, e, ?_⟩) q⟩
  · obtain ⟨z, C, env, o, r, q⟩ := q
    refine lift_use ha.mono o r q fun d v C' H' ⟨c, e, p⟩ t dn => ⟨c, dn_bl.mp (e ▸ dn), ?_⟩
    cases c with
    | true => exact lift_use hb.mono t.ok (r.mono t.cc) p fun d v C2 H2 p2 t2 dn => p2 v C2 H2 (t.trans t2) dn
    | false => exact p _ C' H' t (dn_bl.mpr rfl)
  · cases c with
    | true => exact hb.mono env _ _ i q
    | false => exact i _ q
theorem pd_or (ha : PD X a ma) (hb : PD X (.BoolOp .Or (b :: rest) pos) mb) : PD X (.BoolOp .Or (a :: b :: rest) pos) (mOrV ma mb) := by
  refine ⟨pe_imp (pe_or ha.run hb.run) fun σ H Q q => ?_, fun env Q Q' i q => ha.mono env _ _ (fun x ⟨c, e, q⟩ => ⟨c, e, ?_⟩) q⟩
  · obtain ⟨z, C, env, o, r, q⟩ := q
    refine lift_use ha.mono o r q fun d v C' H' ⟨c, e, p⟩ t dn => ⟨c, dn_bl.mp (e ▸ dn), ?_⟩
    cases c with
    | false => exact lift_use hb.mono t.ok (r.mono t.cc) p fun d v C2 H2 p2 t2 dn => p2 v C2 H2 (t.trans t2) dn
    | true => exact p _ C' H' t (dn_bl.mpr rfl)
  · cases c with
    | false => exact hb.mono env _ _ i q
    | true => exact i _ q
theorem pd_not (ha : PD X a ma) : PD X (.UnaryOp .Not a pos) (mNotV ma) := by
  refine ⟨pe_imp (pe_not ha.run) fun σ H Q q => ?_, fun env Q Q' i q => ha.mono env _ _ (fun x ⟨c, e, q⟩ => ⟨c, e, i _ q⟩) q⟩
  obtain ⟨z, C, env, o, r, q⟩ := q
  exact lift_use ha.mono o r q fun d v C' H' ⟨c, e, p⟩ t dn => ⟨c, dn_bl.mp (e ▸ dn), p _ C' H' t (dn_bl.mpr rfl)⟩
/-- one-place operations -/
def UnD (X : Cx) (f : Value → Sem Value) (g : D → Option D) : Prop :=
  ∃ R : V → Hp → VK → Prop, UnR X f R ∧ ∀ (z : Pz) (C H : Hp) (d u : D) (x : V) (Q : VK), Ok z C H → Dn X.K C z.p d x → g d = some u → (∀ v C' H', Tr z C H C' H' → Dn X.K C' z.p u v → Q v H') → R x H Q
def mUn (g : D → Option D) (ma : ME) : ME := fun env Q => ma env fun x => ∃ u, g x = some u ∧ Q u
theorem pd_un {op : UnaryOp} {g : D → Option D} (ho : UnD X (unaryOp op) g) (ha : PD X a ma) : PD X (.UnaryOp op a pos) (mUn g ma) := by
  obtain ⟨R, hR, hi⟩ := ho
  refine ⟨pe_imp (pe_un hR ha.run) fun σ H Q q => ?_, fun env Q Q' i q => ha.mono env _ _ (fun x ⟨c, e, q⟩ => ⟨c, e, i _ q⟩) q⟩
  obtain ⟨z, C, env, o, r, q⟩ := q
  exact lift_use ha.mono o r q fun d v C' H' ⟨c, e, p⟩ t dn => hi z C' H' d c v Q t.ok dn e fun v' C2 H2 t2 => p v' C2 H2 (t.trans t2)

/-! ### arguments, displays -/
abbrev MA := Env → (List D → Prop) → Prop
def liftA (K : PySem.W.Frag) (m : MA) : TA := fun σ H Q => ∃ z C env, Ok z C H ∧ EnvR K z C env σ ∧ m env fun ds => ∀ vs C' H', Tr z C H C' H' → Dns K C' z.p ds vs → Q vs H'
def MonoA (m : MA) : Prop := ∀ env (Q Q' : List D → Prop), (∀ d, Q d → Q' d) → m env Q → m env Q'
structure PDA (X : Cx) (es : List Expr) (m : MA) : Prop where
  run : PA X es (liftA X.K m)
  mono : MonoA m
def maNil : MA := fun _ Q => Q []
def maCons (ma : ME) (mr : MA) : MA := fun env Q => ma env fun d => mr env fun ds => Q (d :: ds)
theorem pa_imp {es : List Expr} {t t' : TA} (h : PA X es t) (i : ∀ σ H Q, t' σ H Q → t σ H Q) : PA X es t' := ⟨fun p pins s σ H Q I q => h.run p pins s σ H Q I (i σ H Q q)⟩
theorem pda_nil : PDA X [] maNil := ⟨pa_imp pa_nil fun σ H Q ⟨z, C, env, o, r, q⟩ => q [] C H (Tr.refl o) (dns_nil.mpr rfl), fun env Q Q' i q => i _ q⟩
theorem liftA_use {K : PySem.W.Frag} {z : Pz} {C H : Hp} {env : Env} {σ : L2.St} {m : MA} {P : List D → Prop} {Q : List V → Hp → Prop} (hm : MonoA m) (o : Ok z C H) (r : EnvR K z C env σ) (q : m env P) (k : ∀ d v C' H', P d → Tr z C H C' H' → Dns K C' z.p d v → Q v H') : liftA K m σ H Q :=
  ⟨z, C, env, o, r, hm env _ _ (fun d p v C' H' t dn => k d v C' H' p t dn) q⟩
theorem pda_cons {es : List Expr} {mr : MA} (ha : PD X e ma) (hr : PDA X es mr) (hs : starEach (e :: es) X.env = (false, eval e X.env) :: starEach es X.env := by rfl) : PDA X (e :: es) (maCons ma mr) := by
  refine ⟨pa_imp (pa_cons ha.run hr.run hs) fun σ H Q q => ?_, fun env Q Q' i q => ha.mono env _ _ (fun d q => hr.mono env _ _ (fun ds q => i _ q) q) q⟩
  obtain ⟨z, C, env, o, r, q⟩ := q
  exact lift_use ha.mono o r q fun d v C' H' p t dn => liftA_use hr.mono t.ok (r.mono t.cc) p fun ds vs C2 H2 p2 t2 dns => p2 (v :: vs) C2 H2 (t.trans t2) (dns_cons.mpr ⟨v, vs, rfl, dn.mono t2.cc, dns⟩)
def szOk (n : Nat) : Bool := decide (n ≤ 4000000)
theorem sz_ok {n : Nat} (h : szOk n = true) : n ≤ sizeLine := by
  have : n ≤ 4000000 := of_decide_eq_true h
  have e : sizeLine = 16777216 := sizeLine_eq
  omega
theorem sz_lt {n : Nat} (h : szOk n = true) : n < sizeLine := by
  have : n ≤ 4000000 := of_decide_eq_true h
  have e : sizeLine = 16777216 := sizeLine_eq
  omega
def mTup (m : MA) : ME := fun env Q => m env fun ds => szOk ds.length = true ∧ Q (.tup ds)
def mLst (m : MA) : ME := fun env Q => m env fun ds => szOk ds.length = true ∧ Q (.lst ds)
theorem dn_new_tup {K : PySem.W.Frag} {C : Hp} {pu p : Addr} {ob : Obj} {ds : List D} {xs : List V} (h : Dns K C pu ds xs) (hc : C p = none) (hd : ob.dict = none) : Dn K (upd C p (.frz ob (.tup xs))) pu (.tup ds) (.ref p) :=
  dn_tupP.mpr ⟨p, xs, rfl, .inl ⟨ob, upd_same, hd⟩, h.mono (Ex.new hc)⟩
theorem dn_new_lst {K : PySem.W.Frag} {C : Hp} {pu p : Addr} {ds : List D} {xs : List V} (h : Dns K C pu ds xs) (hc : C p = none) : Dn K (upd C p (.lst xs)) pu (.lst ds) (.ref p) :=
  dn_lst.mpr ⟨p, xs, rfl, upd_same, h.mono (Ex.new hc)⟩
theorem pd_tup {es : List Expr} {m : MA} {x1} (h : PDA X es m) : PD X (.Tuple es x1 pos) (mTup m) := by
  refine ⟨pe_imp (pe_tupF h.run) fun σ H Q q => ?_, fun env Q Q' i q => h.mono env _ _ (fun ds ⟨a, q⟩ => ⟨a, i _ q⟩) q⟩
  obtain ⟨z, C, env, o, r, q⟩ := q
  exact liftA_use h.mono o r q fun ds vs C' H' ⟨hz, p⟩ t dn => ⟨by rw [dn.len]; exact sz_ok hz, fun p' ob hd hp => p _ _ _ (t.trans (Tr.put t.ok hp)) (dn_new_tup dn (fresh_back t.ok.ex hp) hd)⟩
theorem pd_lst {es : List Expr} {m : MA} (h : PDA X es m) : PD X (.List es pos) (mLst m) := by
  refine ⟨pe_imp (pe_lst h.run) fun σ H Q q => ?_, fun env Q Q' i q => h.mono env _ _ (fun ds ⟨a, q⟩ => ⟨a, i _ q⟩) q⟩
  obtain ⟨z, C, env, o, r, q⟩ := q
  exact liftA_use h.mono o r q fun ds vs C' H' ⟨hz, p⟩ t dn => ⟨by rw [dn.len]; exact sz_ok hz, fun p' hp => p _ _ _ (t.trans (Tr.put t.ok hp)) (dn_new_lst dn (fresh_back t.ok.ex hp))⟩

/-! ### calls -/
/-- what a def does, on data -/
abbrev SpD := List D → (D → Prop) → Prop
def liftF (K : PySem.W.Frag) (sp : SpD) : Sp := fun vs H Q _ => ∃ z C ds, ∃ T : D → Prop, Ok z C H ∧ Dns K C z.p ds vs ∧ sp ds T ∧ ∀ d v C' H', T d → Tr z C H C' H' → Dn K C' z.p d v → Q v H'
def CallD (X : Cx) (f : Value) (g : List D → Option D) : Prop :=
  ∃ R : List V → Hp → VK → Prop, CallR X f R ∧ ∀ (z : Pz) (C H : Hp) (ds : List D) (u : D) (xs : List V) (Q : VK), Ok z C H → Dns X.K C z.p ds xs → g ds = some u → (∀ v C' H', Tr z C H C' H' → Dn X.K C' z.p u v → Q v H') → R xs H Q
def mCB (g : List D → Option D) (m : MA) : ME := fun env Q => m env fun ds => ∃ u, g ds = some u ∧ Q u
theorem cb_use {R : List V → Hp → VK → Prop} {g : List D → Option D} {m : MA} {es : List Expr} (h : PDA X es m) (hi : ∀ (z : Pz) (C H : Hp) (ds : List D) (u : D) (xs : List V) (Q : VK), Ok z C H → Dns X.K C z.p ds xs → g ds = some u → (∀ v C' H', Tr z C H C' H' → Dn X.K C' z.p u v → Q v H') → R xs H Q)
    {σ : L2.St} {H : Hp} {Q : VK} (q : lift X.K (mCB g m) σ H Q) : tCB R (liftA X.K m) σ H Q := by
  obtain ⟨z, C, env, o, r, q⟩ := q
  exact liftA_use h.mono o r q fun ds vs C' H' ⟨u, e, p⟩ t dn => hi z C' H' ds u vs Q t.ok dn e fun v C2 H2 t2 => p v C2 H2 (t.trans t2)
theorem mono_cb {g : List D → Option D} {m : MA} (h : MonoA m) : Mono (mCB g m) := fun env Q Q' i q => h env _ _ (fun ds ⟨u, e, q⟩ => ⟨u, e, i _ q⟩) q
theorem pd_callB {x : Str} {p : Pos} {es : List Expr} {m : MA} {id : String} {g : List D → Option D} (hc : CallD X (.builtin id) g) (hg : Gl X x) (hm : X.mg x = none) (hv : bootBuiltins x = some (.builtin id)) (h : PDA X (e :: es) m)
    (hn : x ≠ "__name__" := by decide) (hdb : (x == ("__debug__" : Str)) = false := by decide) (he : starEach (e :: es) X.env = (false, eval e X.env) :: starEach es X.env := by rfl) (hpl : (backTo pos (starEach es X.env)).any (·.1) = false := by rfl) :
    PD X (.Call (.Name x p) (e :: es) [] pos) (mCB g m) := by
  obtain ⟨R, hR, hi⟩ := hc
  exact ⟨pe_imp (pe_callB hR hg hm hv h.run hn hdb he hpl) fun σ H Q q => cb_use h hi q, mono_cb h.mono⟩
theorem pd_callTy {x : Str} {p : Pos} {es : List Expr} {m : MA} {T : String} {g : List D → Option D} (hc : CallD X (.type T) g) (hg : Gl X x) (hm : X.mg x = none) (hv : bootBuiltins x = some (.type T)) (h : PDA X (e :: es) m)
    (hn : x ≠ "__name__" := by decide) (hdb : (x == ("__debug__" : Str)) = false := by decide) (he : starEach (e :: es) X.env = (false, eval e X.env) :: starEach es X.env := by rfl) (hpl : (backTo pos (starEach es X.env)).any (·.1) = false := by rfl) :
    PD X (.Call (.Name x p) (e :: es) [] pos) (mCB g m) := by
  obtain ⟨R, hR, hi⟩ := hc
  exact ⟨pe_imp (pe_callTy hR hg hm hv h.run hn hdb he hpl) fun σ H Q q => cb_use h hi q, mono_cb h.mono⟩
end
end BV


/-! Statements, loops, comprehensions, by value. -/
namespace BV
open PySem PySem.Spec PyProof.Rows L2 Evl

abbrev SEnv := List (Option (Bool × D))
def view (rs : List Nat) : Nat → SEnv → Env
  | _, [] => []
  | k, o :: r => (match o with | none => none | some (false, d) => some d | some (true, d) => if rs.contains k then some d else none) :: view rs (k + 1) r
def frz (rs : List Nat) : Nat → SEnv → SEnv
  | _, [] => []
  | k, o :: r => (match o with | none => none | some (false, d) => some (false, d) | some (true, d) => some (!rs.contains k, d)) :: frz rs (k + 1) r
theorem view_len {rs : List Nat} : ∀ (k : Nat) (env : SEnv), (view rs k env).length = env.length
  | k, [] => rfl
  | k, none :: r => by simp [view, view_len (k + 1) r]
  | k, some (false, d) :: r => by simp [view, view_len (k + 1) r]
  | k, some (true, d) :: r => by simp [view, view_len (k + 1) r]
theorem frz_len {rs : List Nat} : ∀ (k : Nat) (env : SEnv), (frz rs k env).length = env.length
  | k, [] => rfl
  | k, none :: r => by simp [frz, frz_len (k + 1) r]
  | k, some (false, d) :: r => by simp [frz, frz_len (k + 1) r]
  | k, some (true, d) :: r => by simp [frz, frz_len (k + 1) r]
theorem view_at {rs : List Nat} : ∀ {k : Nat} {env : SEnv} {i : Nat} {d : D}, (view rs k env)[i]? = some (some d) → env[i]? = some (some (false, d)) ∨ (env[i]? = some (some (true, d)) ∧ k + i ∈ rs)
  | k, [], i, d, h => by simp [view] at h
  | k, none :: r, 0, d, h => by simp [view] at h
  | k, some (false, c) :: r, 0, d, h => by simp [view] at h; simp [h]
  | k, some (true, c) :: r, 0, d, h => by
    simp only [view, List.getElem?_cons_zero, Option.some.injEq] at h
    split at h
    · rename_i hc
      cases h
      exact .inr ⟨rfl, by simpa using hc⟩
    · cases h
  | k, none :: r, i + 1, d, h => by
    have := view_at (rs := rs) (k := k + 1) (env := r) (i := i) (d := d) (by simpa [view] using h)
    simpa [Nat.add_assoc, Nat.add_comm 1 i] using this
  | k, some (false, c) :: r, i + 1, d, h => by
    have := view_at (rs := rs) (k := k + 1) (env := r) (i := i) (d := d) (by simpa [view] using h)
    simpa [Nat.add_assoc, Nat.add_comm 1 i] using this
  | k, some (true, c) :: r, i + 1, d, h => by
    have := view_at (rs := rs) (k := k + 1) (env := r) (i := i) (d := d) (by simpa [view] using h)
    simpa [Nat.add_assoc, Nat.add_comm 1 i] using this
theorem frz_sh {rs : List Nat} : ∀ {k : Nat} {env : SEnv} {i : Nat} {d : D}, (frz rs k env)[i]? = some (some (false, d)) → env[i]? = some (some (false, d)) ∨ (env[i]? = some (some (true, d)) ∧ k + i ∈ rs)
  | k, [], i, d, h => by simp [frz] at h
  | k, none :: r, 0, d, h => by simp [frz] at h
  | k, some (false, c) :: r, 0, d, h => by simp [frz] at h; simp [h]
  | k, some (true, c) :: r, 0, d, h => by
    simp only [frz, List.getElem?_cons_zero, Option.some.injEq, Prod.mk.injEq] at h
    exact .inr ⟨by simp [h.2], by simpa using h.1⟩
  | k, none :: r, i + 1, d, h => by
    have := frz_sh (rs := rs) (k := k + 1) (env := r) (i := i) (d := d) (by simpa [frz] using h)
    simpa [Nat.add_assoc, Nat.add_comm 1 i] using this
  | k, some (false, c) :: r, i + 1, d, h => by
    have := frz_sh (rs := rs) (k := k + 1) (env := r) (i := i) (d := d) (by simpa [frz] using h)
    simpa [Nat.add_assoc, Nat.add_comm 1 i] using this
  | k, some (true, c) :: r, i + 1, d, h => by
    have := frz_sh (rs := rs) (k := k + 1) (env := r) (i := i) (d := d) (by simpa [frz] using h)
    simpa [Nat.add_assoc, Nat.add_comm 1 i] using this
theorem frz_own {rs : List Nat} : ∀ {k : Nat} {env : SEnv} {i : Nat} {d : D}, (frz rs k env)[i]? = some (some (true, d)) → env[i]? = some (some (true, d)) ∧ ¬ k + i ∈ rs
  | k, [], i, d, h => by simp [frz] at h
  | k, none :: r, 0, d, h => by simp [frz] at h
  | k, some (false, c) :: r, 0, d, h => by simp [frz] at h
  | k, some (true, c) :: r, 0, d, h => by
    simp only [frz, List.getElem?_cons_zero, Option.some.injEq, Prod.mk.injEq] at h
    exact ⟨by simp [h.2], by simpa using h.1⟩
  | k, none :: r, i + 1, d, h => by
    have := frz_own (rs := rs) (k := k + 1) (env := r) (i := i) (d := d) (by simpa [frz] using h)
    simpa [Nat.add_assoc, Nat.add_comm 1 i] using this
  | k, some (false, c) :: r, i + 1, d, h => by
    have := frz_own (rs := rs) (k := k + 1) (env := r) (i := i) (d := d) (by simpa [frz] using h)
    simpa [Nat.add_assoc, Nat.add_comm 1 i] using this
  | k, some (true, c) :: r, i + 1, d, h => by
    have := frz_own (rs := rs) (k := k + 1) (env := r) (i := i) (d := d) (by simpa [frz] using h)
    simpa [Nat.add_assoc, Nat.add_comm 1 i] using this

/-- what an own list or dict holds -/
def Hl (K : PySem.W.Frag) (C : Hp) (pu : Addr) : D → HO → Prop
  | .lst ds, u => ∃ xs, u = .lst xs ∧ Dns K C pu ds xs
  | .dic ks vs, u => ∃ kvs, u = .dK kvs ∧ kvs.map (·.1) = ks ∧ Dns K C pu vs (kvs.map (·.2))
  | _, _ => False
theorem Hl.mono {K : PySem.W.Frag} {C C' : Hp} {pu : Addr} {d : D} {u : HO} (h : Hl K C pu d u) (e : Ex C C') : Hl K C' pu d u := by
  cases d with
  | lst ds => obtain ⟨xs, h1, h2⟩ := h; exact ⟨xs, h1, h2.mono e⟩
  | dic ks vs => obtain ⟨kvs, h1, h2, h3⟩ := h; exact ⟨kvs, h1, h2, h3.mono e⟩
  | _ => exact h.elim
theorem Hl.kind {K : PySem.W.Frag} {C : Hp} {pu : Addr} {d : D} {u : HO} (h : Hl K C pu d u) : (∃ xs, u = .lst xs) ∨ ∃ kvs, u = .dK kvs := by
  cases d with
  | lst ds => obtain ⟨xs, h1, h2⟩ := h; exact .inl ⟨xs, h1⟩
  | dic ks vs => obtain ⟨kvs, h1, h2, h3⟩ := h; exact .inr ⟨kvs, h1⟩
  | _ => exact h.elim
theorem Hl.dn {K : PySem.W.Frag} {C : Hp} {pu a : Addr} {d : D} {u : HO} (h : Hl K C pu d u) (e : C a = some u) : Dn K C pu d (.ref a) := by
  cases d with
  | lst ds => obtain ⟨xs, h1, h2⟩ := h; subst h1; exact dn_lst.mpr ⟨a, xs, rfl, e, h2⟩
  | dic ks vs => obtain ⟨kvs, h1, h2, h3⟩ := h; subst h1; exact dn_dic.mpr ⟨a, kvs, rfl, e, h2, h3⟩
  | _ => exact h.elim
/-- the state of a def's body: what it may lean on (shared), what is its own alone -/
structure SR (K : PySem.W.Frag) (z : Pz) (C0 H0 Cb C : Hp) (env : SEnv) (σ : L2.St) (H : Hp) : Prop where
  o0 : Ok z C0 H0
  tr : Tr z C0 H0 C H
  cb : Ex Cb C
  len : env.length = σ.length
  sh : ∀ (i : Nat) (d : D), env[i]? = some (some (false, d)) → ∃ v, σ[i]? = some (some v) ∧ Dn K C z.p d v
  own : ∀ (i : Nat) (d : D), env[i]? = some (some (true, d)) → ∃ a u, σ[i]? = some (some (.ref a)) ∧ C a = none ∧ H a = some u ∧ Hl K C z.p d u ∧ H0 a = none
  dif : ∀ (i j : Nat) (d e : D) (a : Addr), env[i]? = some (some (true, d)) → env[j]? = some (some (true, e)) → σ[i]? = some (some (.ref a)) → σ[j]? = some (some (.ref a)) → i = j

section
variable {K : PySem.W.Frag} {z : Pz} {C0 H0 Cb C H : Hp} {env : SEnv} {σ : L2.St}
theorem SR.nez (s : SR K z C0 H0 Cb C env σ H) {a : Addr} (h : H0 a = none) : a ≠ z.p ∧ a ≠ z.g ∧ a ≠ z.c :=
  ⟨fun e => s.o0.pur.pn (by rw [← e]; exact h), fun e => s.o0.pur.gn (by rw [← e]; exact h), fun e => s.o0.pur.cn (by rw [← e]; exact h)⟩
/-- the addresses of the slots rs that are own -/
def OwnAt (rs : List Nat) (env : SEnv) (σ : L2.St) (a : Addr) : Prop := ∃ i d, i ∈ rs ∧ env[i]? = some (some (true, d)) ∧ σ[i]? = some (some (.ref a))
open Classical in
noncomputable def coreP (rs : List Nat) (env : SEnv) (σ : L2.St) (C H : Hp) : Hp := fun a => if OwnAt rs env σ a then H a else C a
open Classical in
noncomputable def coreM (rs : List Nat) (env : SEnv) (σ : L2.St) (C : Hp) : Hp := fun a => if OwnAt rs env σ a then none else C a
theorem coreP_in {rs : List Nat} {a : Addr} (h : OwnAt rs env σ a) : coreP rs env σ C H a = H a := by unfold coreP; rw [if_pos h]
theorem coreP_out {rs : List Nat} {a : Addr} (h : ¬ OwnAt rs env σ a) : coreP rs env σ C H a = C a := by unfold coreP; rw [if_neg h]
theorem coreM_in {rs : List Nat} {a : Addr} (h : OwnAt rs env σ a) : coreM rs env σ C a = none := by unfold coreM; rw [if_pos h]
theorem coreM_out {rs : List Nat} {a : Addr} (h : ¬ OwnAt rs env σ a) : coreM rs env σ C a = C a := by unfold coreM; rw [if_neg h]
theorem SR.ownAt (s : SR K z C0 H0 Cb C env σ H) {rs : List Nat} {a : Addr} (h : OwnAt rs env σ a) : C a = none ∧ (∃ u, H a = some u ∧ ((∃ xs, u = .lst xs) ∨ ∃ kvs, u = .dK kvs)) ∧ H0 a = none := by
  obtain ⟨i, d, _, h1, h2⟩ := h
  obtain ⟨b, u, e2, e3, e4, e5, e6⟩ := s.own i d h1
  rw [h2] at e2
  cases e2
  exact ⟨e3, ⟨u, e4, e5.kind⟩, e6⟩
/-- an own list -/
theorem SR.ownL (s : SR K z C0 H0 Cb C env σ H) (i : Nat) (d : List D) (h : env[i]? = some (some (true, .lst d))) : ∃ a ds xs, D.lst d = .lst ds ∧ σ[i]? = some (some (.ref a)) ∧ C a = none ∧ H a = some (.lst xs) ∧ Dns K C z.p ds xs ∧ H0 a = none := by
  obtain ⟨a, u, e2, e3, e4, ⟨xs, e5, e6⟩, e7⟩ := s.own i _ h
  subst e5
  exact ⟨a, d, xs, rfl, e2, e3, e4, e6, e7⟩
theorem SR.exP (s : SR K z C0 H0 Cb C env σ H) (rs : List Nat) : Ex C (coreP rs env σ C H) := fun a o e => by
  have : ¬ OwnAt rs env σ a := fun h => by rw [(s.ownAt h).1] at e; cases e
  rw [coreP_out this]
  exact e
theorem SR.okP (s : SR K z C0 H0 Cb C env σ H) (rs : List Nat) : Ok z (coreP rs env σ C H) H := by
  have n : ∀ a, H0 a ≠ none → ¬ OwnAt rs env σ a := fun a e h => e (s.ownAt h).2.2
  refine ⟨fun a o e => ?_, s.tr.ok.pur.at_, ?_, ?_, ?_, s.tr.ok.pur.pg, s.tr.ok.pur.pc, s.tr.ok.pur.gc⟩
  · by_cases h : OwnAt rs env σ a
    · rw [coreP_in h] at e; exact e
    · rw [coreP_out h] at e; exact s.tr.ok.ex a o e
  · rw [coreP_out (n _ s.o0.pur.pn)]; exact s.tr.ok.pur.cp
  · rw [coreP_out (n _ s.o0.pur.gn)]; exact s.tr.ok.pur.cg
  · rw [coreP_out (n _ s.o0.pur.cn)]; exact s.tr.ok.pur.cc
theorem SR.trP (s : SR K z C0 H0 Cb C env σ H) (rs : List Nat) : Tr z C0 H0 (coreP rs env σ C H) H :=
  ⟨s.tr.cc.trans (s.exP rs), s.okP rs, s.tr.keep, fun a e => by rw [coreP_out fun h => e (s.ownAt h).2.2]; exact s.tr.new a e⟩
theorem SR.envP (s : SR K z C0 H0 Cb C env σ H) (rs : List Nat) : EnvR K z (coreP rs env σ C H) (view rs 0 env) σ := by
  refine ⟨by rw [view_len]; exact s.len, fun i d h => ?_⟩
  rcases view_at h with h | ⟨h, hm⟩
  · obtain ⟨v, h1, h2⟩ := s.sh i d h
    exact ⟨v, h1, h2.mono (s.exP rs)⟩
  · obtain ⟨a, u, e2, e3, e4, e5, e6⟩ := s.own i d h
    have ho : OwnAt rs env σ a := ⟨i, _, by simpa using hm, h, e2⟩
    exact ⟨_, e2, (e5.mono (s.exP rs)).dn (by rw [coreP_in ho]; exact e4)⟩
/-- what the slots are behind an expression that read the own slots rs and gave d -/
def aft (rs : List Nat) (d : D) (env : SEnv) : SEnv := if d.lf = true then env else frz rs 0 env
/-- kept: the own slots are not read, nothing else matters -/
theorem SR.thaw (s : SR K z C0 H0 Cb C env σ H) (rs : List Nat) {C' H' : Hp} (t : Tr z (coreP rs env σ C H) H C' H') : SR K z C0 H0 Cb (coreM rs env σ C') env σ H' := by
  have hP := s.trP rs
  have n : ∀ a, H0 a ≠ none → ¬ OwnAt rs env σ a := fun a e h => e (s.ownAt h).2.2
  have ex : Ex C (coreM rs env σ C') := fun a o e => by
    have : ¬ OwnAt rs env σ a := fun h => by rw [(s.ownAt h).1] at e; cases e
    rw [coreM_out this]
    exact t.cc a o (s.exP rs a o e)
  have tt := hP.trans t
  refine ⟨s.o0, ⟨s.tr.cc.trans ex, ⟨fun a o e => ?_, t.ok.pur.at_, ?_, ?_, ?_, t.ok.pur.pg, t.ok.pur.pc, t.ok.pur.gc⟩, tt.keep, fun a e => ?_⟩, s.cb.trans ex, s.len, fun i d h => ?_, fun i d h => ?_, s.dif⟩
  · by_cases h : OwnAt rs env σ a
    · rw [coreM_in h] at e; cases e
    · rw [coreM_out h] at e; exact t.ok.ex a o e
  · rw [coreM_out (n _ s.o0.pur.pn)]; exact t.ok.pur.cp
  · rw [coreM_out (n _ s.o0.pur.gn)]; exact t.ok.pur.cg
  · rw [coreM_out (n _ s.o0.pur.cn)]; exact t.ok.pur.cc
  · rw [coreM_out (n _ e)]; exact tt.new a e
  · obtain ⟨v, h1, h2⟩ := s.sh i d h
    exact ⟨v, h1, h2.mono ex⟩
  · obtain ⟨a, u, e2, e3, e4, e5, e6⟩ := s.own i d h
    have nz := s.nez e6
    refine ⟨a, u, e2, ?_, t.keep a _ e4 nz.1 nz.2.1, e5.mono ex, e6⟩
    by_cases ho : OwnAt rs env σ a
    · exact coreM_in ho
    · rw [coreM_out ho, t.new a (by rw [e4]; exact fun q => nomatch q), coreP_out ho]; exact e3
theorem SR.frozen (s : SR K z C0 H0 Cb C env σ H) (rs : List Nat) {C' H' : Hp} (t : Tr z (coreP rs env σ C H) H C' H') : SR K z C0 H0 Cb C' (frz rs 0 env) σ H' := by
  have ex : Ex C C' := (s.exP rs).trans t.cc
  refine ⟨s.o0, (s.trP rs).trans t, s.cb.trans ex, by rw [frz_len]; exact s.len, fun i d h => ?_, fun i d h => ?_, fun i j d e a h1 h2 h3 h4 => s.dif i j d e a (frz_own h1).1 (frz_own h2).1 h3 h4⟩
  · rcases frz_sh h with h | ⟨h, hm⟩
    · obtain ⟨v, h1, h2⟩ := s.sh i d h
      exact ⟨v, h1, h2.mono ex⟩
    · obtain ⟨a, u, e2, e3, e4, e5, e6⟩ := s.own i d h
      have ho : OwnAt rs env σ a := ⟨i, _, by simpa using hm, h, e2⟩
      exact ⟨_, e2, (e5.mono ex).dn (t.cc a _ (by rw [coreP_in ho]; exact e4))⟩
  · obtain ⟨h, hm⟩ := frz_own h
    obtain ⟨a, u, e2, e3, e4, e5, e6⟩ := s.own i d h
    have nz := s.nez e6
    have ho : ¬ OwnAt rs env σ a := fun ⟨j, e, hj, h1, h2⟩ => by
      have : j = i := s.dif j i e d a h1 h h2 e2
      subst this
      exact hm (by simpa using hj)
    refine ⟨a, u, e2, ?_, t.keep a _ e4 nz.1 nz.2.1, e5.mono ex, e6⟩
    rw [t.new a (by rw [e4]; exact fun q => nomatch q), coreP_out ho]; exact e3
theorem SR.tupSub (s : SR K z C0 H0 Cb C env σ H) (rs : List Nat) {C' H' : Hp} (t : Tr z (coreP rs env σ C H) H C' H') : TupSub K C' (coreM rs env σ C') := by
  have key : ∀ a o, C' a = some o → (∀ ys, o ≠ .lst ys) → (∀ ys, o ≠ .dK ys) → coreM rs env σ C' a = some o := fun a o e ne ne2 => by
    have : ¬ OwnAt rs env σ a := fun h => by
      obtain ⟨_, ⟨u, hy, hk⟩, _⟩ := s.ownAt h
      have := t.cc a _ (by rw [coreP_in h]; exact hy)
      rw [e] at this
      cases this
      rcases hk with ⟨ys, rfl⟩ | ⟨ys, rfl⟩
      · exact ne _ rfl
      · exact ne2 _ rfl
    rw [coreM_out this]
    exact e
  refine ⟨fun a xs h => ?_, fun a xs h => ?_⟩
  · rcases h with (h | ⟨o, h⟩) | h
    · exact .inl (.inl (key a _ h (fun _ q => nomatch q) fun _ q => nomatch q))
    · exact .inl (.inr ⟨o, key a _ h (fun _ q => nomatch q) fun _ q => nomatch q⟩)
    · exact .inr h
  · rcases h with ⟨o, h, hd⟩ | h
    · exact .inl ⟨o, key a _ h (fun _ q => nomatch q) (fun _ q => nomatch q), hd⟩
    · exact .inr h
theorem SR.use (s : SR K z C0 H0 Cb C env σ H) {m : ME} {P : D → Prop} {Q : VK} (rs : List Nat) (hm : Mono m) (q : m (view rs 0 env) P)
    (k : ∀ d v C' H', P d → SR K z C0 H0 Cb C' (aft rs d env) σ H' → Dn K C' z.p d v → Q v H') : lift K m σ H Q := by
  refine ⟨z, _, _, s.okP rs, s.envP rs, hm _ _ _ (fun d p v C' H' t dn => ?_) q⟩
  by_cases hd : d.lf = true
  · refine k d v (coreM rs env σ C') H' p ?_ (dn.lf (s.tupSub rs t) d v hd)
    unfold aft
    rw [if_pos hd]
    exact s.thaw rs t
  · refine k d v C' H' p ?_ dn
    unfold aft
    rw [if_neg hd]
    exact s.frozen rs t
theorem SR.useT (s : SR K z C0 H0 Cb C env σ H) {m : MT} {P : Bool → Prop} {Q : Bool → Hp → Prop} (rs : List Nat) (hm : MonoT m) (q : m (view rs 0 env) P)
    (k : ∀ b C' H', P b → SR K z C0 H0 Cb C' env σ H' → Q b H') : liftT K m σ H Q :=
  ⟨z, _, _, s.okP rs, s.envP rs, hm _ _ _ (fun b p C' H' t => k b _ H' p (s.thaw rs t)) q⟩
theorem get_set_eq {α : Type} {l : List α} {i j : Nat} {x y : α} (h : (l.set i x)[j]? = some y) : (j = i ∧ y = x ∧ i < l.length) ∨ (j ≠ i ∧ l[j]? = some y) := by
  by_cases hij : i = j
  · subst hij
    have hl : i < l.length := by
      have := (List.getElem?_eq_some_iff.mp h).1
      rwa [List.length_set] at this
    rw [List.getElem?_set_self hl] at h
    cases h
    exact .inl ⟨rfl, rfl, hl⟩
  · rw [List.getElem?_set_ne hij] at h
    exact .inr ⟨fun e => hij e.symm, h⟩
/-- a slot gets shared data -/
theorem SR.set (s : SR K z C0 H0 Cb C env σ H) (i : Nat) {d : D} {v : V} (dn : Dn K C z.p d v) : SR K z C0 H0 Cb C (env.set i (some (false, d))) (σ.set i (some v)) H := by
  refine ⟨s.o0, s.tr, s.cb, by rw [List.length_set, List.length_set]; exact s.len, fun j e h => ?_, fun j e h => ?_, fun j l e f a h1 h2 h3 h4 => ?_⟩
  · rcases get_set_eq h with ⟨rfl, h1, h2⟩ | ⟨h1, h2⟩
    · cases h1
      exact ⟨v, by rw [List.getElem?_set_self (by rw [← s.len]; exact h2)], dn⟩
    · rw [List.getElem?_set_ne (Ne.symm h1)]
      exact s.sh j e h2
  · rcases get_set_eq h with ⟨rfl, h1, h2⟩ | ⟨h1, h2⟩
    · cases h1
    · rw [List.getElem?_set_ne (Ne.symm h1)]
      exact s.own j e h2
  · rcases get_set_eq h1 with ⟨_, q, _⟩ | ⟨q1, q2⟩
    · cases q
    · rcases get_set_eq h2 with ⟨_, q, _⟩ | ⟨p1, p2⟩
      · cases q
      · rw [List.getElem?_set_ne (Ne.symm q1)] at h3
        rw [List.getElem?_set_ne (Ne.symm p1)] at h4
        exact s.dif j l e f a q2 p2 h3 h4
/-- a slot gets a list of its own: a is nobody else's -/
theorem SR.setOwnU (s : SR K z C0 H0 Cb C env σ H) (i : Nat) {d : D} {u : HO} {a : Addr} (hC : C a = none) (hH : H a = some u) (dn : Hl K C z.p d u) (h0 : H0 a = none)
    (ne : ∀ j e, env[j]? = some (some (true, e)) → σ[j]? = some (some (.ref a)) → j = i) : SR K z C0 H0 Cb C (env.set i (some (true, d))) (σ.set i (some (.ref a))) H := by
  refine ⟨s.o0, s.tr, s.cb, by rw [List.length_set, List.length_set]; exact s.len, fun j e h => ?_, fun j e h => ?_, fun j l e f b h1 h2 h3 h4 => ?_⟩
  · rcases get_set_eq h with ⟨rfl, h1, h2⟩ | ⟨h1, h2⟩
    · cases h1
    · rw [List.getElem?_set_ne (Ne.symm h1)]
      exact s.sh j e h2
  · rcases get_set_eq h with ⟨rfl, h1, h2⟩ | ⟨h1, h2⟩
    · cases h1
      exact ⟨a, u, by rw [List.getElem?_set_self (by rw [← s.len]; exact h2)], hC, hH, dn, h0⟩
    · rw [List.getElem?_set_ne (Ne.symm h1)]
      exact s.own j e h2
  · have key : ∀ j e, (env.set i (some (true, d)))[j]? = some (some (true, e)) → (σ.set i (some (.ref a)))[j]? = some (some (.ref b)) → (j = i ∧ b = a) ∨ (j ≠ i ∧ env[j]? = some (some (true, e)) ∧ σ[j]? = some (some (.ref b))) := fun j e h1 h3 => by
      rcases get_set_eq h1 with ⟨q, q', ql⟩ | ⟨q1, q2⟩
      · subst q
        rw [List.getElem?_set_self (by rw [← s.len]; exact ql)] at h3
        cases h3
        exact .inl ⟨rfl, rfl⟩
      · rw [List.getElem?_set_ne (Ne.symm q1)] at h3
        exact .inr ⟨q1, q2, h3⟩
    rcases key j e h1 h3 with ⟨p, q⟩ | ⟨p, q, r⟩
    · rcases key l f h2 h4 with ⟨p', q'⟩ | ⟨p', q', r'⟩
      · rw [p, p']
      · subst q
        exact absurd (ne l f q' r') p'
    · rcases key l f h2 h4 with ⟨p', q'⟩ | ⟨p', q', r'⟩
      · subst q'
        exact absurd (ne j e q r) p
      · exact s.dif j l e f b q q' r r'
theorem SR.setOwn (s : SR K z C0 H0 Cb C env σ H) (i : Nat) {ds : List D} {xs : List V} {a : Addr} (hC : C a = none) (hH : H a = some (.lst xs)) (dn : Dns K C z.p ds xs) (h0 : H0 a = none)
    (ne : ∀ j e, env[j]? = some (some (true, e)) → σ[j]? = some (some (.ref a)) → j = i) : SR K z C0 H0 Cb C (env.set i (some (true, .lst ds))) (σ.set i (some (.ref a))) H := s.setOwnU i hC hH ⟨xs, rfl, dn⟩ h0 ne
/-- who an address is new for -/
theorem SR.fresh (s : SR K z C0 H0 Cb C env σ H) {a : Addr} {i : Nat} (h : H a = none) : ∀ j e, env[j]? = some (some (true, e)) → σ[j]? = some (some (.ref a)) → j = i := fun j e hj ha => by
  obtain ⟨b, u, e2, _, e4, _⟩ := s.own j e hj
  rw [ha] at e2
  cases e2
  rw [h] at e4
  cases e4
theorem SR.cb' (s : SR K z C0 H0 Cb C env σ H) : SR K z C0 H0 C C env σ H := ⟨s.o0, s.tr, Ex.refl C, s.len, s.sh, s.own, s.dif⟩
theorem SR.weak {Cb' : Hp} (s : SR K z C0 H0 Cb C env σ H) (e : Ex Cb' Cb) : SR K z C0 H0 Cb' C env σ H := ⟨s.o0, s.tr, e.trans s.cb, s.len, s.sh, s.own, s.dif⟩
/-- the heap goes on, nothing of the def's own -/
theorem SR.next (s : SR K z C0 H0 Cb C env σ H) {C' H' : Hp} (t : Tr z C H C' H') : SR K z C0 H0 Cb C' env σ H' := by
  refine ⟨s.o0, s.tr.trans t, s.cb.trans t.cc, s.len, fun i d h => ?_, fun i d h => ?_, s.dif⟩
  · obtain ⟨v, h1, h2⟩ := s.sh i d h
    exact ⟨v, h1, h2.mono t.cc⟩
  · obtain ⟨a, u, e2, e3, e4, e5, e6⟩ := s.own i d h
    have nz := s.nez e6
    exact ⟨a, u, e2, (t.new a (by rw [e4]; exact fun q => nomatch q)).trans e3, t.keep a _ e4 nz.1 nz.2.1, e5.mono t.cc, e6⟩
/-- an own list changes -/
theorem SR.writeU (s : SR K z C0 H0 Cb C env σ H) {i : Nat} {d d' : D} {a : Addr} {u : HO} (hi : env[i]? = some (some (true, d))) (ha : σ[i]? = some (some (.ref a))) (dn : Hl K C z.p d' u) :
    SR K z C0 H0 Cb C (env.set i (some (true, d'))) σ (upd H a u) := by
  obtain ⟨b, u0, e2, e3, e4, e5, e6⟩ := s.own i d hi
  rw [ha] at e2
  cases e2
  have nz := s.nez e6
  have hil : i < env.length := (List.getElem?_eq_some_iff.mp hi).1
  refine ⟨s.o0, ⟨s.tr.cc, ⟨fun c o e => ?_, ?_⟩, fun c o e n1 n2 => ?_, s.tr.new⟩, s.cb, by rw [List.length_set]; exact s.len, fun j e h => ?_, fun j e h => ?_, fun j l e f b h1 h2 h3 h4 => ?_⟩
  · have : c ≠ a := fun q => by rw [q, e3] at e; cases e
    rw [upd_ne this]
    exact s.tr.ok.ex c o e
  · obtain ⟨gs, cs, sm, k, h1, h2, h3, h4⟩ := s.tr.ok.pur.at_
    exact ⟨⟨gs, cs, sm, k, by rw [upd_ne nz.1.symm]; exact h1, by rw [upd_ne nz.2.1.symm]; exact h2, by rw [upd_ne nz.2.2.symm]; exact h3, h4⟩, s.tr.ok.pur.cp, s.tr.ok.pur.cg, s.tr.ok.pur.cc, s.tr.ok.pur.pg, s.tr.ok.pur.pc, s.tr.ok.pur.gc⟩
  · have : c ≠ a := fun q => by rw [q, e6] at e; cases e
    rw [upd_ne this]
    exact s.tr.keep c o e n1 n2
  · rcases get_set_eq h with ⟨rfl, h1, h2⟩ | ⟨h1, h2⟩
    · cases h1
    · exact s.sh j e h2
  · rcases get_set_eq h with ⟨rfl, h1, h2⟩ | ⟨h1, h2⟩
    · cases h1
      exact ⟨a, u, ha, e3, upd_same, dn, e6⟩
    · obtain ⟨b, u1, f2, f3, f4, f5, f6⟩ := s.own j e h2
      have : b ≠ a := fun q => by
        subst q
        exact h1 (s.dif j i e d b h2 hi f2 ha)
      exact ⟨b, u1, f2, f3, by rw [upd_ne this]; exact f4, f5, f6⟩
  · have key : ∀ j e, (env.set i (some (true, d')))[j]? = some (some (true, e)) → ∃ e', env[j]? = some (some (true, e')) := fun j e h => by
      rcases get_set_eq h with ⟨rfl, _, _⟩ | ⟨_, h2⟩
      · exact ⟨d, hi⟩
      · exact ⟨e, h2⟩
    obtain ⟨e', k1⟩ := key j e h1
    obtain ⟨f', k2⟩ := key l f h2
    exact s.dif j l e' f' b k1 k2 h3 h4
theorem SR.write (s : SR K z C0 H0 Cb C env σ H) {i : Nat} {d : D} {a : Addr} {ds : List D} {xs : List V} (hi : env[i]? = some (some (true, d))) (ha : σ[i]? = some (some (.ref a))) (dn : Dns K C z.p ds xs) :
    SR K z C0 H0 Cb C (env.set i (some (true, .lst ds))) σ (upd H a (.lst xs)) := s.writeU hi ha ⟨xs, rfl, dn⟩
end

/-! ### statements -/
structure EndD where
  nx : SEnv → Prop
  rt : D → Prop
  bk : SEnv → Prop
  ct : SEnv → Prop
structure EndD.Le (E E' : EndD) : Prop where
  nx : ∀ e, E.nx e → E'.nx e
  rt : ∀ d, E.rt d → E'.rt d
  bk : ∀ e, E.bk e → E'.bk e
  ct : ∀ e, E.ct e → E'.ct e
abbrev MS := EndD → SEnv → Prop
def MonoS (m : MS) : Prop := ∀ E E' env, EndD.Le E E' → m E env → m E' env
section
variable (K : PySem.W.Frag) (z : Pz) (C0 H0 Cb : Hp)
def endsOf (D : Ends) : EndD where
  nx := fun env' => ∀ σ' C' H', SR K z C0 H0 Cb C' env' σ' H' → D.nx σ' H'
  rt := fun d => ∀ v C' H', Tr z C0 H0 C' H' → Dn K C' z.p d v → D.rt v H'
  bk := fun env' => ∀ σ' C' H', SR K z C0 H0 Cb C' env' σ' H' → D.bk σ' H'
  ct := fun env' => ∀ σ' C' H', SR K z C0 H0 Cb C' env' σ' H' → D.ct σ' H'
def liftS (m : MS) : TS := fun D σ H => ∃ C env, SR K z C0 H0 Cb C env σ H ∧ m (endsOf K z C0 H0 Cb D) env
end
structure PDS (X : Cx) (st : Stmt) (m : MS) : Prop where
  run : ∀ z C0 H0 Cb, PS X st (liftS X.K z C0 H0 Cb m)
  mono : MonoS m
structure PDSs (X : Cx) (st : List Stmt) (m : MS) : Prop where
  run : ∀ z C0 H0 Cb, PSs X st (liftS X.K z C0 H0 Cb m)
  mono : MonoS m
theorem ps_imp {X : Cx} {st : Stmt} {t t' : TS} (h : PS X st t) (i : ∀ D σ H, t' D σ H → t D σ H) : PS X st t' := ⟨fun pins s σ H D I q => h.run pins s σ H D I (i D σ H q)⟩
theorem pss_imp {X : Cx} {st : List Stmt} {t t' : TS} (h : PSs X st t) (i : ∀ D σ H, t' D σ H → t D σ H) : PSs X st t' := ⟨fun pins s σ H D I q => h.run pins s σ H D I (i D σ H q)⟩
def mNext : MS := fun E env => E.nx env
def mSeq (m n : MS) : MS := fun E env => m { E with nx := fun env' => n E env' } env
def mBreak : MS := fun E env => E.bk env
def mCont : MS := fun E env => E.ct env
section
variable {X : Cx} {st : Stmt} {rest : List Stmt} {m n : MS} {e : Expr} {pos : Pos} {me : ME}
theorem EndD.Le.refl (E : EndD) : EndD.Le E E := ⟨fun _ h => h, fun _ h => h, fun _ h => h, fun _ h => h⟩
theorem pdss_nil : PDSs X [] mNext :=
  ⟨fun z C0 H0 Cb => pss_imp pss_nil fun N σ H ⟨C, env, s, q⟩ => q σ C H s, fun E E' env l q => l.nx _ q⟩
theorem pds_pass : PDS X (.Pass pos) mNext :=
  ⟨fun z C0 H0 Cb => ps_imp ps_pass fun N σ H ⟨C, env, s, q⟩ => q σ C H s, fun E E' env l q => l.nx _ q⟩
theorem pds_break : PDS X (.Break pos) mBreak :=
  ⟨fun z C0 H0 Cb => ps_imp ps_break fun N σ H ⟨C, env, s, q⟩ => q σ C H s, fun E E' env l q => l.bk _ q⟩
theorem pds_continue : PDS X (.Continue pos) mCont :=
  ⟨fun z C0 H0 Cb => ps_imp ps_continue fun N σ H ⟨C, env, s, q⟩ => q σ C H s, fun E E' env l q => l.ct _ q⟩
theorem pdss_cons (h : PDS X st m) (k : PDSs X rest n) : PDSs X (st :: rest) (mSeq m n) := by
  refine ⟨fun z C0 H0 Cb => pss_imp (pss_cons (h.run z C0 H0 Cb) (k.run z C0 H0 Cb)) fun N σ H ⟨C, env, s, q⟩ => ⟨C, env, s, ?_⟩, fun E E' env l q => ?_⟩
  · exact h.mono { endsOf X.K z C0 H0 Cb N with nx := fun env' => n (endsOf X.K z C0 H0 Cb N) env' } _ env ⟨fun e q σ' C' H' s' => ⟨C', e, s', q⟩, fun _ h => h, fun _ h => h, fun _ h => h⟩ q
  · exact h.mono { E with nx := fun env' => n E env' } _ env ⟨fun e q => k.mono _ _ _ l q, l.rt, l.bk, l.ct⟩ q
theorem pdss_one (h : PDS X st m) : PDSs X [st] m :=
  ⟨fun z C0 H0 Cb => pss_one (h.run z C0 H0 Cb), h.mono⟩
/-- return e; the own lists rs are read in e -/
def mRet (rs : List Nat) (me : ME) : MS := fun E env => me (view rs 0 env) fun d => E.rt d
theorem pds_ret (rs : List Nat) (h : PD X e me) : PDS X (.Return (some e) pos) (mRet rs me) := by
  refine ⟨fun z C0 H0 Cb => ps_imp (ps_ret h.run) fun N σ H ⟨C, env, s, q⟩ => ?_, fun E E' env l q => h.mono _ _ _ (fun d q => l.rt _ q) q⟩
  exact s.use rs h.mono q fun d v C' H' p s' dn => p v C' H' s'.tr dn
def mRetN : MS := fun E env => E.rt .non
theorem pds_retN : PDS X (.Return none pos) mRetN :=
  ⟨fun z C0 H0 Cb => ps_imp ps_retN fun N σ H ⟨C, env, s, q⟩ => q .non C H s.tr (dn_non.mpr rfl), fun E E' env l q => l.rt _ q⟩
/-- x = e -/
def mAsg (rs : List Nat) (i : Nat) (me : ME) : MS := fun E env => me (view rs 0 env) fun d => E.nx ((aft rs d env).set i (some (false, d)))
theorem pds_asg (rs : List Nat) {i : Nat} (h : PD X e me) (hp : PS X st (tAsg (lift X.K me) (gName i))) : PDS X st (mAsg rs i me) := by
  refine ⟨fun z C0 H0 Cb => ps_imp hp fun N σ H ⟨C, env, s, q⟩ => ?_, fun E E' env l q => h.mono _ _ _ (fun d q => l.nx _ q) q⟩
  exact s.use rs h.mono q fun d v C' H' p s' dn => p _ C' H' (s'.set i dn)
def mIfS (rs : List Nat) (mt : MT) (m n : MS) : MS := fun E env => mt (view rs 0 env) fun b => if b = true then m E env else n E env
theorem pds_if (rs : List Nat) {a b : List Stmt} {mt : MT} (hc : PDT X e mt) (h : PDSs X a m) (k : PDSs X b n) : PDS X (.If e a b pos) (mIfS rs mt m n) := by
  refine ⟨fun z C0 H0 Cb => ps_imp (ps_if hc.run (h.run z C0 H0 Cb) (k.run z C0 H0 Cb)) fun N σ H ⟨C, env, s, q⟩ => ?_, fun E E' env l q => hc.mono _ _ _ (fun b q => ?_) q⟩
  · refine s.useT rs hc.mono q fun b C' H' p s' => ?_
    cases b with
    | true => exact ⟨C', env, s', p⟩
    | false => exact ⟨C', env, s', p⟩
  · cases b with
    | true => exact h.mono _ _ _ l q
    | false => exact k.mono _ _ _ l q
def mDrop (rs : List Nat) (me : ME) : MS := fun E env => me (view rs 0 env) fun d => E.nx (aft rs d env)
theorem pds_expr (rs : List Nat) (h : PD X e me) (hs : swapsWith e none pos.line X.env = pure false := by rfl) : PDS X (.Expr e pos) (mDrop rs me) := by
  refine ⟨fun z C0 H0 Cb => ps_imp (ps_expr h.run hs) fun N σ H ⟨C, env, s, q⟩ => ?_, fun E E' env l q => h.mono _ _ _ (fun d q => l.nx _ q) q⟩
  exact s.use rs h.mono q fun d v C' H' p s' dn => p _ C' H' s'

/-! ### fresh lists -/
def liftO (K : PySem.W.Frag) (m : MA) : TE := fun σ H Q => ∃ z C env, Ok z C H ∧ EnvR K z C env σ ∧ m env fun ds => ∀ a xs C' H', Tr z C H C' H' → H a = none → C' a = none → H' a = some (.lst xs) → Dns K C' z.p ds xs → Q (.ref a) H'
structure PDO (X : Cx) (e : Expr) (m : MA) : Prop where
  run : PE X e (liftO X.K m)
  mono : MonoA m
theorem Tr.free {z : Pz} {C H C' H' : Hp} (t : Tr z C H C' H') {a : Addr} (h : H' a = none) : H a = none := by
  cases e : H a with
  | none => rfl
  | some o => exact absurd h (t.there (by rw [e]; exact fun q => nomatch q))
def moLst (m : MA) : MA := fun env Q => m env fun ds => szOk ds.length = true ∧ Q ds
theorem pdo_lst {es : List Expr} {m : MA} (h : PDA X es m) : PDO X (.List es pos) (moLst m) := by
  refine ⟨pe_imp (pe_lst h.run) fun σ H Q q => ?_, fun env Q Q' i q => h.mono env _ _ (fun ds ⟨a, q⟩ => ⟨a, i _ q⟩) q⟩
  obtain ⟨z, C, env, o, r, q⟩ := q
  refine liftA_use h.mono o r q fun ds vs C' H' ⟨hz, p⟩ t dn => ⟨by rw [dn.len]; exact sz_ok hz, fun p' hp => ?_⟩
  have hc : C' p' = none := fresh_back t.ok.ex hp
  exact p p' vs C' _ (t.trans (Tr.ext t.ok (Ex.new hp))) (t.free hp) hc upd_same dn
def mLstO (m : MA) : ME := fun env Q => m env fun ds => Q (.lst ds)
/-- a fresh list as data -/
theorem pd_ofO {m : MA} (h : PDO X e m) : PD X e (mLstO m) := by
  refine ⟨pe_imp h.run fun σ H Q q => ?_, fun env Q Q' i q => h.mono env _ _ (fun ds q => i _ q) q⟩
  obtain ⟨z, C, env, o, r, q⟩ := q
  refine ⟨z, C, env, o, r, h.mono env _ _ (fun ds q a xs C' H' t h1 h2 h3 dn => ?_) q⟩
  have hz : ∀ b, H b ≠ none → b ≠ a := fun b hb e => hb (by rw [e]; exact h1)
  refine q (.ref a) (upd C' a (.lst xs)) H' ⟨t.cc.trans (Ex.new h2), ⟨fun b u e => ?_, ?_⟩, t.keep, fun b hb => ?_⟩ (dn_new_lst dn h2)
  · by_cases hb : b = a
    · subst hb; rw [upd_same] at e; cases e; exact h3
    · rw [upd_ne hb] at e; exact t.ok.ex b u e
  · obtain ⟨gs, cs, s, k, g1, g2, g3, g4⟩ := t.ok.pur.at_
    exact ⟨⟨gs, cs, s, k, g1, g2, g3, g4⟩, by rw [upd_ne (hz _ o.pur.pn)]; exact t.ok.pur.cp, by rw [upd_ne (hz _ o.pur.gn)]; exact t.ok.pur.cg, by rw [upd_ne (hz _ o.pur.cn)]; exact t.ok.pur.cc, t.ok.pur.pg, t.ok.pur.pc, t.ok.pur.gc⟩
  · rw [upd_ne (hz b hb)]; exact t.new b hb
/-- x = a fresh list that stays the def's own; the items read no own list, or hold none -/
def mAsgO (rs : List Nat) (i : Nat) (m : MA) : MS := fun E env => m (view rs 0 env) fun ds => D.lfs ds = true ∧ E.nx (env.set i (some (true, .lst ds)))
theorem useO {K : PySem.W.Frag} {z : Pz} {C0 H0 Cb C H : Hp} {env : SEnv} {σ : L2.St} (s : SR K z C0 H0 Cb C env σ H) {m : MA} {P : List D → Prop} {Q : VK} (rs : List Nat) (hm : MonoA m) (q : m (view rs 0 env) fun ds => D.lfs ds = true ∧ P ds)
    (k : ∀ ds xs a C' H', P ds → SR K z C0 H0 Cb C' env σ H' → C' a = none → H' a = some (.lst xs) → Dns K C' z.p ds xs → H a = none → Q (.ref a) H') : liftO K m σ H Q := by
  refine ⟨z, _, _, s.okP rs, s.envP rs, hm _ _ _ (fun ds ⟨l, p⟩ a xs C' H' t h1 h2 h3 dn => ?_) q⟩
  have hn : ¬ OwnAt rs env σ a := fun h => by
    obtain ⟨_, ⟨u, hy, _⟩, _⟩ := s.ownAt h
    rw [h1] at hy; cases hy
  exact k ds xs a _ H' p (s.thaw rs t) (by rw [coreM_out hn]; exact h2) h3 (dn.lf (s.tupSub rs t) ds xs l) h1
theorem pds_asgO (rs : List Nat) {i : Nat} {m : MA} (h : PDO X e m) (hp : PS X st (tAsg (liftO X.K m) (gName i))) : PDS X st (mAsgO rs i m) := by
  refine ⟨fun z C0 H0 Cb => ps_imp hp fun N σ H ⟨C, env, s, q⟩ => ?_, fun E E' env l q => h.mono _ _ _ (fun d ⟨a, q⟩ => ⟨a, l.nx _ q⟩) q⟩
  refine useO s rs h.mono q fun ds xs a C' H' p s' h2 h3 dn h1 => p _ C' H' (s'.setOwn i h2 h3 dn (s.tr.free h1) (s.fresh h1))
/-- x.append(e), x an own list -/
def mApp (rs : List Nat) (i : Nat) (me : ME) : MS := fun E env => (∃ ds0, env[i]? = some (some (true, .lst ds0))) ∧ me (view rs 0 env) fun d => ∃ ds, (aft rs d env)[i]? = some (some (true, .lst ds)) ∧ szOk (ds.length + 1) = true ∧ E.nx ((aft rs d env).set i (some (true, .lst (ds ++ [d]))))
theorem pds_app (rs : List Nat) {i : Nat} {o : Expr} {apos cpos : Pos} (ho : PE X o (tVar i)) (h : PD X e me)
    (h1 : attributeBase o "append" X.env (eval o X.env) = eval o X.env := by rfl)
    (h2 : ((((backTo cpos (starEach [e] X.env)).all fun x => !x.1) && ((backToKw cpos (keywordEach [] X.env)).all fun x => x.1.isSome) && decide (([e] : List Expr).length + ([] : List Keyword).length + (if ([] : List Keyword).isEmpty = true then 0 else 1) < 30)) = true) := by rfl)
    (h3 : (apos.endLine == cpos.line) = true := by rfl) (h4 : starEach [e] X.env = (false, eval e X.env) :: starEach [] X.env := by rfl) (h5 : ((backTo cpos (starEach [] X.env)).any fun x => x.1) = false := by rfl)
    (hs : swapsWith (.Call (.Attribute o "append" apos) [e] [] cpos) none pos.line X.env = pure false := by rfl) : PDS X (.Expr (.Call (.Attribute o "append" apos) [e] [] cpos) pos) (mApp rs i me) := by
  refine ⟨fun z C0 H0 Cb => ps_imp (ps_expr (pe_bm PySem.F.plainAttrs_list PySem.F.slot_list_append PySem.F.type_list_append mt_append ho (pa_cons h.run pa_nil h4) h1 h2 h3 h4 h5) hs) fun N σ H ⟨C, env, s, q⟩ => ?_,
    fun E E' env l ⟨q0, q⟩ => ⟨q0, h.mono _ _ _ (fun d ⟨ds, e1, e2, q⟩ => ⟨ds, e1, e2, l.nx _ q⟩) q⟩⟩
  obtain ⟨⟨ds0, h0⟩, q⟩ := q
  obtain ⟨a, _, xs, _, ea, _, eH, _⟩ := s.ownL i _ h0
  refine ⟨.ref a, ea, .inl ⟨rfl, xs, sq_of eH⟩, ?_⟩
  refine s.use rs h.mono q fun d v C' H' ⟨ds, e1, e2, p⟩ s' dn => ?_
  obtain ⟨b, ds', ys, f1, f2, f3, f4, f5, f6⟩ := s'.ownL i _ e1
  rw [ea] at f2
  cases f2
  cases f1
  have hl := f5.len
  refine ⟨a, ys, v, rfl, rfl, f4, sz_lt (by unfold szOk at e2 ⊢; rw [hl]; simp at e2 ⊢; omega), ?_⟩
  exact p σ C' _ (s'.write e1 ea (f5.app (Dns.one dn)))
end
end BV

/-! Loops and comprehensions, by value. -/
namespace BV
open PySem PySem.Spec PyProof.Rows L2 Evl

/-! ### what is walked -/
/-- the walk J gives the items, each new pair into the core -/
structure ItD (K : PySem.W.Frag) (z : Pz) (J : It) (items : List D) (C : Hp) : Prop where
  ex : ∃ (G : Hp → Prop) (Y : Nat → Hp → V → Hp → Prop), Walk J items.length G Y ∧ (∀ H', Ex C H' → G H') ∧
    ∀ i Ha x Hb, i < items.length → Y i Ha x Hb → ∀ C1, Ex C C1 → Ok z C1 Ha → ∃ d C2, items[i]? = some d ∧ Tr z C1 Ha C2 Hb ∧ Dn K C2 z.p d x
abbrev MI := Env → (List D → Prop) → Prop
def liftI (K : PySem.W.Frag) (m : MI) : TI := fun σ H R => ∃ z C env, Ok z C H ∧ EnvR K z C env σ ∧ m env fun items => ∀ J C' H', Tr z C H C' H' → ItD K z J items C' → R J H'
structure PDI (X : Cx) (tg it : Expr) (m : MI) : Prop where
  run : PI X tg it (liftI X.K m)
  mono : MonoA m
theorem pi_imp {X : Cx} {tg it : Expr} {t t' : TI} (h : PI X tg it t) (i : ∀ σ H R, t' σ H R → t σ H R) : PI X tg it t' := ⟨fun pins s σ H R I q => h.run pins s σ H R I (i σ H R q)⟩
section
variable {X : Cx} {tg l : Expr} {ml : ME} {z : Pz} {C : Hp} {K : PySem.W.Frag}
theorem itd_list {a : Addr} {xs : List V} {ds : List D} (h : SqL K C a xs) (dn : Dns K C z.p ds xs) : ItD K z (Itl K a) ds C :=
  ⟨_, _, by rw [← dn.len]; exact walk_list, fun H' e => ex_l e h, fun i Ha x Hb hi y C1 e o => by
    obtain ⟨rfl, y⟩ := y
    obtain ⟨d, h1, h2⟩ := dn.get' y
    exact ⟨d, C1, h1, Tr.refl o, h2.mono e⟩⟩
theorem itd_tup {a : Addr} {xs : List V} {ds : List D} (h : SqT K C a xs) (dn : Dns K C z.p ds xs) : ItD K z (Itt K a) ds C :=
  ⟨_, _, by rw [← dn.len]; exact walk_tup, fun H' e => ex_t e h, fun i Ha x Hb hi y C1 e o => by
    obtain ⟨rfl, y⟩ := y
    obtain ⟨d, h1, h2⟩ := dn.get' y
    exact ⟨d, C1, h1, Tr.refl o, h2.mono e⟩⟩
def chars (x : Str) : List D := x.cps.toList.map fun c => .str ⟨#[c]⟩
theorem itd_str {x : Str} : ItD K z (Its x) (chars x) C :=
  ⟨_, _, by show Walk _ (x.cps.toList.map _).length _ _; rw [List.length_map, Array.length_toList]; exact walk_str, fun H' e => trivial, fun i Ha v Hb hi y C1 e o => by
    obtain ⟨rfl, c, h1, rfl⟩ := y
    refine ⟨.str ⟨#[c]⟩, C1, ?_, Tr.refl o, dn_str.mpr rfl⟩
    unfold chars
    rw [List.getElem?_map, Array.getElem?_toList, h1]
    rfl⟩
def itemsD : D → Option (List D)
  | .lst ds => some ds
  | .tup ds => some ds
  | .pr ds => some ds
  | .str x => some (chars x)
  | _ => none
def mSeqI (ml : ME) : MI := fun env P => ml env fun d => ∃ items, itemsD d = some items ∧ P items
theorem pdi_seq (h : PD X l ml) : PDI X tg l (mSeqI ml) := by
  refine ⟨⟨fun pins s σ H R I q => ?_⟩, fun env Q Q' i q => h.mono env _ _ (fun d ⟨a, b, q⟩ => ⟨a, b, i _ q⟩) q⟩
  obtain ⟨z, C, env, o, r, q⟩ := q
  -- the three roads, by the value
  have key : lift X.K ml σ H fun v H1 => (∃ a, v = .ref a ∧ (∃ xs, SqL X.K H1 a xs) ∧ R (Itl X.K a) H1) ∨ (∃ a, v = .ref a ∧ (∃ xs, SqT X.K H1 a xs) ∧ R (Itt X.K a) H1) ∨ ∃ x, v = .str x ∧ R (Its x) H1 := by
    refine lift_use h.mono o r q fun d v C' H' ⟨items, e, p⟩ t dn => ?_
    cases d with
    | lst ds =>
      obtain ⟨a, xs, e1, e2, e3⟩ := dn_lst.mp dn
      cases e
      exact .inl ⟨a, e1, ⟨xs, ex_l t.ok.ex (sq_of e2)⟩, p _ C' H' t (itd_list (sq_of e2) e3)⟩
    | tup ds =>
      obtain ⟨a, xs, e1, e2, e3⟩ := dn_tup dn
      cases e
      exact .inr (.inl ⟨a, e1, ⟨xs, ex_t t.ok.ex e2⟩, p _ C' H' t (itd_tup e2 e3)⟩)
    | pr ds =>
      obtain ⟨a, xs, e1, e2, e3⟩ := dn_pr.mp dn
      cases e
      exact .inr (.inl ⟨a, e1, ⟨xs, ex_t t.ok.ex e2⟩, p _ C' H' t (itd_tup e2 e3)⟩)
    | str x =>
      cases e
      exact .inr (.inr ⟨x, dn_str.mp dn, p _ C' H' t itd_str⟩)
    | _ => cases e
  refine thn (h.run.run pins s σ H _ I key) fun v s1 ⟨x, H1, I1, r1, q1⟩ => ?_
  have self : PE X l (fun σ' H' Q' => True ∧ Q' x H1) → True := fun _ => trivial
  rcases q1 with ⟨a, e, ⟨xs, hq⟩, q⟩ | ⟨a, e, ⟨xs, hq⟩, q⟩ | ⟨y, e, q⟩
  · subst e
    cases r1
    obtain ⟨its, rv, p, hz⟩ := I1.list hq
    refine wpAny_pyIter_list p.isList ?_
    refine ⟨s1.heap.objs.size, [s1.heap.objs.size], _, _, H1, rfl, I1.kept (t' := s1.toks) fun b o e => Heap.get?_push_of_some _ e, turn_list a _, ⟨_, Heap.get?_push_size _ rfl, rfl, rfl⟩, fun b hb => ?_, q⟩
    have e : b = s1.heap.objs.size := by simpa using hb
    subst e
    exact I1.fpOk (Nat.le_refl _) (I1.hok.fresh (Nat.le_refl _))
  · subst e
    cases r1
    obtain ⟨its, rv, p, hz⟩ := I1.tuple hq
    refine wpAny_pyIter_tuple (show s1.heap.IsTuple a its.toArray from p) ?_
    refine ⟨s1.heap.objs.size, [s1.heap.objs.size], _, _, H1, rfl, I1.kept (t' := s1.toks) fun b o e => Heap.get?_push_of_some _ e, turn_tuple a _, ⟨_, Heap.get?_push_size _ rfl, rfl, rfl⟩, fun b hb => ?_, q⟩
    have e : b = s1.heap.objs.size := by simpa using hb
    subst e
    exact I1.fpOk (Nat.le_refl _) (I1.hok.fresh (Nat.le_refl _))
  · subst e
    obtain ⟨t, rfl⟩ := r1
    cases ha : y.cps.all (· < 128)
    · exact wpAny_pyIter_wide ha (pi_one (tk := s1.toks) I1 _ (turn_str _ y t "str_iterator" (.inr rfl)) ⟨_, Heap.get?_push_size _ rfl, rfl, rfl⟩ q)
    · exact wpAny_pyIter_ascii ha (pi_one (tk := s1.toks) I1 _ (turn_str _ y t "str_ascii_iterator" (.inl rfl)) ⟨_, Heap.get?_push_size _ rfl, rfl, rfl⟩ q)

/-- range(n), range(a, b): ints, whatever the core -/
structure PDR (X : Cx) (tg it : Expr) (m : MI) : Prop where
  run : PI X tg it (fun σ H R => ∃ z C env, Ok z C H ∧ EnvR X.K z C env σ ∧ m env fun items => ∀ J C' H', Tr z C H C' H' → (∀ C2, ItD X.K z J items C2) → R J H')
  mono : MonoA m
theorem itd_rng {lo : Int} {n : Nat} : ItD K z (Itr lo n) ((List.range n).map fun i => .int (lo + (i : Nat))) C :=
  ⟨_, _, by rw [List.length_map, List.length_range]; exact walk_range, fun H' e => trivial, fun i Ha v Hb hi y C1 e o => by
    obtain ⟨rfl, rfl⟩ := y
    rw [List.length_map, List.length_range] at hi
    refine ⟨_, C1, ?_, Tr.refl o, dn_int.mpr rfl⟩
    rw [List.getElem?_map, List.getElem?_range hi]
    rfl⟩
def rngL (lo : Int) (n : Nat) : List D := (List.range n).map fun i => .int (lo + (i : Nat))
def mRng1 (m : MA) : MI := fun env P => m env fun ds => ∃ j, ds = [.int j] ∧ -4000000 ≤ j ∧ j ≤ 4000000 ∧ P (rngL 0 j.toNat)
def mRng2 (m : MA) : MI := fun env P => m env fun ds => ∃ i j, ds = [.int i, .int j] ∧ -4000000 ≤ i ∧ i ≤ 4000000 ∧ -4000000 ≤ j ∧ j ≤ 4000000 ∧ P (rngL i (j - i).toNat)
theorem dns1 {pu : Addr} {d : D} {xs : List V} (h : Dns K C pu [d] xs) : ∃ v, xs = [v] ∧ Dn K C pu d v := by
  obtain ⟨v, r, e1, e2, e3⟩ := dns_cons.mp h
  rw [dns_nil.mp e3] at e1
  exact ⟨v, e1, e2⟩
theorem dns2 {pu : Addr} {d e : D} {xs : List V} (h : Dns K C pu [d, e] xs) : ∃ v w, xs = [v, w] ∧ Dn K C pu d v ∧ Dn K C pu e w := by
  obtain ⟨v, r, e1, e2, e3⟩ := dns_cons.mp h
  obtain ⟨w, e4, e5⟩ := dns1 e3
  rw [e4] at e1
  exact ⟨v, w, e1, e2, e5⟩
theorem pdr_1 {a : Expr} {m : MA} {p pos : Pos} (hg : Gl X "range") (hm : X.mg "range" = none) (h : PDA X [a] m) (hs : starEach [a] X.env = [(false, eval a X.env)] := by rfl) : PDR X tg (.Call (.Name "range" p) [a] [] pos) (mRng1 m) := by
  refine ⟨pi_imp (pi_range1 hg hm h.run hs) fun σ H R q => ?_, fun env Q Q' i q => h.mono env _ _ (fun d ⟨a, b, c, e, q⟩ => ⟨a, b, c, e, i _ q⟩) q⟩
  obtain ⟨z, C, env, o, r, q⟩ := q
  refine liftA_use h.mono o r q fun ds vs C' H' ⟨j, e, h1, h2, p⟩ t dn => ?_
  subst e
  obtain ⟨v, e1, e2⟩ := dns1 dn
  rw [dn_int.mp e2] at e1
  exact ⟨j, e1, by omega, by omega, p _ C' H' t fun C2 => itd_rng⟩
theorem pdr_2 {a b : Expr} {m : MA} {p pos : Pos} (hg : Gl X "range") (hm : X.mg "range" = none) (h : PDA X [a, b] m) (hs : starEach [a, b] X.env = [(false, eval a X.env), (false, eval b X.env)] := by rfl) (hs2 : starEach [b] X.env = [(false, eval b X.env)] := by rfl) : PDR X tg (.Call (.Name "range" p) [a, b] [] pos) (mRng2 m) := by
  refine ⟨pi_imp (pi_range2 hg hm h.run hs hs2) fun σ H R q => ?_, fun env Q Q' i q => h.mono env _ _ (fun d ⟨a, b, c, e, f, g, k, q⟩ => ⟨a, b, c, e, f, g, k, i _ q⟩) q⟩
  obtain ⟨z, C, env, o, r, q⟩ := q
  refine liftA_use h.mono o r q fun ds vs C' H' ⟨i, j, e, h1, h2, h3, h4, p⟩ t dn => ?_
  subst e
  obtain ⟨v, w, e1, e2, e3⟩ := dns2 dn
  rw [dn_int.mp e2, dn_int.mp e3] at e1
  exact ⟨i, j, e1, ⟨by omega, by omega, by omega, by omega⟩, p _ C' H' t fun C2 => itd_rng⟩
/-- enumerate(a list) -/
def enumL (ds : List D) : List D := ds.mapIdx fun i d => .pr [.int (i : Nat), d]
def mEnum (m : MA) : MI := fun env P => m env fun ds => ∃ items, ds = [.lst items] ∧ P (enumL items)
theorem tup_new {C1 Ha : Hp} {T : Addr} {x y : V} {d e : D} (o : Ok z C1 Ha) (hT : Ha T = none) (h1 : Dn K C1 z.p d x) (h2 : Dn K C1 z.p e y) : Tr z C1 Ha (upd C1 T (.tup [x, y])) (upd Ha T (.tup [x, y])) ∧ Dn K (upd C1 T (.tup [x, y])) z.p (.pr [d, e]) (.ref T) := by
  have hc : C1 T = none := fresh_back o.ex hT
  exact ⟨Tr.put o hT, dn_pr.mpr ⟨T, [x, y], rfl, st_of upd_same, (dns_cons.mpr ⟨x, [y], rfl, h1, Dns.one h2⟩ : Dns K C1 z.p [d, e] [x, y]).mono (Ex.new hc)⟩⟩
theorem itd_enum {a : Addr} {xs : List V} {ds : List D} (h : SqL K C a xs) (dn : Dns K C z.p ds xs) : ItD K z (Ite K a) (enumL ds) C :=
  ⟨_, _, by show Walk _ (ds.mapIdx _).length _ _; rw [List.length_mapIdx, ← dn.len]; exact walk_enum, fun H' e => ex_l e h, fun i Ha v Hb hi y C1 e o => by
    obtain ⟨T, x, y, rfl, hT, rfl, h1, h2⟩ := y
    obtain ⟨d, h3, h4⟩ := dn.get' h2
    cases h1
    obtain ⟨t, q⟩ := tup_new (d := .int (i : Nat)) o hT (dn_int.mpr rfl) (h4.mono e)
    refine ⟨_, _, ?_, t, q⟩
    unfold enumL
    rw [List.getElem?_mapIdx, h3]
    rfl⟩
theorem pdi_enum {e : Expr} {m : MA} {p pos tpos : Pos} {elts : List Expr} {kk : Nat} (hg : Gl X "enumerate") (hm : X.mg "enumerate" = none) (h : PDA X [e] m) (hs : starEach [e] X.env = [(false, eval e X.env)] := by rfl) :
    PDI X (.Tuple elts kk tpos) (.Call (.Name "enumerate" p) [e] [] pos) (mEnum m) := by
  refine ⟨pi_imp (pi_enum hg hm h.run hs) fun σ H R q => ?_, fun env Q Q' i q => h.mono env _ _ (fun d ⟨a, b, q⟩ => ⟨a, b, i _ q⟩) q⟩
  obtain ⟨z, C, env, o, r, q⟩ := q
  refine liftA_use h.mono o r q fun ds vs C' H' ⟨items, e, p⟩ t dn => ?_
  subst e
  obtain ⟨v, e1, e2⟩ := dns1 dn
  obtain ⟨a, xs, e3, e4, e5⟩ := dn_lst.mp e2
  rw [e3] at e1
  exact ⟨a, xs, e1, ex_l t.ok.ex (sq_of e4), p _ C' H' t (itd_enum (sq_of e4) e5)⟩
/-- zip of two lists -/
def zipL : List D → List D → List D
  | a :: as, b :: bs => .pr [a, b] :: zipL as bs
  | _, _ => []
theorem zipL_len : ∀ as bs : List D, (zipL as bs).length = min as.length bs.length
  | [], bs => by simp [zipL]
  | a :: as, [] => by simp [zipL]
  | a :: as, b :: bs => by simp only [zipL, List.length_cons, zipL_len as bs]; omega
theorem zipL_get : ∀ (as bs : List D) (i : Nat) (a b : D), as[i]? = some a → bs[i]? = some b → (zipL as bs)[i]? = some (.pr [a, b])
  | [], bs, i, a, b, h, _ => by simp at h
  | x :: as, [], i, a, b, _, h => by simp at h
  | x :: as, y :: bs, 0, a, b, h1, h2 => by simp at h1 h2; simp [zipL, h1, h2]
  | x :: as, y :: bs, i + 1, a, b, h1, h2 => by
    have := zipL_get as bs i a b (by simpa using h1) (by simpa using h2)
    simpa [zipL] using this
def mZip (m : MA) : MI := fun env P => m env fun ds => ∃ as bs, ds = [.lst as, .lst bs] ∧ P (zipL as bs)
theorem itd_zip {a b : Addr} {xs ys : List V} {ds es : List D} (h : SqL K C a xs) (h' : SqL K C b ys) (dn : Dns K C z.p ds xs) (dn' : Dns K C z.p es ys) : ItD K z (Itz K a b) (zipL ds es) C :=
  ⟨_, _, walk_zip (by rw [zipL_len, dn.len, dn'.len]), fun H' e => ⟨ex_l e h, ex_l e h'⟩, fun i Ha v Hb hi y C1 e o => by
    obtain ⟨T, x, y, rfl, hT, rfl, h1, h2⟩ := y
    obtain ⟨d, h3, h4⟩ := dn.get' h1
    obtain ⟨d', h3', h4'⟩ := dn'.get' h2
    obtain ⟨t, q⟩ := tup_new o hT (h4.mono e) (h4'.mono e)
    exact ⟨_, _, zipL_get _ _ _ _ _ h3 h3', t, q⟩⟩
theorem pdi_zip {e e2 : Expr} {m : MA} {p pos tpos : Pos} {elts : List Expr} {kk : Nat} (hg : Gl X "zip") (hm : X.mg "zip" = none) (h : PDA X [e, e2] m)
    (hs : starEach [e, e2] X.env = (false, eval e X.env) :: starEach [e2] X.env := by rfl) (hpl : (backTo pos (starEach [e2] X.env)).any (·.1) = false := by rfl) : PDI X (.Tuple elts kk tpos) (.Call (.Name "zip" p) [e, e2] [] pos) (mZip m) := by
  refine ⟨pi_imp (pi_zip hg hm h.run hs hpl) fun σ H R q => ?_, fun env Q Q' i q => h.mono env _ _ (fun d ⟨a, b, c, q⟩ => ⟨a, b, c, i _ q⟩) q⟩
  obtain ⟨z, C, env, o, r, q⟩ := q
  refine liftA_use h.mono o r q fun ds vs C' H' ⟨as, bs, e, p⟩ t dn => ?_
  subst e
  obtain ⟨v, w, e1, e2, e3⟩ := dns2 dn
  obtain ⟨a, xs, f1, f2, f3⟩ := dn_lst.mp e2
  obtain ⟨b, ys, g1, g2, g3⟩ := dn_lst.mp e3
  rw [f1, g1] at e1
  exact ⟨a, b, xs, ys, e1, ex_l t.ok.ex (sq_of f2), ex_l t.ok.ex (sq_of g2), p _ C' H' t (itd_zip (sq_of f2) (sq_of g2) f3 g3)⟩
end

/-! ### targets -/
inductive Tgt where
  | nm (i : Nat) | tp (is : List Nat)
def gNs : List Nat → TGs
  | [] => gNil
  | i :: r => gCons (gName i) (gNs r)
def Tgt.g (K : PySem.W.Frag) : Tgt → TG
  | .nm i => gName i
  | .tp is => gTup K is.length (gNs is)
def Tgt.sl : Tgt → List Nat
  | .nm i => [i]
  | .tp is => is
def setsE {α : Type} (f : D → α) : List Nat → List D → List (Option α) → Option (List (Option α))
  | [], [], env => some env
  | i :: is, d :: ds, env => setsE f is ds (env.set i (some (f d)))
  | _, _, _ => none
def Tgt.put {α : Type} (f : D → α) : Tgt → D → List (Option α) → Option (List (Option α))
  | .nm i, d, env => some (env.set i (some (f d)))
  | .tp is, .tup ds, env => setsE f is ds env
  | .tp is, .pr ds, env => setsE f is ds env
  | .tp _, _, _ => none
def shd (d : D) : Bool × D := (false, d)
def idD (d : D) : D := d
theorem SR.sets {K : PySem.W.Frag} {z : Pz} {C0 H0 Cb C H : Hp} {Q : L2.St → Hp → Prop} : ∀ {is : List Nat} {ds : List D} {env env' : SEnv} {σ : L2.St} {xs : List V}, SR K z C0 H0 Cb C env σ H → Dns K C z.p ds xs → setsE shd is ds env = some env' →
    (∀ σ', SR K z C0 H0 Cb C env' σ' H → Q σ' H) → gNs is xs σ H Q
  | [], [], env, env', σ, xs, s, dn, e, k => by
    rw [dns_nil.mp dn]
    cases e
    exact ⟨rfl, k σ s⟩
  | i :: is, d :: ds, env, env', σ, xs, s, dn, e, k => by
    obtain ⟨v, r, e1, e2, e3⟩ := dns_cons.mp dn
    exact ⟨v, r, e1, SR.sets (s.set i e2) e3 e k⟩
  | [], d :: ds, env, env', σ, xs, s, dn, e, k => by cases e
  | i :: is, [], env, env', σ, xs, s, dn, e, k => by cases e
theorem SR.put {K : PySem.W.Frag} {z : Pz} {C0 H0 Cb C H : Hp} {env env' : SEnv} {σ : L2.St} {Q : L2.St → Hp → Prop} (s : SR K z C0 H0 Cb C env σ H) {t : Tgt} {d : D} {v : V} (dn : Dn K C z.p d v) (e : t.put shd d env = some env')
    (k : ∀ σ', SR K z C0 H0 Cb C env' σ' H → Q σ' H) : t.g K v σ H Q := by
  cases t with
  | nm i =>
    cases e
    exact k _ (s.set i dn)
  | tp is =>
    cases d with
    | tup ds =>
      obtain ⟨a, xs, e1, e2, e3⟩ := dn_tup dn
      refine ⟨a, xs, e1, ex_t s.tr.ok.ex e2, ?_, SR.sets s e3 e k⟩
      rw [e3.len]
      have : ∀ (is : List Nat) (ds : List D) (env env' : SEnv), setsE shd is ds env = some env' → ds.length = is.length := by
        intro is
        induction is with
        | nil => intro ds env env' e; cases ds with
          | nil => rfl
          | cons => cases e
        | cons i is ih => intro ds env env' e; cases ds with
          | nil => cases e
          | cons d ds => simp only [List.length_cons]; rw [ih ds _ env' e]
      exact this is ds env env' e
    | pr ds =>
      obtain ⟨a, xs, e1, e2, e3⟩ := dn_pr.mp dn
      refine ⟨a, xs, e1, ex_t s.tr.ok.ex e2, ?_, SR.sets s e3 e k⟩
      rw [e3.len]
      have : ∀ (is : List Nat) (ds : List D) (env env' : SEnv), setsE shd is ds env = some env' → ds.length = is.length := by
        intro is
        induction is with
        | nil => intro ds env env' e; cases ds with
          | nil => rfl
          | cons => cases e
        | cons i is ih => intro ds env env' e; cases ds with
          | nil => cases e
          | cons d ds => simp only [List.length_cons]; rw [ih ds _ env' e]
      exact this is ds env env' e
    | _ => cases e
theorem EnvR.sets {K : PySem.W.Frag} {z : Pz} {C H : Hp} {vs : List Nat} {σ0 : L2.St} {Q : L2.St → Hp → Prop} : ∀ {is : List Nat} {ds : List D} {env env' : Env} {σ : L2.St} {xs : List V}, EnvR K z C env σ → L2.wipe σ vs = σ0 → (∀ i ∈ is, i ∈ vs) → Dns K C z.p ds xs → setsE idD is ds env = some env' →
    (∀ (σ : L2.St) (i : Nat) (x : V), i ∈ vs → L2.wipe (σ.set i (some x)) vs = L2.wipe σ vs) → (∀ σ', EnvR K z C env' σ' → L2.wipe σ' vs = σ0 → Q σ' H) → gNs is xs σ H Q
  | [], [], env, env', σ, xs, s, w, hs, dn, e, wi, k => by
    rw [dns_nil.mp dn]
    cases e
    exact ⟨rfl, k σ s w⟩
  | i :: is, d :: ds, env, env', σ, xs, s, w, hs, dn, e, wi, k => by
    obtain ⟨v, r, e1, e2, e3⟩ := dns_cons.mp dn
    exact ⟨v, r, e1, EnvR.sets (s.set i e2) (by rw [wi σ i v (hs i (by simp))]; exact w) (fun j hj => hs j (by simp [hj])) e3 e wi k⟩
  | [], d :: ds, env, env', σ, xs, s, w, hs, dn, e, wi, k => by cases e
  | i :: is, [], env, env', σ, xs, s, w, hs, dn, e, wi, k => by cases e
theorem wipe_set {σ : L2.St} {x : V} : ∀ {vs : List Nat} {i : Nat}, i ∈ vs → L2.wipe (σ.set i (some x)) vs = L2.wipe σ vs
  | v :: vs, i, h => by
    show (L2.wipe (σ.set i (some x)) vs).set v none = (L2.wipe σ vs).set v none
    by_cases hi : i ∈ vs
    · rw [wipe_set hi]
    · have hv : i = v := by
        rcases List.mem_cons.mp h with e | e
        · exact e
        · exact absurd e hi
      subst hv
      have : ∀ ws : List Nat, i ∉ ws → L2.wipe (σ.set i (some x)) ws = (L2.wipe σ ws).set i (some x) := by
        intro ws
        induction ws with
        | nil => intro _; rfl
        | cons w ws ih =>
          intro hw
          show (L2.wipe (σ.set i (some x)) ws).set w none = ((L2.wipe σ ws).set w none).set i (some x)
          rw [ih fun q => hw (by simp [q])]
          exact List.set_comm _ _ (fun q => hw (by simp [q]))
      rw [this vs hi, List.set_set]
theorem wipe_wipe {σ : L2.St} : ∀ vs : List Nat, L2.wipe (L2.wipe σ vs) vs = L2.wipe σ vs := by
  have h1 : ∀ (ws : List Nat) (σ : L2.St) (v : Nat), v ∈ ws → (L2.wipe σ ws).set v none = L2.wipe σ ws := by
    intro ws
    induction ws with
    | nil => intro σ v h; simp at h
    | cons w ws ih =>
      intro σ v h
      show ((L2.wipe σ ws).set w none).set v none = (L2.wipe σ ws).set w none
      by_cases e : v = w
      · subst e; rw [List.set_set]
      · have hv : v ∈ ws := by
          rcases List.mem_cons.mp h with q | q
          · exact absurd q e
          · exact q
        rw [List.set_comm _ _ (Ne.symm e), ih σ v hv]
  have h2 : ∀ (us ws : List Nat) (σ : L2.St), (∀ u ∈ us, u ∈ ws) → L2.wipe (L2.wipe σ ws) us = L2.wipe σ ws := by
    intro us
    induction us with
    | nil => intro ws σ _; rfl
    | cons u us ih =>
      intro ws σ h
      show (L2.wipe (L2.wipe σ ws) us).set u none = L2.wipe σ ws
      rw [ih ws σ fun x hx => h x (by simp [hx]), h1 ws σ u (h u (by simp))]
  exact fun vs => h2 vs vs σ fun _ h => h

/-! ### for -/
def forGo (t : Tgt) (body : MS) (E : EndD) : List D → SEnv → Prop
  | [], env => E.nx env
  | x :: xs, env => ∃ env1, t.put shd x env = some env1 ∧ body { E with nx := forGo t body E xs, ct := forGo t body E xs, bk := E.nx } env1
def mFor (rs : List Nat) (mi : MI) (t : Tgt) (body : MS) : MS := fun E env => mi (view rs 0 env) fun items => forGo t body E items (frz rs 0 env)
def mForR (rs : List Nat) (mi : MI) (t : Tgt) (body : MS) : MS := fun E env => mi (view rs 0 env) fun items => forGo t body E items env
theorem forGo_mono {t : Tgt} {body : MS} (hb : MonoS body) {E E' : EndD} (l : EndD.Le E E') : ∀ (xs : List D) (env : SEnv), forGo t body E xs env → forGo t body E' xs env
  | [], env, h => l.nx _ h
  | x :: xs, env, ⟨env1, e, h⟩ => ⟨env1, e, hb { E with nx := forGo t body E xs, ct := forGo t body E xs, bk := E.nx } _ _ ⟨fun e h => forGo_mono hb l xs e h, l.rt, l.nx, fun e h => forGo_mono hb l xs e h⟩ h⟩
section
variable {X : Cx} {tg iter : Expr} {body : List Stmt} {mi : MI} {t : Tgt} {mb : MS} {pos : Pos}
/-- over any base that the state bears -/
def liftX (K : PySem.W.Frag) (z : Pz) (C0 H0 : Hp) (m : MS) : TS := fun N σ H => ∃ Cb, liftS K z C0 H0 Cb m N σ H
theorem PDSs.runX (hb : PDSs X body mb) (z : Pz) (C0 H0 : Hp) : PSs X body (liftX X.K z C0 H0 mb) := ⟨fun pins s σ H N I ⟨Cb, q⟩ => (hb.run z C0 H0 Cb).run pins s σ H N I q⟩
theorem for_core {K : PySem.W.Frag} {z : Pz} {C0 H0 Cb C H : Hp} {env : SEnv} {σ : L2.St} {J : It} {items : List D} {N : Ends} (hK : K = X.K) (s : SR K z C0 H0 Cb C env σ H) (it : ItD K z J items C) (hb : PDSs X body mb)
    (q : forGo t mb (endsOf K z C0 H0 Cb N) items env) :
    ∃ W : Nat → Nat → L2.St → Hp → Prop, (∃ m, W 0 m σ H) ∧ ∀ i m σ H, W i m σ H →
      (J.stop i H ∧ N.nx σ H) ∨ (J.go i H ∧ ∃ M : L2.St → Hp → Prop, (∀ σ' H', M σ' H' → ∃ m', m' < m ∧ W (i + 1) m' σ' H') ∧ ∀ x H', J.yld i H x H' → t.g K x σ H' fun σ2 H2 => liftX K z C0 H0 mb { N with nx := M, ct := M, bk := N.nx } σ2 H2) := by
  obtain ⟨G, Y, w, hG, hY⟩ := it.ex
  refine for_it w (g := t.g K) (tb := liftX K z C0 H0 mb) (D := N) (fun i σ Hc => ∃ C' env', SR K z C0 H0 C C' env' σ Hc ∧ forGo t mb (endsOf K z C0 H0 Cb N) (items.drop i) env') ⟨C, env, s.cb', by simpa using q⟩ (fun i σ Hc _ ⟨C', env', s', _⟩ => hG Hc (s'.cb.trans s'.tr.ok.ex)) (fun i x σ Hc Hd hi ⟨C', env', s', q'⟩ y => ?_) fun σ Hc ⟨C', env', s', q'⟩ => ?_
  · obtain ⟨d, C2, h1, h2, h3⟩ := hY i Hc x Hd hi y C' s'.cb s'.tr.ok
    have hd : items.drop i = d :: items.drop (i + 1) := by
      rw [List.drop_eq_getElem_cons hi]
      congr 1
      rw [List.getElem?_eq_getElem hi] at h1
      exact Option.some.inj h1
    rw [hd] at q'
    obtain ⟨env1, e1, q1⟩ := q'
    refine (s'.next h2).put h3 e1 fun σ' s2 => ⟨C, C2, env1, s2, hb.mono { endsOf K z C0 H0 Cb N with nx := forGo t mb (endsOf K z C0 H0 Cb N) (items.drop (i + 1)), ct := forGo t mb (endsOf K z C0 H0 Cb N) (items.drop (i + 1)), bk := (endsOf K z C0 H0 Cb N).nx } _ env1
      ⟨fun e q σ' C' H' sx => ⟨C', e, sx, q⟩, fun d q => q, fun e q σ' C' H' sx => q σ' C' H' (sx.weak s.cb), fun e q σ' C' H' sx => ⟨C', e, sx, q⟩⟩ q1⟩
  · rw [List.drop_of_length_le (Nat.le_refl _)] at q'
    exact q' σ C' Hc (s'.weak s.cb)
theorem pds_for (rs : List Nat) (hp : PassesOwn (model X.prog X.w) X.A X.env X.xe) (hc : X.calm = true) (hi : PDI X tg iter mi) (hg : PG X tg (t.g X.K)) (hb : PDSs X body mb) (hs : ∀ x, foldedSetIterable iter X.env x = pure x := by intro _; rfl) :
    PDS X (.For tg iter body [] pos) (mFor rs mi t mb) := by
  refine ⟨fun z C0 H0 Cb => ?_, fun E E' env l q => hi.mono _ _ _ (fun items q => forGo_mono hb.mono l items _ q) q⟩
  refine ps_imp (ps_for hp hc hi.run hg (hb.runX z C0 H0) hs) fun N σ H ⟨C, env, s, q⟩ => ?_
  refine ⟨z, _, _, s.okP rs, s.envP rs, hi.mono _ _ _ (fun items q J C' H' t it => ?_) q⟩
  obtain ⟨W, w1, w2⟩ := for_core rfl (s.frozen rs t) it hb q
  exact ⟨W, w1, w2⟩
/-- over a range: the own lists stay so -/
theorem pds_forR (rs : List Nat) (hp : PassesOwn (model X.prog X.w) X.A X.env X.xe) (hc : X.calm = true) (hi : PDR X tg iter mi) (hg : PG X tg (t.g X.K)) (hb : PDSs X body mb) (hs : ∀ x, foldedSetIterable iter X.env x = pure x := by intro _; rfl) :
    PDS X (.For tg iter body [] pos) (mForR rs mi t mb) := by
  refine ⟨fun z C0 H0 Cb => ?_, fun E E' env l q => hi.mono _ _ _ (fun items q => forGo_mono hb.mono l items _ q) q⟩
  refine ps_imp (ps_for hp hc hi.run hg (hb.runX z C0 H0) hs) fun N σ H ⟨C, env, s, q⟩ => ?_
  refine ⟨z, _, _, s.okP rs, s.envP rs, hi.mono _ _ _ (fun items q J C' H' t it => ?_) q⟩
  exact for_core rfl (s.thaw rs t) (it _) hb q
end

/-! ### comprehensions -/
structure PDTs (X : Cx) (ifs : List Expr) (m : MT) : Prop where
  run : PTs X ifs (liftT X.K m)
  mono : MonoT m
def mYes : MT := fun _ Q => Q true
theorem pts_imp {X : Cx} {ifs : List Expr} {t t' : TT} (h : PTs X ifs t) (i : ∀ σ H Q, t' σ H Q → t σ H Q) : PTs X ifs t' := ⟨fun pins s σ H Q I q => h.run pins s σ H Q I (i σ H Q q)⟩
theorem pdts_nil {X : Cx} : PDTs X [] mYes := ⟨pts_imp pts_nil fun σ H Q ⟨z, C, env, o, r, q⟩ => q C H (Tr.refl o), fun env Q Q' i q => i _ q⟩
theorem pdts_one {X : Cx} {c : Expr} {m : MT} (h : PDT X c m) : PDTs X [c] m := ⟨pts_one h.run, h.mono⟩
def lcGo (t : Tgt) (mt : MT) (me : ME) (env : Env) : List D → List D → (List D → Prop) → Prop
  | [], acc, Q => Q acc
  | x :: xs, acc, Q => ∃ env1, t.put idD x env = some env1 ∧ mt env1 fun b => if b = true then me env1 fun y => lcGo t mt me env xs (acc ++ [y]) Q else lcGo t mt me env xs acc Q
def moLc (vs : List Nat) (mi : MI) (t : Tgt) (mt : MT) (me : ME) : MA := fun env Q => mi env fun items => szOk (items.length + 1) = true ∧ lcGo t mt me (wipeE env vs) items [] Q
theorem lcGo_mono {t : Tgt} {mt : MT} {me : ME} (h1 : MonoT mt) (h2 : Mono me) {env : Env} {Q Q' : List D → Prop} (i : ∀ ds, Q ds → Q' ds) : ∀ (xs acc : List D), lcGo t mt me env xs acc Q → lcGo t mt me env xs acc Q'
  | [], acc, h => i _ h
  | x :: xs, acc, ⟨env1, e, h⟩ => ⟨env1, e, h1 _ _ _ (fun b h => by
      cases b with
      | true => exact h2 _ _ _ (fun y h => lcGo_mono h1 h2 i xs _ h) h
      | false => exact lcGo_mono h1 h2 i xs _ h) h⟩
theorem Tr.mut {z : Pz} {C H C' H' : Hp} {p : Addr} {u : HO} (o : Ok z C H) (t : Tr z C H C' H') (h : H p = none) (hc : C' p = none) : Tr z C H C' (upd H' p u) := by
  have np : z.p ≠ p := fun e => o.pur.pn (by rw [e]; exact h)
  have ng : z.g ≠ p := fun e => o.pur.gn (by rw [e]; exact h)
  have nc : z.c ≠ p := fun e => o.pur.cn (by rw [e]; exact h)
  obtain ⟨gs, cs, s, k, g1, g2, g3, g4⟩ := t.ok.pur.at_
  refine ⟨t.cc, ⟨fun a x e => ?_, ⟨gs, cs, s, k, by rw [upd_ne np]; exact g1, by rw [upd_ne ng]; exact g2, by rw [upd_ne nc]; exact g3, g4⟩, t.ok.pur.cp, t.ok.pur.cg, t.ok.pur.cc, t.ok.pur.pg, t.ok.pur.pc, t.ok.pur.gc⟩, fun a x e n1 n2 => ?_, t.new⟩
  · have : a ≠ p := fun q => by rw [q, hc] at e; cases e
    rw [upd_ne this]; exact t.ok.ex a x e
  · have : a ≠ p := fun q => by rw [q, h] at e; cases e
    rw [upd_ne this]; exact t.keep a x e n1 n2
theorem EnvR.put {K : PySem.W.Frag} {z : Pz} {C H : Hp} {env env' : Env} {σ : L2.St} {vs : List Nat} {Q : L2.St → Hp → Prop} (s : EnvR K z C env (L2.wipe σ vs)) (e0 : Ex C H) {t : Tgt} {d : D} {v : V} (ht : ∀ i ∈ t.sl, i ∈ vs) (dn : Dn K C z.p d v) (e : t.put idD d env = some env')
    (k : ∀ σ', EnvR K z C env' σ' → L2.wipe σ' vs = L2.wipe σ vs → Q σ' H) : t.g K v (L2.wipe σ vs) H Q := by
  cases t with
  | nm i =>
    cases e
    exact k _ (s.set i dn) (by rw [wipe_set (ht i (by simp [Tgt.sl])), wipe_wipe])
  | tp is =>
    cases d with
    | tup ds =>
      obtain ⟨a, xs, e1, e2, e3⟩ := dn_tup dn
      refine ⟨a, xs, e1, ex_t e0 e2, ?_, EnvR.sets s (wipe_wipe vs) (fun i hi => ht i hi) e3 e (fun σ i x hi => wipe_set hi) k⟩
      rw [e3.len]
      have : ∀ (is : List Nat) (ds : List D) (env env' : Env), setsE idD is ds env = some env' → ds.length = is.length := by
        intro is
        induction is with
        | nil => intro ds env env' e; cases ds with
          | nil => rfl
          | cons => cases e
        | cons i is ih => intro ds env env' e; cases ds with
          | nil => cases e
          | cons d ds => simp only [List.length_cons]; rw [ih ds _ env' e]
      exact this is ds env env' e
    | pr ds =>
      obtain ⟨a, xs, e1, e2, e3⟩ := dn_pr.mp dn
      refine ⟨a, xs, e1, ex_t e0 e2, ?_, EnvR.sets s (wipe_wipe vs) (fun i hi => ht i hi) e3 e (fun σ i x hi => wipe_set hi) k⟩
      rw [e3.len]
      have : ∀ (is : List Nat) (ds : List D) (env env' : Env), setsE idD is ds env = some env' → ds.length = is.length := by
        intro is
        induction is with
        | nil => intro ds env env' e; cases ds with
          | nil => rfl
          | cons => cases e
        | cons i is ih => intro ds env env' e; cases ds with
          | nil => cases e
          | cons d ds => simp only [List.length_cons]; rw [ih ds _ env' e]
      exact this is ds env env' e
    | _ => cases e
section
variable {X : Cx} {elt tg iter : Expr} {ifs : List Expr} {scope : Scope} {own : List (Str × Nat)} {pos : Pos} {mi : MI} {t : Tgt} {mt : MT} {me : ME}
theorem lc_core {K : PySem.W.Frag} {z : Pz} {C H : Hp} {env : Env} {σ : L2.St} {J : It} {items : List D} {vs : List Nat} {P : List D → Prop} {Q : VK} (o : Ok z C H) (r : EnvR K z C env σ) (it : ItD K z J items C) (h1 : MonoT mt) (h2 : Mono me) (ht : ∀ i ∈ t.sl, i ∈ vs)
    (hz : szOk (items.length + 1) = true) (q : lcGo t mt me (wipeE env vs) items [] P) (k : ∀ ds xs a C' H', P ds → Tr z C H C' H' → H a = none → C' a = none → H' a = some (.lst xs) → Dns K C' z.p ds xs → Q (.ref a) H') :
    ∀ N, H N = none → ∃ W : Nat → Nat → Hp → Prop, (∃ m, W 0 m (upd H N (.lst []))) ∧ ∀ i m H, W i m H →
      (J.stop i H ∧ Q (.ref N) H) ∨ (J.go i H ∧ ∃ Nx : Hp → Prop, (∀ H', Nx H' → ∃ m', m' < m ∧ W (i + 1) m' H') ∧ ∀ x H', J.yld i H x H' → t.g K x (L2.wipe σ vs) H' fun σ2 H2 => L2.wipe σ2 vs = L2.wipe σ vs ∧ liftT K mt σ2 H2 fun b H3 =>
        if b = true then lift K me σ2 H3 fun y H4 => ∃ acc, H4 N = some (.lst acc) ∧ acc.length < sizeLine ∧ Nx (upd H4 N (.lst (acc ++ [y]))) else Nx H3) := by
  intro N hN
  obtain ⟨G, Y, w, hG, hY⟩ := it.ex
  have hCN : C N = none := fresh_back o.ex hN
  have nNp : N ≠ z.p := fun e => o.pur.pn (by rw [← e]; exact hN)
  have nNg : N ≠ z.g := fun e => o.pur.gn (by rw [← e]; exact hN)
  refine lc_it w (g := t.g K) (tt := liftT K mt) (te := lift K me) (vs := vs) (σ := σ) (Qd := fun H => Q (.ref N) H)
    (fun i Hc => ∃ C' acc xs, Tr z C H C' Hc ∧ C' N = none ∧ Hc N = some (.lst xs) ∧ Dns K C' z.p acc xs ∧ acc.length ≤ i ∧ lcGo t mt me (wipeE env vs) (items.drop i) acc P)
    ⟨C, [], [], Tr.ext o (Ex.new hN), hCN, upd_same, dns_nil.mpr rfl, Nat.le_refl _, by simpa using q⟩ (fun i Hc _ ⟨C', acc, xs, t1, _⟩ => hG Hc (t1.cc.trans t1.ok.ex)) (fun i x Hc Hd hi ⟨C', acc, xs, t1, c1, c2, c3, c4, q'⟩ y => ?_) fun Hc ⟨C', acc, xs, t1, c1, c2, c3, c4, q'⟩ => ?_
  · obtain ⟨d, C2, g1, g2, g3⟩ := hY i Hc x Hd hi y C' t1.cc t1.ok
    have hd : items.drop i = d :: items.drop (i + 1) := by
      rw [List.drop_eq_getElem_cons hi]
      congr 1
      rw [List.getElem?_eq_getElem hi] at g1
      exact Option.some.inj g1
    rw [hd] at q'
    obtain ⟨env1, e1, q1⟩ := q'
    have t2 := t1.trans g2
    have hnn : Hc N ≠ none := by rw [c2]; exact fun q => nomatch q
    refine EnvR.put ((r.mono t2.cc).wipe vs) g2.ok.ex ht g3 e1 fun σ2 s2 w2 => ⟨w2, z, C2, env1, g2.ok, s2, h1 _ _ _ (fun b q2 C3 H3 t3 => ?_) q1⟩
    have t23 := g2.trans t3
    have hN3 : H3 N = some (.lst xs) := t23.keep N _ c2 nNp nNg
    have hC3 : C3 N = none := (t23.new N hnn).trans c1
    cases b with
    | false => exact ⟨C3, acc, xs, t1.trans t23, hC3, hN3, c3.mono t23.cc, Nat.le_succ_of_le c4, q2⟩
    | true =>
      show lift K me σ2 H3 _
      refine ⟨z, C3, env1, t3.ok, s2.mono t3.cc, h2 _ _ _ (fun d2 q3 v C4 H4 t4 dn4 => ?_) q2⟩
      have t24 := t23.trans t4
      have hN4 : H4 N = some (.lst xs) := t24.keep N _ c2 nNp nNg
      have hC4 : C4 N = none := (t24.new N hnn).trans c1
      have hl := c3.len
      refine ⟨xs, hN4, ?_, C4, acc ++ [d2], xs ++ [v], Tr.mut o (t1.trans t24) hN hC4, hC4, upd_same, (c3.mono t24.cc).app (Dns.one dn4), by simp; exact c4, q3⟩
      refine sz_lt ?_
      unfold szOk at hz ⊢
      simp only [decide_eq_true_eq] at hz ⊢
      omega
  · rw [List.drop_of_length_le (Nat.le_refl _)] at q'
    exact k acc xs N C' Hc q' t1 hN c1 c2 c3
theorem lc_run (hi : PDI X tg iter mi) (h1 : MonoT mt) (h2 : Mono me) {vs : List Nat} (ht : ∀ i ∈ t.sl, i ∈ vs) {σ : L2.St} {H : Hp} {Q : VK} (q : liftO X.K (moLc vs mi t mt me) σ H Q) : tLc (liftI X.K mi) (t.g X.K) (liftT X.K mt) (lift X.K me) vs σ H Q := by
  obtain ⟨z, C, env, o, r, q⟩ := q
  refine ⟨z, C, env, o, r, hi.mono _ _ _ (fun items ⟨hz, q⟩ J C' H' t1 it => ?_) q⟩
  exact lc_core t1.ok (r.mono t1.cc) it h1 h2 ht hz q fun ds xs a C2 H2 p t2 g1 g2 g3 g4 => p a xs C2 H2 (t1.trans t2) (t1.free g1) g2 g3 g4
theorem mono_lc {vs : List Nat} (hi : MonoA mi) (h1 : MonoT mt) (h2 : Mono me) : MonoA (moLc vs mi t mt me) := fun env Q Q' i q => hi _ _ _ (fun items ⟨a, q⟩ => ⟨a, lcGo_mono h1 h2 i _ _ q⟩) q
theorem PDR.pdi (h : PDR X tg iter mi) : PDI X tg iter mi := ⟨pi_imp h.run fun σ H R ⟨z, C, env, o, r, q⟩ => ⟨z, C, env, o, r, h.mono _ _ _ (fun items q J C' H' t it => q J C' H' t (it C')) q⟩, h.mono⟩
theorem pdo_lc (hc : X.calm = true) (hN : X.N.Nodup) (hi : PDI X tg iter mi) (ok : BlkOk X.N X.env.scope scope own) (ht : ∀ i ∈ t.sl, i ∈ own.map (·.2))
    (hg : ∀ (s : Shared) (H : Hp) (C : Addr) (cl : List (Str × Addr)) (fp : List Addr), PG (X.blk s H scope (compEnvC scope cl C X.env) fp) tg (t.g X.K)) (hts : ∀ (s : Shared) (H : Hp) (C : Addr) (cl : List (Str × Addr)) (fp : List Addr), PDTs (X.blk s H scope (compEnvC scope cl C X.env) fp) ifs mt)
    (he : ∀ (s : Shared) (H : Hp) (C : Addr) (cl : List (Str × Addr)) (fp : List Addr), PD (X.blk s H scope (compEnvC scope cl C X.env) fp) elt me) (hs : ∀ x, foldedSetIterable iter X.env x = pure x := by intro _; rfl) (h1 : MonoT mt) (h2 : Mono me) :
    PDO X (.ListComp elt [⟨tg, iter, ifs, 0⟩] scope pos) (moLc (own.map (·.2)) mi t mt me) :=
  ⟨pe_imp (pe_lc (tt := liftT X.K mt) (te := lift X.K me) hc hN hi.run ok hg (fun s H C cl fp => (hts s H C cl fp).run) (fun s H C cl fp => (he s H C cl fp).run) hs) fun σ H Q q => lc_run hi h1 h2 ht q, mono_lc hi.mono h1 h2⟩
/-- name = [..], the name a local: own -/
theorem pds_setLcO (rs : List Nat) {i : Nat} {y : Str} {py spos : Pos} (hc : X.calm = true) (hN : X.N.Nodup) (hy : X.N[i]? = some y) (hyl : X.env.scope.names.lookup y = some .local)
    (hsw : swapsWith (.ListComp elt [⟨tg, iter, ifs, 0⟩] scope pos) (some (.Name y py)) spos.line X.env = pure true) (hi : PDI X tg iter mi) (ok : BlkOk X.N X.env.scope scope own) (ht : ∀ i ∈ t.sl, i ∈ own.map (·.2))
    (hg : ∀ (s : Shared) (H : Hp) (C : Addr) (cl : List (Str × Addr)) (fp : List Addr), PG (X.blk s H scope (compEnvC scope cl C X.env) fp) tg (t.g X.K)) (hts : ∀ (s : Shared) (H : Hp) (C : Addr) (cl : List (Str × Addr)) (fp : List Addr), PDTs (X.blk s H scope (compEnvC scope cl C X.env) fp) ifs mt)
    (he : ∀ (s : Shared) (H : Hp) (C : Addr) (cl : List (Str × Addr)) (fp : List Addr), PD (X.blk s H scope (compEnvC scope cl C X.env) fp) elt me) (hs : ∀ x, foldedSetIterable iter X.env x = pure x := by intro _; rfl) (h1 : MonoT mt) (h2 : Mono me) :
    PDS X (.Assign [.Name y py] (.ListComp elt [⟨tg, iter, ifs, 0⟩] scope pos) spos) (mAsgO rs i (moLc (own.map (·.2)) mi t mt me)) := by
  refine ⟨fun z C0 H0 Cb => ps_imp (ps_setLc (tt := liftT X.K mt) (te := lift X.K me) hc hN hy hyl hsw hi.run ok hg (fun s H C cl fp => (hts s H C cl fp).run) (fun s H C cl fp => (he s H C cl fp).run) hs) fun N σ H ⟨C, env, s, q⟩ => ?_, fun E E' env l q => mono_lc hi.mono h1 h2 _ _ _ (fun d ⟨a, q⟩ => ⟨a, l.nx _ q⟩) q⟩
  refine lc_run hi h1 h2 ht (useO s rs (mono_lc hi.mono h1 h2) q fun ds xs a C' H' p s' g2 g3 dn g1 => p _ C' H' (s'.setOwn i g2 g3 dn (s.tr.free g1) (s.fresh g1)))
/-- the same, shared at once (where the items hold lists, say) -/
def mAsgS (rs : List Nat) (i : Nat) (m : MA) : MS := mAsg rs i (mLstO m)
theorem pds_setLcS (rs : List Nat) {i : Nat} {y : Str} {py spos : Pos} (hc : X.calm = true) (hN : X.N.Nodup) (hy : X.N[i]? = some y) (hyl : X.env.scope.names.lookup y = some .local)
    (hsw : swapsWith (.ListComp elt [⟨tg, iter, ifs, 0⟩] scope pos) (some (.Name y py)) spos.line X.env = pure true) (hi : PDI X tg iter mi) (ok : BlkOk X.N X.env.scope scope own) (ht : ∀ i ∈ t.sl, i ∈ own.map (·.2))
    (hg : ∀ (s : Shared) (H : Hp) (C : Addr) (cl : List (Str × Addr)) (fp : List Addr), PG (X.blk s H scope (compEnvC scope cl C X.env) fp) tg (t.g X.K)) (hts : ∀ (s : Shared) (H : Hp) (C : Addr) (cl : List (Str × Addr)) (fp : List Addr), PDTs (X.blk s H scope (compEnvC scope cl C X.env) fp) ifs mt)
    (he : ∀ (s : Shared) (H : Hp) (C : Addr) (cl : List (Str × Addr)) (fp : List Addr), PD (X.blk s H scope (compEnvC scope cl C X.env) fp) elt me) (hs : ∀ x, foldedSetIterable iter X.env x = pure x := by intro _; rfl) (h1 : MonoT mt) (h2 : Mono me) :
    PDS X (.Assign [.Name y py] (.ListComp elt [⟨tg, iter, ifs, 0⟩] scope pos) spos) (mAsgS rs i (moLc (own.map (·.2)) mi t mt me)) := by
  have hp := ps_setLc (i := i) (spos := spos) (pos := pos) (own := own) (tt := liftT X.K mt) (te := lift X.K me) hc hN hy hyl hsw hi.run ok hg (fun s H C cl fp => (hts s H C cl fp).run) (fun s H C cl fp => (he s H C cl fp).run) hs
  -- first as a fresh list, then into the core
  refine ⟨fun z C0 H0 Cb => ps_imp hp fun N σ H ⟨C, env, s, q⟩ => ?_, fun E E' env l q => mono_lc hi.mono h1 h2 _ _ _ (fun d q => l.nx _ q) q⟩
  refine lc_run hi h1 h2 ht ?_
  refine ⟨z, _, _, s.okP rs, s.envP rs, mono_lc hi.mono h1 h2 _ _ _ (fun ds p a xs C' H' t g1 g2 g3 dn => ?_) q⟩
  have hz : ∀ b, H b ≠ none → b ≠ a := fun b hb e => hb (by rw [e]; exact g1)
  have o := s.okP rs
  have t' : Tr z (coreP rs env σ C H) H (upd C' a (.lst xs)) H' := by
    refine ⟨t.cc.trans (Ex.new g2), ⟨fun b u e => ?_, ?_⟩, t.keep, fun b hb => ?_⟩
    · by_cases hb : b = a
      · subst hb; rw [upd_same] at e; cases e; exact g3
      · rw [upd_ne hb] at e; exact t.ok.ex b u e
    · obtain ⟨gs, cs, sm, k, f1, f2, f3, f4⟩ := t.ok.pur.at_
      exact ⟨⟨gs, cs, sm, k, f1, f2, f3, f4⟩, by rw [upd_ne (hz _ o.pur.pn)]; exact t.ok.pur.cp, by rw [upd_ne (hz _ o.pur.gn)]; exact t.ok.pur.cg, by rw [upd_ne (hz _ o.pur.cn)]; exact t.ok.pur.cc, t.ok.pur.pg, t.ok.pur.pc, t.ok.pur.gc⟩
    · rw [upd_ne (hz b hb)]; exact t.new b hb
  have s' := s.frozen rs t'
  have p' : (endsOf X.K z C0 H0 Cb N).nx ((aft rs (.lst ds) env).set i (some (false, .lst ds))) := p
  unfold aft at p'
  rw [if_neg (by simp [D.lf])] at p'
  exact p' _ _ H' (s'.set i (dn_new_lst dn g2))
end
end BV

/-! Defs that are called where no repr is under way: their promise, their call, their body, the law's end. -/
namespace BV
open PySem PySem.Spec PyProof.Rows L2 Evl

/-- a def keeps its promise wherever no container is being shown -/
structure FnG (P : Program) (w : World) (K : PySem.W.Frag) (mg : Str → Option Value) (base : Heap) (CX : CXT) (k : Nat) (f : Addr) (fd : FuncData) (ps : List Str) (sp : Sp) : Prop where
  many : ∀ vs H Q E, sp vs H Q E → vs.length = ps.length
  go : ∀ (A : Around) (out : List PySem.Env) (s : Shared) (H : Hp) (ar : Args) (us : List Value) (vs : List V) (Q : VK) (E : XK), Room k A → A.guards = some [] → Env0 P w K mg base A out s H → BindsTo s fd ar (ps.zip us) → Vals vs us → sp vs H Q E →
    codeAny (model P w) A (.call (.ref f) ar) (CR CX out P w H s Q E) s
section
variable {P : Program} {w : World} {K : PySem.W.Frag} {mg : Str → Option Value} {base : Heap} {CX : CXT} {j k : Nat} {f : Addr} {fd : FuncData} {ps : List Str} {sp sp' : Sp}
theorem FnG.up (F : FnG P w K mg base CX j f fd ps sp) (h : j ≤ k) : FnG P w K mg base CX k f fd ps sp := ⟨F.many, fun A o s H ar us vs Q E r => F.go A o s H ar us vs Q E (r.mono h)⟩
theorem FnG.imp (F : FnG P w K mg base CX k f fd ps sp) (h : ∀ vs H Q E, sp' vs H Q E → sp vs H Q E) : FnG P w K mg base CX k f fd ps sp' :=
  ⟨fun vs H Q E q => F.many vs H Q E (h _ _ _ _ q), fun A o s H ar us vs Q E r g e b v q => F.go A o s H ar us vs Q E r g e b v (h _ _ _ _ q)⟩
end

/-! ### the call -/
section
variable {X : Cx} {CX : CXT} {k : Nat} {f : Addr} {fd : FuncData} {ps ks : List Str} {sp : Sp} {E : XK} {x : Str} {p pos : Pos} {e : Expr} {es : List Expr} {t tk : TA} {kws : List Keyword}
theorem end_of {pins : List (Addr × Obj)} {σ : L2.St} {H : Hp} {s : Shared} {Q : VK} (I : Inv X pins σ H s) (hx : Passes CX X E) : ∀ (r : Result) (s' : Shared), CR CX X.stack X.prog X.w H s Q E r s' → match r with
    | .ok (.ret u) => EP X pins σ Q u s'
    | .ok _ => False
    | .error e => X.xe e s'
  | .error e, s', q => hx pins σ H s e s' I q
  | .ok (.ret u), s', q => I.after q
  | .ok .next, s', q => q
  | .ok .brk, s', q => q
  | .ok .cont, s', q => q
theorem pe_callG (F : FnG X.prog X.w X.K X.mg X.base CX k f fd ps sp) (hr : Room k X.A) (hgd : X.A.guards = some []) (hg : Gl X x) (hm : X.mg x = some (.ref f)) (hk : PySem.W.keepIn X.K (.ref f) = true) (hb : Binds X.K fd ps []) (hx : Passes CX X E)
    (ha : PA X (e :: es) t) (hdb : (x == ("__debug__" : Str)) = false) (he : starEach (e :: es) X.env = (false, eval e X.env) :: starEach es X.env) (hpl : (backTo pos (starEach es X.env)).any (·.1) = false) :
    PE X (.Call (.Name x p) (e :: es) [] pos) (tCall sp [] E t) := by
  refine ⟨fun pins s σ H Q I q0 => wpAny_Call_Name_kw (ld_glob I hg hm ?_ hdb)⟩
  refine PySem.W.callWith_K (h₀ := X.base) I.ok.mod.kin hk (thn (ha.run pos pins s σ H _ I q0) fun us s1 ⟨vs, H1, I1, r1, q1⟩ => ⟨I1.kIn, ?_⟩) he hpl
  have q2 : sp vs H1 Q E := by
    have q3 : sp (vs ++ []) H1 Q E := q1
    rwa [List.append_nil] at q3
  have hn : (us ++ ([] : List Value)).length = ps.length := by rw [List.append_nil, ← r1.length]; exact F.many _ _ _ _ q2
  have hbt := hb s1 us I1.kIn hn
  rw [List.append_nil] at hbt
  refine wpAny_call (codeAny_mono (F.go X.A X.stack s1 H1 _ us vs Q E hr hgd I1.env0 hbt r1 q2) fun r s' z => ?_)
  have z' := end_of I1 hx r s' z
  match r, z' with
  | .error _, z' => exact z'
  | .ok (.ret _), z' => exact z'
  | .ok .next, z' => exact z'.elim
  | .ok .brk, z' => exact z'.elim
  | .ok .cont, z' => exact z'.elim
/-- f(k = v, ..), all by name; g puts the values in the parameters' order -/
structure KwB (K : PySem.W.Frag) (fd : FuncData) (ps ks : List Str) (g : List Value → List Value) (gV : List V → List V) : Prop where
  to : ∀ (s : Shared) (ws : List Value), K.In s.heap → ws.length = ks.length → (g ws).length = ps.length → BindsTo s fd ⟨[], ks.zip ws⟩ (ps.zip (g ws))
  rel : ∀ {zs : List V} {ws : List Value}, Vals zs ws → Vals (gV zs) (g ws)
def tCallG (sp : Sp) (gV : List V → List V) (n : Nat) (E : XK) (tk : TA) : TE := fun σ H Q => tk σ H fun zs H1 => zs.length = n ∧ sp (gV zs) H1 Q E
theorem pe_callGK {g : List Value → List Value} {gV : List V → List V} (F : FnG X.prog X.w X.K X.mg X.base CX k f fd ps sp) (hr : Room k X.A) (hgd : X.A.guards = some []) (hg : Gl X x) (hm : X.mg x = some (.ref f)) (hk : PySem.W.keepIn X.K (.ref f) = true)
    (hb : KwB X.K fd ps ks g gV) (hx : Passes CX X E) (hkw : PK X kws tk) (hall : (backToKw pos (keywordEach kws X.env)).all (·.1.isSome) = true) (hks : (backToKw pos (keywordEach kws X.env)).filterMap (·.1) = ks)
    (hdb : (x == ("__debug__" : Str)) = false) (hpl : ((backTo pos (starEach [] X.env)).any (·.1) || (backToKw pos (keywordEach kws X.env)).any (·.1.isNone)) = false) :
    PE X (.Call (.Name x p) [] kws pos) (tCallG sp gV ks.length E tk) := by
  refine ⟨fun pins s σ H Q I q0 => wpAny_Call_Name_kw (ld_glob I hg hm ?_ hdb)⟩
  refine PySem.W.callWith_KW0 (h₀ := X.base) I.ok.mod.kin hk hall (thn (hkw.run pos pins s σ H _ I q0) fun ws s1 ⟨zs, H1, I1, r1, hl, q1⟩ => ⟨I1.kIn, ?_⟩) hpl
  rw [hks]
  have r2 := hb.rel r1
  have hn : (g ws).length = ps.length := by rw [← r2.length]; exact F.many _ _ _ _ q1
  refine wpAny_call (codeAny_mono (F.go X.A X.stack s1 H1 _ (g ws) (gV zs) Q E hr hgd I1.env0 (hb.to s1 ws I1.kIn (by rw [← r1.length]; exact hl) hn) r2 q1) fun r s' z => ?_)
  have z' := end_of I1 hx r s' z
  match r, z' with
  | .error _, z' => exact z'
  | .ok (.ret _), z' => exact z'
  | .ok .next, z' => exact z'.elim
  | .ok .brk, z' => exact z'.elim
  | .ok .cont, z' => exact z'.elim
end

/-! ### the body -/
section
variable {P : Program} {w : World} {K : PySem.W.Frag} {mg : Str → Option Value} {base : Heap} {CX : CXT} {k : Nat} {f : Addr} {fd : FuncData} {N ps : List Str} {sp : Sp} {x qual : Str} {st : Stmt}
theorem fnG_of (F : Fun K x qual st f fd) (S : FnScope N ps (defScope st)) (many : ∀ vs H Q E, sp vs H Q E → vs.length = ps.length)
    (body : ∀ (cdv : Value) (A : Around) (out : List PySem.Env) (s : Shared) (H : Hp) (vs : List V) (Q : VK) (E : XK), Room k (A.deeper (envOfC qual (defScope st) s.heap.objs.size f cdv)) → A.guards = some [] → sp vs H Q E →
      ∃ t, PSs (cxOf CX P w K mg base N qual (defScope st) f cdv A out s H E) (defBody st) t ∧ t { nx := fun _ H' => Q .non H', rt := Q } (start N vs) H) : FnG P w K mg base CX (k + 1) f fd ps sp := by
  obtain ⟨oc, od, kV, doc, pm, an, cdv, ct, osl, rfl, lk, hcd⟩ := F.ex
  refine ⟨many, fun A out s H ar us vs Q E hr gd e0 hb r hsp => ?_⟩
  have hn := many _ _ _ _ hsp
  have KX : K.In s.heap := e0.mod.kin.keeps fun b o e => (e0.bs b o e).1
  have lim := e0.mod.nolimit.keeps fun b o e => (e0.bs b o e).1
  refine codeAny_call_function hr.depth (KX _ _ lk) rfl S.co S.gen rfl (PySem.W.codeRec_of KX hcd) (hb _ _ _ _ (wpAny_newFunctionEnv_cells S.kind (fun y hy => ?_) fun env he s1 x1 => ?_))
  · rcases S.par y.1 (List.of_mem_zip (b := y.2) hy).1 with q | q
    · exact .inl q
    · exact .inr ⟨q, PySem.W.cellsFrom_some _ _ _ (.inl q)⟩
  · subst he
    obtain ⟨t, ht, hq⟩ := body cdv A out s H vs Q E (hr.deeper _) gd hsp
    refine ⟨lim.keeps x1.toInCall.keep, codeAny_func (wpAny_mono (ht.run [] s1 (start N vs) H _ (inv_start S hr.hd e0 hn r x1) hq) (fun fl s' hs => ?_) fun e s' hs => hs)⟩
    match fl, hs with
    | .ret u, ⟨v, σ', H', J, rv, q⟩ => exact ⟨v, H', J.os, J.bare, J.base, J.hok, rv, q⟩
    | .next, ⟨σ', H', J, q⟩ => exact ⟨V.non, H', J.os, J.bare, J.base, J.hok, rfl, q⟩
    | .brk, ⟨_, _, _, q⟩ => exact False.elim q
    | .cont, ⟨_, _, _, q⟩ => exact False.elim q
end

/-! ### the law's end -/
section
/-- what the law's call finds: the script alone, locked, or one of the written part -/
theorem end_law {P : Program} {w : World} {K : PySem.W.Frag} {mg mb : Str → Option Value} {CX : CXT} {k : Nat} {fa a : Addr} {fd : FuncData} {x : Str} {sp : Sp} {s₁ : Shared} {vs : List Value} {ns : List Int}
    (KX : K.In s₁.heap) (hns : s₁.heap.Ns mainGlobals mg) (hb : s₁.heap.Ns builtinsNs mb) (hbb : ∀ x : Str, x ≠ "__name__" → mb x = bootBuiltins x) (hlim : s₁.heap.NoLimit) (hg : s₁.gens = #[])
    (ha : s₁.heap.get? a = some { cls := .type "list", data := .seq vs.toArray }) (hi : IntsAre vs ns) (hl : ns.length ≤ sizeLine) (hr : Room k callerA)
    (F : ∀ base : Heap, K.In base → base.Ns mainGlobals mg → FnG P w K mg base CX k fa fd [x] sp) (hbind : ∀ (s : Shared) (u : Value), BindsTo s fd ⟨[u], []⟩ [(x, u)])
    (hsp : ∀ H : Hp, Only H → SqL K H a (ns.map V.int) → sp [.ref a] H (fun v _ => v = .bl true) fun _ _ _ => False)
    (hCX : ∀ H e s', CX [] H s₁ (fun _ _ _ => False) e s' → False) :
    codeAny (model P w) callerA (.call (.ref fa) ⟨[.ref a], []⟩) (fun r s' => r = .ok (.ret (.bool true)) ∧ OldK s₁.heap s'.heap ∧ s'.os = s₁.os ∧ AllBare s'.gens) s₁ := by
  have rv := vals_ints hi
  have lenV := hi.length
  -- what is told of the script, by whether it is written
  have way : ∃ H : Hp, Only H ∧ SqL K H a (ns.map V.int) ∧ HOk P w H s₁.heap ∧ (∀ b, H b ≠ none → b = a ∧ K.lookup a = none) := by
    cases hk : K.lookup a with
    | some o =>
      have e := KX a o hk
      rw [ha] at e
      cases e
      exact ⟨fun _ => none, fun _ => .inl rfl, .inr ⟨_, vs.toArray, _, hk, rfl, rfl, rfl, by rw [List.size_toArray, lenV]; exact hl, by simpa using rv⟩, fun b u z => (nomatch (show (none : Option HO) = some u from z)), fun b z => absurd rfl z⟩
    | none =>
      refine ⟨fun b => if b = a then some (.frz { cls := .type "list", data := .seq vs.toArray } (.lst (ns.map V.int))) else none, fun b => ?_, .inl (.inr ⟨_, if_pos rfl⟩), fun b u z => ?_, fun b z => ⟨?_, rfl⟩⟩
      · by_cases q : b = a
        · exact .inr ⟨_, _, if_pos q⟩
        · exact .inl (if_neg q)
      · by_cases q : b = a
        · have z' := (if_pos q).symm.trans z
          cases z'
          subst q
          exact ⟨ha, by rw [List.length_map]; exact hl, vs, _, rv, ha⟩
        · have z' := (if_neg q).symm.trans z
          cases z'
      · by_cases q : b = a
        · exact q
        · exact absurd (if_neg q) z
  obtain ⟨H, hO, hS, hok, hA⟩ := way
  have plain : ∀ {b : Addr} {o : Obj} {es : Array DictEntry} {ep : Nat}, s₁.heap.get? b = some o → o.data = .dict es ep → H b = none := fun {b o es ep} e d => by
    cases q : H b with
    | none => rfl
    | some u =>
      obtain ⟨e', _⟩ := hA b (by rw [q]; simp)
      subst e'
      rw [ha] at e
      cases e
      exact nomatch (show Data.seq vs.toArray _ = Data.dict es ep from d)
  have names : ∀ {b : Addr} {m : Str → Option Value}, s₁.heap.Ns b m → (hidT s₁.heap H).Ns b m := fun {b m} ⟨o, es, ep, e, d, r⟩ => ⟨o, es, ep, hidT_get e (plain e d), d, r⟩
  have written : K.In (hidT s₁.heap H) := fun b o e => hidT_get (KX b o e) (by
    cases q : H b with
    | none => rfl
    | some u =>
      obtain ⟨e', n⟩ := hA b (by rw [q]; simp)
      subst e'
      rw [n] at e
      cases e)
  have md : Mod K mg (hidT s₁.heap H) := ⟨written, names hns, ⟨mb, names hb, hbb⟩, let ⟨mc, h1, h2⟩ := hlim; ⟨mc, names h1, h2⟩⟩
  have e0 : Env0 P w K mg (hidT s₁.heap H) callerA [] s₁ H := ⟨rfl, md, fun b o e => of_hidT e, Nat.le_of_eq (hidT_size _ _), trivial, fun b z => (nomatch (show b ∈ ([] : List Addr) from z)), hok, .of_eq hg⟩
  refine codeAny_mono ((F _ written (names hns)).go callerA [] s₁ H ⟨[.ref a], []⟩ [.ref a] [.ref a] _ _ hr rfl e0 (hbind s₁ (.ref a)) (.cons rfl .nil) (hsp H hO hS)) fun r s' z => ?_
  match r, z with
  | .error e, z => exact (hCX H e s' z).elim
  | .ok .next, z => exact False.elim z
  | .ok .brk, z => exact False.elim z
  | .ok .cont, z => exact False.elim z
  | .ok (.ret u), ⟨v, H', os, bare, un, hok', r', q⟩ =>
    have q' : v = .bl true := q
    subst q'
    obtain rfl : u = Value.bool true := r'
    refine ⟨rfl, OldK.of_keep fun b o e => ?_, os, bare⟩
    cases hb' : H b with
    | none => exact un.keep b o e hb' (fun z => (nomatch (show b ∈ ([] : List Addr) from z))) (by simp)
    | some u =>
      rcases hO b with z | ⟨ob, xs, z⟩
      · rw [hb'] at z; cases z
      · obtain ⟨e1, _⟩ := hok b _ z
        obtain ⟨e2, _⟩ := hok' b _ (un.frzs b ob _ z)
        rw [e] at e1
        cases e1
        exact e2
/-- the goal behind the head, from the law's promise -/
theorem end_walk {l : PySem.W.OpenLaw} {n k : Nat} {q : Program} {loose : List Str} {XP : (Str → Option Value) → Heap → Prop} {YP : World → Heap → Prop} {d : DefRec} {K : Params → PySem.W.Frag} {CX : World → CXT} {sp : World → Sp} {x : Str}
    (hn : l.most = some n) (hn2 : n ≤ sizeLine) (hdf : d.params.defaults = []) (hr : Room k callerA) (hY : ∀ (w : World) (h : Heap), YP w h → (K w.params).In h)
    (F : ∀ (w : World) (mg : Str → Option Value) (fa : Addr) (h : Heap), (K w.params).In h → h.Ns mainGlobals mg → mg d.name = some (.ref fa) →
      ∃ fd : FuncData, (∀ (s : Shared) (u : Value), BindsTo s fd ⟨[u], []⟩ [(x, u)]) ∧ ∀ base : Heap, (K w.params).In base → base.Ns mainGlobals mg → FnG l.prog w (K w.params) mg base (CX w) k fa fd [x] (sp w))
    (hsp : ∀ (w : World) (H : Hp) (a : Addr) (ns : List Int), ns.length ≤ n → Only H → SqL (K w.params) H a (ns.map V.int) → sp w [.ref a] H (fun v _ => v = .bl true) fun _ _ _ => False)
    (hCX : ∀ (w : World) (H : Hp) (s : Shared) (e : Value) (s' : Shared), CX w [] H s (fun _ _ _ => False) e s' → False) :
    PySem.W.WalkO q loose XP YP l.row.toRowW d [] (fun f vs => PySem.call f vs) := by
  refine Att.attach_call hn hdf fun w s₀ s₁ mg mb fa o pm cd doc a vs ns G Y ho hd hcd hmg hobj hints hlen hg => ?_
  obtain ⟨fd, hb, hF⟩ := F w mg fa _ (hY w _ Y) G.T.g hmg
  exact end_law (hY w _ Y) G.T.g G.T.b G.T.builtins G.T.nolimit hg hobj hints (Nat.le_trans hlen hn2) hr hF hb (fun H hO hS => hsp w H a ns hlen hO hS) fun H e s' => hCX w H s₁ e s'
end

/-! ### on data -/
abbrev FnD (P : Program) (w : World) (K : PySem.W.Frag) (mg : Str → Option Value) (base : Heap) (k : Nat) (f : Addr) (fd : FuncData) (ps : List Str) (sp : SpD) : Prop := FnG P w K mg base CX0 k f fd ps (liftF K sp)
theorem FnG.says {P : Program} {w : World} {K : PySem.W.Frag} {mg : Str → Option Value} {base : Heap} {k : Nat} {f : Addr} {fd : FuncData} {ps : List Str} {sp sp' : SpD} (F : FnD P w K mg base k f fd ps sp) (h : ∀ ds T, sp' ds T → sp ds T) : FnD P w K mg base k f fd ps sp' :=
  F.imp fun vs H Q E ⟨z, C, ds, T, o, dn, q, k⟩ => ⟨z, C, ds, T, o, dn, h _ _ q, k⟩
section
variable {X : Cx} {e : Expr} {pos : Pos}
def mCall (sp : SpD) (m : MA) : ME := fun env Q => m env fun ds => ∃ T : D → Prop, sp ds T ∧ ∀ d, T d → Q d
theorem call_use {sp : SpD} {ds : List D} {vs : List V} {z : Pz} {C H C' H' : Hp} {K : PySem.W.Frag} {Q : VK} (t : Tr z C H C' H') (dn : Dns K C' z.p ds vs) (p : ∃ T : D → Prop, sp ds T ∧ ∀ d, T d → ∀ v C' H', Tr z C H C' H' → Dn K C' z.p d v → Q v H') : liftF K sp vs H' Q E0 := by
  obtain ⟨T, q, k⟩ := p
  exact ⟨z, C', ds, T, t.ok, dn, q, fun d v C2 H2 hT t2 dn2 => k d hT v C2 H2 (t.trans t2) dn2⟩
theorem pd_call {k : Nat} {f : Addr} {fd : FuncData} {ps : List Str} {sp : SpD} {x : Str} {p : Pos} {es : List Expr} {m : MA} (F : FnD X.prog X.w X.K X.mg X.base k f fd ps sp) (hr : Room k X.A) (hgd : X.A.guards = some []) (hk : PySem.W.keepIn X.K (.ref f) = true) (hb : Binds X.K fd ps [])
    (hm : X.mg x = some (.ref f)) (h : PDA X (e :: es) m) (hg : Gl X x := by rfl) (hdb : (x == ("__debug__" : Str)) = false := by decide) (he : starEach (e :: es) X.env = (false, eval e X.env) :: starEach es X.env := by rfl) (hpl : (backTo pos (starEach es X.env)).any (·.1) = false := by rfl) :
    PD X (.Call (.Name x p) (e :: es) [] pos) (mCall sp m) := by
  refine ⟨pe_imp (pe_callG F hr hgd hg hm hk hb pass0 h.run hdb he hpl) fun σ H Q q => ?_, fun env Q Q' i q => h.mono env _ _ (fun ds ⟨T, q, k⟩ => ⟨T, q, fun d hT => i d (k d hT)⟩) q⟩
  obtain ⟨z, C, env, o, r, q⟩ := q
  refine liftA_use h.mono o r q fun ds vs C' H' p t dn => ?_
  show liftF X.K sp (vs ++ []) H' Q E0
  rw [List.append_nil]
  exact call_use t dn p
/-- by names -/
structure PDK (X : Cx) (kws : List Keyword) (m : MA) : Prop where
  run : PK X kws (liftA X.K m)
  mono : MonoA m
theorem pk_imp {kws : List Keyword} {t t' : TA} (h : PK X kws t) (i : ∀ σ H Q, t' σ H Q → t σ H Q) : PK X kws t' := ⟨fun p pins s σ H Q I q => h.run p pins s σ H Q I (i σ H Q q)⟩
theorem pdk_nil : PDK X [] maNil := ⟨pk_imp pk_nil fun σ H Q ⟨z, C, env, o, r, q⟩ => q [] C H (Tr.refl o) (dns_nil.mpr rfl), fun env Q Q' i q => i _ q⟩
theorem pdk_cons {kws : List Keyword} {nm : Option Str} {kpos : Pos} {ma : ME} {mr : MA} (ha : PD X e ma) (hr : PDK X kws mr) : PDK X (⟨nm, e, kpos⟩ :: kws) (maCons ma mr) := by
  refine ⟨pk_imp (pk_cons ha.run hr.run) fun σ H Q q => ?_, fun env Q Q' i q => ha.mono env _ _ (fun d q => hr.mono env _ _ (fun ds q => i _ q) q) q⟩
  obtain ⟨z, C, env, o, r, q⟩ := q
  exact lift_use ha.mono o r q fun d v C' H' p t dn => liftA_use hr.mono t.ok (r.mono t.cc) p fun ds vs C2 H2 p2 t2 dns => p2 (v :: vs) C2 H2 (t.trans t2) (dns_cons.mpr ⟨v, vs, rfl, dn.mono t2.cc, dns⟩)
/-- keywords in the parameters' order -/
theorem pd_callK {k : Nat} {f : Addr} {fd : FuncData} {ps : List Str} {sp : SpD} {x : Str} {p : Pos} {kws : List Keyword} {m : MA} (F : FnD X.prog X.w X.K X.mg X.base k f fd ps sp) (hr : Room k X.A) (hgd : X.A.guards = some []) (hk : PySem.W.keepIn X.K (.ref f) = true)
    (hb : KwB X.K fd ps ps id id) (hm : X.mg x = some (.ref f)) (h : PDK X kws m) (hall : (backToKw pos (keywordEach kws X.env)).all (·.1.isSome) = true := by rfl) (hks : (backToKw pos (keywordEach kws X.env)).filterMap (·.1) = ps := by rfl)
    (hg : Gl X x := by rfl) (hdb : (x == ("__debug__" : Str)) = false := by decide) (hpl : ((backTo pos (starEach [] X.env)).any (·.1) || (backToKw pos (keywordEach kws X.env)).any (·.1.isNone)) = false := by rfl) :
    PD X (.Call (.Name x p) [] kws pos) (mCall sp m) := by
  refine ⟨pe_imp (pe_callGK F hr hgd hg hm hk hb pass0 h.run hall hks hdb hpl) fun σ H Q q => ?_, fun env Q Q' i q => h.mono env _ _ (fun ds ⟨T, q, k⟩ => ⟨T, q, fun d hT => i d (k d hT)⟩) q⟩
  obtain ⟨z, C, env, o, r, q⟩ := q
  refine liftA_use h.mono o r q fun ds vs C' H' p t dn => ?_
  have q2 : liftF X.K sp vs H' Q E0 := call_use t dn p
  exact ⟨F.many _ _ _ _ q2, q2⟩
end
/-- a def's promise, as its body tells it -/
def startE (n : Nat) (ds : List D) : SEnv := ds.map (fun d => some (false, d)) ++ List.replicate (n - ds.length) none
def endF (T : D → Prop) : EndD := { nx := fun _ => T .non, rt := T, bk := fun _ => False, ct := fun _ => False }
def spOf (np n : Nat) (m : MS) : SpD := fun ds T => ds.length = np ∧ m (endF T) (startE n ds)
section
variable {P : Program} {w : World} {K : PySem.W.Frag} {mg : Str → Option Value} {base : Heap} {k : Nat} {f : Addr} {fd : FuncData} {N ps : List Str} {x qual : Str} {st : Stmt} {m : MS}
theorem startE_at {n : Nat} {ds : List D} {i : Nat} {y : Bool × D} (h : (startE n ds)[i]? = some (some y)) : y.1 = false ∧ ds[i]? = some y.2 := by
  unfold startE at h
  by_cases hi : i < ds.length
  · rw [List.getElem?_append_left (by simpa using hi), List.getElem?_map, List.getElem?_eq_getElem hi] at h
    simp only [Option.map_some, Option.some.injEq] at h
    rw [← h, List.getElem?_eq_getElem hi]
    exact ⟨rfl, rfl⟩
  · rw [List.getElem?_append_right (by simpa using hi), List.getElem?_replicate] at h
    split at h <;> cases h
theorem sr_start {z : Pz} {C H : Hp} {ds : List D} {vs : List V} (o : Ok z C H) (dn : Dns K C z.p ds vs) : SR K z C H C C (startE N.length ds) (L2.start N vs) H := by
  have hl := dn.len
  refine ⟨o, Tr.refl o, Ex.refl C, ?_, fun i d h => ?_, fun i d h => ?_, fun i j d e a h _ _ _ => ?_⟩
  · unfold startE L2.start
    simp [hl]
  · obtain ⟨v, h1, h2⟩ := dn.get (startE_at h).2
    refine ⟨v, ?_, h2⟩
    have hv := (List.getElem?_eq_some_iff.mp h1).1
    unfold L2.start
    rw [List.getElem?_append_left (by simpa using hv), List.getElem?_map, h1]
    rfl
  · cases (startE_at h).1
  · cases (startE_at h).1
/-- THE RULE for a def on data -/
theorem fnD_of (F : Fun K x qual st f fd) (S : FnScope N ps (defScope st))
    (body : ∀ (cdv : Value) (A : Around) (out : List PySem.Env) (s : Shared) (H : Hp) (E : XK), Room k (A.deeper (envOfC qual (defScope st) s.heap.objs.size f cdv)) → A.guards = some [] →
      PDSs (cxOf CX0 P w K mg base N qual (defScope st) f cdv A out s H E).nox (defBody st) m) : FnD P w K mg base (k + 1) f fd ps (spOf ps.length N.length m) := by
  refine fnG_of F S (fun vs H Q E ⟨z, C, ds, T, o, dn, h, _⟩ => by rw [dn.len, h.1]) fun cdv A out s H vs Q E hr gd ⟨z, C, ds, T, o, dn, h, k⟩ => ?_
  have b := body cdv A out s H E hr gd
  refine ⟨_, (b.run z C H C).nox, C, _, sr_start (N := N) o dn, b.mono (endF T) _ _ ⟨fun e q σ' C' H' s' => ?_, fun d q v C' H' t dn => k d v C' H' q t dn, fun _ q => q.elim, fun _ q => q.elim⟩ h.2⟩
  exact k .non .non C' H' q s'.tr (dn_non.mpr rfl)
end
end BV

/-! Operators, subscripts, slices, built-ins, by value. -/
namespace BV
open PySem PySem.Spec PyProof.Rows L2 Evl

section
variable {X : Cx}
def addD : D → D → Option D
  | .int i, .int j => some (.int (i + j))
  | .str a, .str b => if szOk (a.length + b.length) = true then some (.str (a ++ b)) else none
  | .tup a, .tup b => if szOk (a.length + b.length) = true then some (.tup (a ++ b)) else none
  | .lst a, .lst b => if szOk (a.length + b.length) = true then some (.lst (a ++ b)) else none
  | _, _ => none
theorem ite_of {α : Type} {c : Prop} [Decidable c] {a u : α} (h : (if c then some a else none) = some u) : c ∧ a = u := by
  by_cases hc : c
  · rw [if_pos hc] at h; exact ⟨hc, Option.some.inj h⟩
  · rw [if_neg hc] at h; cases h
theorem opd_add : OpD X (binaryOp .Add) addD := by
  refine OpD.of _ (op_add.or (op_add_str.or (op_catF.or op_cat))) fun z C H d e u x y Q o dx dy g k => ?_
  unfold addD at g
  split at g
  · cases g
    exact .inl ⟨_, _, dn_int.mp dx, dn_int.mp dy, k _ C H (Tr.refl o) (dn_int.mpr rfl)⟩
  · obtain ⟨hz, rfl⟩ := ite_of g
    exact .inr (.inl ⟨_, _, dn_str.mp dx, dn_str.mp dy, sz_ok hz, k _ C H (Tr.refl o) (dn_str.mpr rfl)⟩)
  · rename_i as bs
    obtain ⟨hz, rfl⟩ := ite_of g
    obtain ⟨a, xs, e1, e2, e3⟩ := dn_tup dx
    obtain ⟨b, ys, f1, f2, f3⟩ := dn_tup dy
    have l1 := e3.len
    have l2 := f3.len
    refine .inr (.inr (.inl ⟨a, b, xs, ys, e1, f1, ex_t o.ex e2, ex_t o.ex f2, by rw [l1, l2]; exact sz_ok hz, fun h => ?_, fun _ h => ?_, fun _ _ p ob hd hp => ?_⟩))
    · refine k _ C H (Tr.refl o) ?_
      have : as = [] := List.eq_nil_of_length_eq_zero (by rw [← l1, h]; rfl)
      rw [this, List.nil_append, ← f1]
      exact dy
    · refine k _ C H (Tr.refl o) ?_
      have : bs = [] := List.eq_nil_of_length_eq_zero (by rw [← l2, h]; rfl)
      rw [this, List.append_nil, ← e1]
      exact dx
    · exact k _ _ _ (Tr.put o hp) (dn_new_tup (e3.app f3) (fresh_back o.ex hp) hd)
  · rename_i as bs
    obtain ⟨hz, rfl⟩ := ite_of g
    obtain ⟨a, xs, e1, e2, e3⟩ := dn_lst.mp dx
    obtain ⟨b, ys, f1, f2, f3⟩ := dn_lst.mp dy
    refine .inr (.inr (.inr ⟨a, b, xs, ys, e1, f1, o.ex _ _ e2, o.ex _ _ f2, by rw [e3.len, f3.len]; exact sz_ok hz, fun p hp => ?_⟩))
    exact k _ _ _ (Tr.put o hp) (dn_new_lst (e3.app f3) (fresh_back o.ex hp))
  · cases g
def subD : D → D → Option D
  | .int i, .int j => some (.int (i - j))
  | _, _ => none
theorem opd_sub : OpD X (binaryOp .Sub) subD := by
  refine OpD.of _ op_sub fun z C H d e u x y Q o dx dy g k => ?_
  unfold subD at g
  split at g
  · cases g
    exact ⟨_, _, dn_int.mp dx, dn_int.mp dy, k _ C H (Tr.refl o) (dn_int.mpr rfl)⟩
  · cases g
def modD : D → D → Option D
  | .int i, .int j => if 0 < j then some (.int (i % j)) else none
  | _, _ => none
theorem opd_mod : OpD X (binaryOp .Mod) modD := by
  refine OpD.of _ op_mod fun z C H d e u x y Q o dx dy g k => ?_
  unfold modD at g
  split at g
  · obtain ⟨hz, rfl⟩ := ite_of g
    exact ⟨_, _, dn_int.mp dx, dn_int.mp dy, hz, k _ C H (Tr.refl o) (dn_int.mpr rfl)⟩
  · cases g
def fdivD : D → D → Option D
  | .int i, .int j => if 0 < j ∧ j < 1073741824 then some (.int (i / j)) else none
  | _, _ => none
theorem opd_fdiv : OpD X (binaryOp .FloorDiv) fdivD := by
  refine OpD.of _ op_fdiv fun z C H d e u x y Q o dx dy g k => ?_
  unfold fdivD at g
  split at g
  · obtain ⟨hz, rfl⟩ := ite_of g
    exact ⟨_, _, dn_int.mp dx, dn_int.mp dy, hz, k _ C H (Tr.refl o) (dn_int.mpr rfl)⟩
  · cases g
def powD : D → D → Option D
  | .int i, .int j => if 0 ≤ j ∧ j ≤ 1000000 ∧ i.natAbs < 2 ^ 64 then some (.int (i ^ j.toNat)) else none
  | _, _ => none
theorem opd_pow : OpD X (binaryOp .Pow) powD := by
  refine OpD.of _ op_pow fun z C H d e u x y Q o dx dy g k => ?_
  unfold powD at g
  split at g
  · obtain ⟨hz, rfl⟩ := ite_of g
    exact ⟨_, _, dn_int.mp dx, dn_int.mp dy, hz, k _ C H (Tr.refl o) (dn_int.mpr rfl)⟩
  · cases g
/-- a text so many times -/
def repS (x : Str) (n : Nat) : Str := ⟨(List.replicate n x.cps.toList).flatten.toArray⟩
theorem foldl_app (l : List (Array Nat)) : ∀ a : Array Nat, (l.foldl (· ++ ·) a).toList = a.toList ++ (l.map Array.toList).flatten := by
  induction l with
  | nil => intro a; simp
  | cons b l ih => intro a; simp [ih]
theorem op_rep_str : OpR X (binaryOp .Mult) (fun x y H Q => ∃ a n, x = .str a ∧ y = .int n ∧ 0 ≤ n ∧ n ≤ 4000000 ∧ a.length * n.toNat ≤ 4000000 ∧ Q (.str (repS a n.toNat)) H) := by
  intro pins s σ H x y v u Q I rx ry h
  obtain ⟨a, n, rfl, rfl, h0, h1, h2, q⟩ := h
  obtain ⟨t, rfl⟩ := rx
  obtain ⟨t', rfl⟩ := ry
  have hl : sizeLine = 16777216 := sizeLine_eq
  refine PySem.P.mul_str (by rw [decide_eq_false (by omega), decide_eq_false (by omega)]; rfl) (fun h3 h4 => ?_) (fun h3 h4 => ?_) ?_
  · have h5 : (a.length : Int) * n ≤ 4000000 := by
      have : ((a.length * n.toNat : Nat) : Int) ≤ 4000000 := by omega
      rw [Int.natCast_mul, Int.toNat_of_nonneg h0] at this
      exact this
    have hn : 0 < n := by omega
    have h7 : (a.length : Int) ≤ (2 ^ 63 - 1) / n := by
      rw [Int.le_ediv_iff_mul_le hn]
      omega
    omega
  · show decide (a.length * n.toNat > sizeLine) = false
    exact decide_eq_false (by omega)
  · by_cases hn : n < 1
    · rw [if_pos hn]
      have e0 : n = 0 := by omega
      subst e0
      refine ⟨by decide, .str Str.empty, H, I.tok _, ⟨_, rfl⟩, ?_⟩
      exact q
    · rw [if_neg hn]
      by_cases h4 : (n == 1 || a.length == 0) = true
      · rw [if_pos h4]
        have e : repS a n.toNat = a := by
          unfold repS
          rcases Bool.or_eq_true _ _ ▸ h4 with e | e
          · have : n = 1 := by simpa using e
            subst this
            simp
          · have : a.cps.toList = [] := by
              have : a.cps.size = 0 := by
                have e' : a.length = 0 := by simpa using e
                exact e'
              exact List.eq_nil_of_length_eq_zero (by rw [Array.length_toList]; exact this)
            rw [this]
            cases a with
            | mk cps =>
              simp only at this
              have : cps = #[] := by simpa using this
              subst this
              simp
        rw [e] at q
        exact ⟨.str a, H, I, ⟨_, rfl⟩, q⟩
      · rw [if_neg h4]
        have e : (⟨(List.replicate n.toNat a.cps).foldl (· ++ ·) #[]⟩ : Str) = repS a n.toNat := by
          unfold repS
          congr 1
          apply Array.toList_inj.mp
          rw [foldl_app]
          simp
        rw [e]
        refine ⟨?_, .str _, H, I.tok _, ⟨_, rfl⟩, q⟩
        show (repS a n.toNat).length ≤ sizeLine
        have : (repS a n.toNat).length = n.toNat * a.length := by
          unfold repS Str.length
          simp [List.length_flatten]
        rw [this, Nat.mul_comm]
        omega
def mulD : D → D → Option D
  | .int i, .int j => if (-(2 ^ 64) < i ∧ i < 2 ^ 64) ∨ (-(2 ^ 64) < j ∧ j < 2 ^ 64) then some (.int (i * j)) else none
  | .str a, .int n => if 0 ≤ n ∧ n ≤ 4000000 ∧ a.length * n.toNat ≤ 4000000 then some (.str (repS a n.toNat)) else none
  | .lst a, .int n => if 0 ≤ n ∧ n ≤ 4000000 ∧ a.length * n.toNat ≤ 4000000 then some (.lst (List.replicate n.toNat a).flatten) else none
  | _, _ => none
theorem opd_mul : OpD X (binaryOp .Mult) mulD := by
  refine OpD.of _ (op_mul.or (op_rep_str.or op_rep)) fun z C H d e u x y Q o dx dy g k => ?_
  unfold mulD at g
  split at g
  · obtain ⟨hz, rfl⟩ := ite_of g
    exact .inl ⟨_, _, dn_int.mp dx, dn_int.mp dy, hz, k _ C H (Tr.refl o) (dn_int.mpr rfl)⟩
  · obtain ⟨⟨h1, h2, h3⟩, rfl⟩ := ite_of g
    exact .inr (.inl ⟨_, _, dn_str.mp dx, dn_int.mp dy, h1, h2, h3, k _ C H (Tr.refl o) (dn_str.mpr rfl)⟩)
  · obtain ⟨⟨h1, h2, h3⟩, rfl⟩ := ite_of g
    obtain ⟨a, xs, e1, e2, e3⟩ := dn_lst.mp dx
    have hl : sizeLine = 16777216 := sizeLine_eq
    refine .inr (.inr ⟨a, _, xs, e1, dn_int.mp dy, o.ex _ _ e2, by omega, by omega, by rw [e3.len]; omega, fun p hp => ?_⟩)
    exact k _ _ _ (Tr.put o hp) (dn_new_lst (e3.rep _) (fresh_back o.ex hp))
  · cases g
def negD : D → Option D
  | .int i => some (.int (-i))
  | _ => none
theorem und_neg : UnD X (unaryOp .USub) negD := by
  refine ⟨_, un_neg, fun z C H d u x Q o dx g k => ?_⟩
  unfold negD at g
  split at g
  · cases g
    exact ⟨_, dn_int.mp dx, k _ C H (Tr.refl o) (dn_int.mpr rfl)⟩
  · cases g

/-! ### comparisons -/
def leD : D → D → Option D
  | .int i, .int j => some (.bl (decide (i ≤ j)))
  | _, _ => none
theorem opd_le : OpD X (compareOp .LtE) leD := by
  refine OpD.of _ op_le fun z C H d e u x y Q o dx dy g k => ?_
  unfold leD at g
  split at g
  · cases g
    exact ⟨_, _, dn_int.mp dx, dn_int.mp dy, k _ C H (Tr.refl o) (dn_bl.mpr rfl)⟩
  · cases g
def gtD : D → D → Option D
  | .int i, .int j => some (.bl (decide (j < i)))
  | _, _ => none
theorem opd_gt : OpD X (compareOp .Gt) gtD := by
  refine OpD.of _ op_gt fun z C H d e u x y Q o dx dy g k => ?_
  unfold gtD at g
  split at g
  · cases g
    exact ⟨_, _, dn_int.mp dx, dn_int.mp dy, k _ C H (Tr.refl o) (dn_bl.mpr rfl)⟩
  · cases g
def geD : D → D → Option D
  | .int i, .int j => some (.bl (decide (j ≤ i)))
  | _, _ => none
theorem opd_ge : OpD X (compareOp .GtE) geD := by
  refine OpD.of _ op_ge fun z C H d e u x y Q o dx dy g k => ?_
  unfold geD at g
  split at g
  · cases g
    exact ⟨_, _, dn_int.mp dx, dn_int.mp dy, k _ C H (Tr.refl o) (dn_bl.mpr rfl)⟩
  · cases g
/-- data that == looks at -/
def okEq (d : D) : Bool := d.pf && SeqAt.shaped d.py
def eqD (d e : D) : Option D := if okEq d = true ∧ okEq e = true then some (.bl (PyData.eqv d.py e.py)) else none
def neD (d e : D) : Option D := if okEq d = true ∧ okEq e = true then some (.bl (!PyData.eqv d.py e.py)) else none
theorem okEq_of {d : D} (h : okEq d = true) : d.pf = true ∧ SeqAt.shaped d.py = true := by simpa [okEq] using h
theorem opd_eq (hu : X.A.units + 64 < cLine) : OpD X (compareOp .Eq) eqD := by
  refine OpD.of _ (op_eqD hu) fun z C H d e u x y Q o dx dy g k => ?_
  obtain ⟨⟨h1, h2⟩, rfl⟩ := ite_of g
  exact ⟨d.py, e.py, dx.dp o.ex d x (okEq_of h1).1, dy.dp o.ex e y (okEq_of h2).1, (okEq_of h1).2, (okEq_of h2).2, k _ C H (Tr.refl o) (dn_bl.mpr rfl)⟩
theorem opd_ne (hu : X.A.units + 64 < cLine) : OpD X (compareOp .NotEq) neD := by
  refine OpD.of _ (op_neD hu) fun z C H d e u x y Q o dx dy g k => ?_
  obtain ⟨⟨h1, h2⟩, rfl⟩ := ite_of g
  exact ⟨d.py, e.py, dx.dp o.ex d x (okEq_of h1).1, dy.dp o.ex e y (okEq_of h2).1, (okEq_of h1).2, (okEq_of h2).2, k _ C H (Tr.refl o) (dn_bl.mpr rfl)⟩

/-! ### subscripts -/
def ixD : D → D → Option D
  | .lst xs, .int i => atI xs i
  | .tup xs, .int i => atI xs i
  | .pr xs, .int i => atI xs i
  | .str x, .int i => if szOk x.length = true then (atI x.cps.toList i).map fun c => .str ⟨#[c]⟩ else none
  | _, _ => none
theorem at_dn {K : PySem.W.Frag} {C : Hp} {pu : Addr} {ds : List D} {xs : List V} {i : Int} {d : D} (h : Dns K C pu ds xs) (e : atI ds i = some d) : ∃ v, atI xs i = some v ∧ Dn K C pu d v := by
  unfold atI at e ⊢
  rw [h.len]
  cases hx : ixN ds.length i with
  | none => rw [hx] at e; cases e
  | some j =>
    rw [hx] at e
    exact h.get e
theorem pd_ix {a b : Expr} {ma mb : ME} {pos : Pos} (ha : PD X a ma) (hb : PD X b mb) (hs : PlainIx b) : PD X (.Subscript a b pos) (mOp ixD ma mb) := by
  refine ⟨pe_imp (pe_ix ix_seq ha.run hb.run hs) fun σ H Q q => ?_, mono_op ha.mono hb.mono⟩
  obtain ⟨z, C, env, o, r, q⟩ := q
  refine two (ta := lift X.K ma) (tb := lift X.K mb) o r ha.mono hb.mono q fun d e x y C' H' ⟨w, g, p⟩ t dx dy => ?_
  unfold ixD at g
  split at g
  · obtain ⟨l, xs, e1, e2, e3⟩ := dn_lst.mp dx
    obtain ⟨v, h1, h2⟩ := at_dn e3 g
    exact .inl ⟨l, xs, _, v, e1, dn_int.mp dy, ex_l t.ok.ex (sq_of e2), h1, p v C' H' t h2⟩
  · obtain ⟨l, xs, e1, e2, e3⟩ := dn_tup dx
    obtain ⟨v, h1, h2⟩ := at_dn e3 g
    exact .inr (.inl ⟨l, xs, _, v, e1, dn_int.mp dy, ex_t t.ok.ex e2, h1, p v C' H' t h2⟩)
  · obtain ⟨l, xs, e1, e2, e3⟩ := dn_pr.mp dx
    obtain ⟨v, h1, h2⟩ := at_dn e3 g
    exact .inr (.inl ⟨l, xs, _, v, e1, dn_int.mp dy, ex_t t.ok.ex e2, h1, p v C' H' t h2⟩)
  · split at g
    · rename_i hz
      obtain ⟨c, h1, rfl⟩ := Option.map_eq_some_iff.mp g
      exact .inr (.inr ⟨_, _, c, dn_str.mp dx, dn_int.mp dy, sz_ok hz, h1, p _ C' H' t (dn_str.mpr rfl)⟩)
    · cases g
  · cases g
/-! ### slices -/
abbrev MO := Env → (Option Int → Prop) → Prop
def liftP (K : PySem.W.Frag) (m : MO) : TO := fun σ H Q => ∃ z C env, Ok z C H ∧ EnvR K z C env σ ∧ m env fun o => ∀ C' H', Tr z C H C' H' → Q o H'
structure PDO' (X : Cx) (e : Option Expr) (m : MO) : Prop where
  run : PO X e (liftP X.K m)
  mono : ∀ env (Q Q' : Option Int → Prop), (∀ d, Q d → Q' d) → m env Q → m env Q'
def moNo : MO := fun _ Q => Q none
def moYes (m : ME) : MO := fun env Q => m env fun d => ∃ i, d = .int i ∧ Q (some i)
theorem po_imp {e : Option Expr} {t t' : TO} (h : PO X e t) (i : ∀ σ H Q, t' σ H Q → t σ H Q) : PO X e t' := ⟨fun pins s σ H Q I q => h.run pins s σ H Q I (i σ H Q q)⟩
theorem pdp_none : PDO' X none moNo := ⟨po_imp po_none fun σ H Q ⟨z, C, env, o, r, q⟩ => q C H (Tr.refl o), fun env Q Q' i q => i _ q⟩
theorem pdp_some {e : Expr} {m : ME} (h : PD X e m) : PDO' X (some e) (moYes m) := by
  refine ⟨po_imp (po_some h.run) fun σ H Q q => ?_, fun env Q Q' i q => h.mono _ _ _ (fun d ⟨j, e, q⟩ => ⟨j, e, i _ q⟩) q⟩
  obtain ⟨z, C, env, o, r, q⟩ := q
  exact lift_use h.mono o r q fun d v C' H' ⟨j, e, p⟩ t dn => ⟨j, dn_int.mp (e ▸ dn), p C' H' t⟩
def cutD {α : Type} (xs : List α) (lo hi : Option Int) : List α := (xs.drop (HT.sIx xs.length 0 lo)).take (HT.sIx xs.length xs.length hi - HT.sIx xs.length 0 lo)
def slD (d : D) (lo hi : Option Int) : Option D := match d with
  | .lst xs => some (.lst (cutD xs lo hi))
  | .tup xs => some (.tup (cutD xs lo hi))
  | .str x => if szOk x.length = true then some (.str ⟨(cutD x.cps.toList lo hi).toArray⟩) else none
  | _ => none
theorem dn_cut {K : PySem.W.Frag} {C : Hp} {pu : Addr} {ds : List D} {xs : List V} {lo hi : Option Int} (h : Dns K C pu ds xs) : Dns K C pu (cutD ds lo hi) (cutV xs lo hi) := by
  unfold cutD cutV
  rw [h.len]
  exact (h.drop _).take _
def mSl (ma : ME) (ml mh : MO) : ME := fun env Q => ma env fun d => ml env fun lo => mh env fun hi => ∃ u, slD d lo hi = some u ∧ Q u
theorem pd_slice {e : Expr} {lo hi : Option Expr} {ma : ME} {ml mh : MO} {pos p2 : Pos} (ha : PD X e ma) (hl : PDO' X lo ml) (hh : PDO' X hi mh) : PD X (.Subscript e (.Slice lo hi none p2) pos) (mSl ma ml mh) := by
  refine ⟨pe_imp (pe_slice (sl_list.or (sl_tupF.or sl_str)) ha.run hl.run hh.run) fun σ H Q q => ?_, fun env Q Q' i q => ha.mono _ _ _ (fun d q => hl.mono _ _ _ (fun l q => hh.mono _ _ _ (fun h ⟨u, g, q⟩ => ⟨u, g, i _ q⟩) q) q) q⟩
  obtain ⟨z, C, env, o, r, q⟩ := q
  refine lift_use ha.mono o r q fun d x C1 H1 q t1 dn => ?_
  refine ⟨z, C1, env, t1.ok, r.mono t1.cc, hl.mono _ _ _ (fun l q C2 H2 t2 => ?_) q⟩
  refine ⟨z, C2, env, t2.ok, (r.mono t1.cc).mono t2.cc, hh.mono _ _ _ (fun h ⟨u, g, p⟩ C3 H3 t3 => ?_) q⟩
  have t23 := t2.trans t3
  have t := t1.trans t23
  have dn3 := dn.mono t23.cc
  have o3 := t.ok
  unfold slD at g
  split at g
  · cases g
    obtain ⟨a, xs, e1, e2, e3⟩ := dn_lst.mp dn3
    exact .inl ⟨a, xs, e1, ex_l o3.ex (sq_of e2), fun q hq => p _ _ _ (t.trans (Tr.put o3 hq)) (dn_new_lst (dn_cut e3) (fresh_back o3.ex hq))⟩
  · cases g
    obtain ⟨a, xs, e1, e2, e3⟩ := dn_tup dn3
    refine .inr (.inl ⟨a, xs, e1, ex_t o3.ex e2, fun hw => ?_, fun _ q ob hd hq => p _ _ _ (t.trans (Tr.put o3 hq)) (dn_new_tup (dn_cut e3) (fresh_back o3.ex hq) hd)⟩)
    have e : ∀ es : List D, es.length = xs.length → cutD es l h = es := fun es he => by
      unfold cutD
      rw [he, hw.1, hw.2, List.drop_zero, Nat.sub_zero, ← he]
      exact List.take_length
    rw [e _ e3.len.symm] at p
    exact p _ _ _ t (e1 ▸ dn3)
  · obtain ⟨hz, rfl⟩ := ite_of g
    refine .inr (.inr ⟨_, dn_str.mp dn3, sz_ok hz, p _ _ _ t (dn_str.mpr ?_)⟩)
    rfl
  · cases g

/-! ### built-ins -/
def lenD : List D → Option D
  | [.lst xs] => some (.int xs.length)
  | [.tup xs] => some (.int xs.length)
  | [.pr xs] => some (.int xs.length)
  | [.str x] => if szOk x.length = true then some (.int x.length) else none
  | _ => none
theorem cd_len : CallD X (.builtin "len") lenD := by
  refine ⟨_, call_len, fun z C H ds u xs Q o dn g k => ?_⟩
  unfold lenD at g
  split at g
  · cases g
    obtain ⟨v, e1, e2⟩ := dns1 dn
    obtain ⟨a, ys, f1, f2, f3⟩ := dn_lst.mp e2
    subst f1
    refine ⟨_, ys.length, e1, .inl ⟨ys, ex_l o.ex (sq_of f2), rfl⟩, ?_⟩
    rw [f3.len]
    exact k _ C H (Tr.refl o) (dn_int.mpr rfl)
  · cases g
    obtain ⟨v, e1, e2⟩ := dns1 dn
    obtain ⟨a, ys, f1, f2, f3⟩ := dn_tup e2
    subst f1
    refine ⟨_, ys.length, e1, .inr ⟨ys, ex_t o.ex f2, rfl⟩, ?_⟩
    rw [f3.len]
    exact k _ C H (Tr.refl o) (dn_int.mpr rfl)
  · cases g
    obtain ⟨v, e1, e2⟩ := dns1 dn
    obtain ⟨a, ys, f1, f2, f3⟩ := dn_pr.mp e2
    subst f1
    refine ⟨_, ys.length, e1, .inr ⟨ys, ex_t o.ex f2, rfl⟩, ?_⟩
    rw [f3.len]
    exact k _ C H (Tr.refl o) (dn_int.mpr rfl)
  · obtain ⟨hz, rfl⟩ := ite_of g
    obtain ⟨v, e1, e2⟩ := dns1 dn
    rw [dn_str.mp e2] at e1
    exact ⟨_, _, e1, ⟨sz_ok hz, rfl⟩, k _ C H (Tr.refl o) (dn_int.mpr rfl)⟩
  · cases g
def minD : List D → Option D
  | [.int i, .int j] => some (.int (if j < i then j else i))
  | _ => none
theorem cd_min2 (hc : X.calm = true) : CallD X (.builtin "min") minD := by
  refine ⟨_, call_min2 hc, fun z C H ds u xs Q o dn g k => ?_⟩
  unfold minD at g
  split at g
  · cases g
    obtain ⟨v, w, e1, e2, e3⟩ := dns2 dn
    rw [dn_int.mp e2, dn_int.mp e3] at e1
    exact ⟨_, _, e1, k _ C H (Tr.refl o) (dn_int.mpr rfl)⟩
  · cases g
def ordD : List D → Option D
  | [.str x] => if x.length = 1 then some (.int ((x.cps.getD 0 0 : Nat) : Int)) else none
  | _ => none
theorem cd_ord : CallD X (.builtin "ord") ordD := by
  refine ⟨_, call_ord, fun z C H ds u xs Q o dn g k => ?_⟩
  unfold ordD at g
  split at g
  · obtain ⟨hz, rfl⟩ := ite_of g
    obtain ⟨v, e1, e2⟩ := dns1 dn
    rw [dn_str.mp e2] at e1
    exact ⟨_, e1, hz, k _ C H (Tr.refl o) (dn_int.mpr rfl)⟩
  · cases g
def intD : List D → Option D
  | [.int i] => some (.int i)
  | _ => none
theorem cd_int : CallD X (.type "int") intD := by
  refine ⟨_, call_int1, fun z C H ds u xs Q o dn g k => ?_⟩
  unfold intD at g
  split at g
  · cases g
    obtain ⟨v, e1, e2⟩ := dns1 dn
    rw [dn_int.mp e2] at e1
    exact .inl ⟨_, e1, k _ C H (Tr.refl o) (dn_int.mpr rfl)⟩
  · cases g
def tupleD : List D → Option D
  | [.lst xs] => some (.tup xs)
  | [.tup xs] => some (.tup xs)
  | _ => none
theorem cd_tuple : CallD X (.type "tuple") tupleD := by
  refine ⟨_, call_tupleF, fun z C H ds u xs Q o dn g k => ?_⟩
  unfold tupleD at g
  split at g
  · cases g
    obtain ⟨v, e1, e2⟩ := dns1 dn
    obtain ⟨a, ys, f1, f2, f3⟩ := dn_lst.mp e2
    subst f1
    exact ⟨a, ys, e1, .inl ⟨ex_l o.ex (sq_of f2), fun l ob hd hl => k _ _ _ (Tr.put o hl) (dn_new_tup f3 (fresh_back o.ex hl) hd)⟩⟩
  · cases g
    obtain ⟨v, e1, e2⟩ := dns1 dn
    obtain ⟨a, ys, f1, f2, f3⟩ := dn_tup e2
    have f1' := f1
    subst f1
    exact ⟨a, ys, e1, .inr ⟨ex_t o.ex f2, k _ C H (Tr.refl o) e2⟩⟩
  · cases g
def listD : List D → Option D
  | [.lst xs] => some (.lst xs)
  | [.tup xs] => some (.lst xs)
  | _ => none
theorem cd_list : CallD X (.type "list") listD := by
  refine ⟨_, call_list_of, fun z C H ds u xs Q o dn g k => ?_⟩
  unfold listD at g
  split at g
  · cases g
    obtain ⟨v, e1, e2⟩ := dns1 dn
    obtain ⟨a, ys, f1, f2, f3⟩ := dn_lst.mp e2
    subst f1
    exact ⟨a, ys, e1, .inl (ex_l o.ex (sq_of f2)), fun l hl => k _ _ _ (Tr.put o hl) (dn_new_lst f3 (fresh_back o.ex hl))⟩
  · cases g
    obtain ⟨v, e1, e2⟩ := dns1 dn
    obtain ⟨a, ys, f1, f2, f3⟩ := dn_tup e2
    subst f1
    exact ⟨a, ys, e1, .inr (ex_t o.ex f2), fun l hl => k _ _ _ (Tr.put o hl) (dn_new_lst f3 (fresh_back o.ex hl))⟩
  · cases g
/-- repr of data -/
def okRepr (d : D) : Bool := d.pf && d.py.showable && decide (d.py.depth ≤ 60) && szOk d.py.shown.length
def reprD : List D → Option D
  | [d] => if okRepr d = true then some (.str d.py.shown) else none
  | _ => none
mutual
theorem noDict : ∀ d : D, d.pf = true → d.py.hasDict = false
  | .non, _ => rfl
  | .bl b, _ => rfl
  | .int i, _ => rfl
  | .str s, _ => rfl
  | .pur, _ => rfl
  | .tup ds, h => by simp only [D.py, PyData.hasDict]; exact noDicts ds (by simpa [D.pf] using h)
  | .lst ds, h => by simp only [D.py, PyData.hasDict]; exact noDicts ds (by simpa [D.pf] using h)
  | .pr ds, h => by simp only [D.py, PyData.hasDict]; exact noDicts ds (by simpa [D.pf] using h)
  | .dic _ _, h => by simp [D.pf] at h
theorem noDicts : ∀ ds : List D, D.pfs ds = true → PyData.hasDictAll (D.pys ds) = false
  | [], _ => rfl
  | d :: ds, h => by
    have h' : d.pf = true ∧ D.pfs ds = true := by simpa [D.pfs] using h
    simp only [D.pys, PyData.hasDictAll, noDict d h'.1, noDicts ds h'.2, Bool.or_false]
end
def rRepr (K : PySem.W.Frag) : List V → Hp → VK → Prop := fun xs H Q => ∃ x d, xs = [x] ∧ Dp K H x d ∧ d.showable = true ∧ d.hasDict = false ∧ d.depth ≤ 60 ∧ d.shown.length ≤ 4000000 ∧ Q (.str d.shown) H
theorem call_reprD (hu : X.A.units + 64 < cLine) (hgd : X.A.guards = some []) : CallR X (.builtin "repr") (rRepr X.K) := by
  intro pins s σ H xs us Q I r h
  obtain ⟨x, d, rfl, hd, h1, h2, h3, h4, q⟩ := h
  obtain ⟨u, rfl, ru⟩ := vals1 r
  have hl : sizeLine = 16777216 := sizeLine_eq
  cases hd with
  | non =>
    cases ru
    exact PySem.P.repr_of_none ⟨.str _, H, I.tok _, ⟨_, rfl⟩, q⟩
  | bl b =>
    cases ru
    exact PySem.P.repr_of_bool ⟨.str _, H, I.tok _, ⟨_, rfl⟩, by cases b <;> exact q⟩
  | int i =>
    obtain ⟨t, rfl⟩ := ru
    exact PySem.P.repr_of_int (by simpa [PyData.showable] using h1) ⟨.str _, H, I.tok _, ⟨_, rfl⟩, q⟩
  | str y =>
    obtain ⟨t, rfl⟩ := ru
    have h5 : (reprText y).length ≤ sizeLine := by
      have : (reprText y).length ≤ 4000000 := h4
      omega
    exact PySem.P.repr_of_str ⟨.str _, H, I.tok _, ⟨_, rfl⟩, q⟩ h5
  | lst hs ha =>
    obtain ⟨as, hr⟩ := Dp.reads I _ _ _ (.lst hs ha) ru
    cases ru
    exact repr_of_reads' (h₀ := s.heap) hr h1 (fun e => by rw [h2] at e; cases e) hgd (by omega) (fun _ _ e => e) (fun h' t' tk hk => ⟨.str _, H, I.kept hk, ⟨_, rfl⟩, q⟩) (by omega)
  | tup hs ha =>
    obtain ⟨as, hr⟩ := Dp.reads I _ _ _ (.tup hs ha) ru
    cases ru
    exact repr_of_reads' (h₀ := s.heap) hr h1 (fun e => by rw [h2] at e; cases e) hgd (by omega) (fun _ _ e => e) (fun h' t' tk hk => ⟨.str _, H, I.kept hk, ⟨_, rfl⟩, q⟩) (by omega)
theorem cd_repr (hu : X.A.units + 64 < cLine) (hgd : X.A.guards = some []) : CallD X (.builtin "repr") reprD := by
  refine ⟨_, call_reprD hu hgd, fun z C H ds u xs Q o dn g k => ?_⟩
  unfold reprD at g
  split at g
  · rename_i d
    obtain ⟨hz, rfl⟩ := ite_of g
    obtain ⟨v, e1, e2⟩ := dns1 dn
    have hz' : ((d.pf = true ∧ d.py.showable = true) ∧ d.py.depth ≤ 60) ∧ szOk d.py.shown.length = true := by simpa [okRepr] using hz
    obtain ⟨⟨⟨a, b⟩, c⟩, f⟩ := hz'
    have f' : d.py.shown.length ≤ 4000000 := of_decide_eq_true f
    exact ⟨v, d.py, e1, e2.dp o.ex d v a, b, noDict d a, c, f', k _ C H (Tr.refl o) (dn_str.mpr rfl)⟩
  · cases g
end
end BV

/-! The order of data of any depth, sorted, isinstance, join, insert, several targets. -/
namespace BV
open PySem PySem.Spec PyProof.Rows L2 Evl
open PySem.SeqAt (EqAt)

/-! ### < of data -/
inductive LexR (A : Around) (s : Shared) (z : Bool) : List Value → List Value → Bool → Prop where
  | nil {ws : List Value} : LexR A s z [] ws z
  | nil2 {v : Value} {vs : List Value} : LexR A s z (v :: vs) [] z
  | eq {v w : Value} {vs ws : List Value} {b : Bool} : EqAt A.in1 s v w true → LexR A s z vs ws b → LexR A s z (v :: vs) (w :: ws) b
  | ne {v w : Value} {vs ws : List Value} {b : Bool} : EqAt A.in1 s v w false → Ob.RcOp .Lt A.in1 s v w b → LexR A s z (v :: vs) (w :: ws) b
section
open PySem.AutoSeq1 (wpAny_loadPart')
open PySem.MeetsSeq PySem.MeetsSeq2 PySem.MeetsSeq3
theorem lex_meets (l b : Addr) (xs ys : Array Value) (n n2 : Nat) (dd dd2 : Option Addr) (sl sl2 : Array (Option Value)) (res : Bool) :
    Meets (Builtin.«tuple.__lt__» ⟨[.ref l, .ref b], []⟩)
      (fun A R s => s.heap.get? l = some { cls := .type "tuple", dict := dd, data := .seq xs n, slots := sl } ∧ s.heap.get? b = some { cls := .type "tuple", dict := dd2, data := .seq ys n2, slots := sl2 } ∧
        LexR A s (decide (xs.size < ys.size)) xs.toList ys.toList res ∧ R (.ok (.ret (.bool res))) s) :=
  .of_wp fun prog w A R s h => by
    obtain ⟨hp, g, d, tk, os⟩ := s
    obtain ⟨hl, hb, hx, h⟩ := h
    have f2 := AutoSeq1.sub_tuple_tuple
    wp_walk using wpAny_loadPart' hl, wpAny_loadPart' hb, wpAny_forIn_list _ (fun rest b s' => b.1 = none ∧ s' = ⟨hp, g, d, tk, os⟩ ∧ ∃ vs ws, rest = vs.zip ws ∧ LexR A ⟨hp, g, d, tk, os⟩ (decide (xs.size < ys.size)) vs ws res) _
    case turn =>
      rintro ⟨y, x⟩ rest b s' ⟨hb', rfl, vs, ws, hz, hR⟩
      cases hR with
      | nil => rw [List.zip_nil_left] at hz; cases hz
      | nil2 => rw [List.zip_nil_right] at hz; cases hz
      | eq he hr =>
        rw [List.zip_cons_cons] at hz
        injection hz with e1 e2
        cases e1
        refine wpAny_bind (he prog w _ _ ?_)
        wp_walk
        exact ⟨rfl, rfl, _, _, e2, hr⟩
      | ne he hr =>
        rw [List.zip_cons_cons] at hz
        injection hz with e1 e2
        cases e1
        refine wpAny_bind (he prog w _ _ ?_)
        have hri := hr prog w
        wp_walk using hri
        exact ⟨_, rfl, by simpa using h⟩
    case fin =>
      rintro ⟨b1, b2⟩ s' ⟨hb', rfl, vs, ws, hz, hR⟩
      simp only at hb'
      subst hb'
      have e : res = decide (xs.size < ys.size) := by
        cases hR with
        | nil => rfl
        | nil2 => rfl
        | eq he hr => rw [List.zip_cons_cons] at hz; cases hz
        | ne he hr => rw [List.zip_cons_cons] at hz; cases hz
      rw [e] at h
      wp_walk
      exact ⟨_, rfl, by simpa [Builtin.Tuple.tupleCompareSizes] using h⟩
    case h =>
      exact ⟨rfl, rfl, xs.toList, ys.toList, rfl, hx⟩
theorem lex_lt {A : Around} {s : Shared} {l b : Addr} {xs ys : Array Value} {res : Bool} (hl : s.heap.IsTuple l xs) (hb : s.heap.IsTuple b ys) (hu : A.units < cLine) (h : LexR A s (decide (xs.size < ys.size)) xs.toList ys.toList res) :
    Ob.RcOp .Lt A s (.ref l) (.ref b) res := fun prog w E Q q => by
  obtain ⟨⟨cls, dd, data, sl⟩, ho, hc, n, hd⟩ := id hl
  obtain ⟨⟨cls2, dd2, data2, sl2⟩, ho2, hc2, n2, hd2⟩ := id hb
  simp only at hc hd hc2 hd2
  subst hc hd hc2 hd2
  exact richCompare_meets_room (op := .Lt) ⟨_, ho, rfl⟩ ⟨_, ho2, rfl⟩ F.slot_tuple_lt F.entry_tuple_lt (F.args_tuple_lt_2 _ _) (lex_meets l b xs ys n n2 dd dd2 sl sl2 res) ⟨ho, ho2, h, ⟨(fun x => nomatch x), q⟩⟩ hu
end
mutual
def ltO : D → D → Option Bool
  | .int i, e => match e with
    | .int j => some (decide (i < j))
    | _ => none
  | .str a, e => match e with
    | .str b => some (decide (a.cps.toList < b.cps.toList))
    | _ => none
  | .tup xs, e => match e with
    | .tup ys => ltOs xs ys
    | _ => none
  | _, _ => none
def ltOs : List D → List D → Option Bool
  | [], ys => some (!ys.isEmpty)
  | x :: xs, ys => match ys with
    | [] => some false
    | y :: ys => if PyData.eqv x.py y.py = true then ltOs xs ys else ltO x y
end
mutual
theorem lt_reads {s : Shared} : ∀ (d e : D) (b : Bool) (A : Around) (v u : Value) (as bs : List Addr), Reads s.heap v d.py as → Reads s.heap u e.py bs → d.py.canLay0 = true → e.py.canLay0 = true → ltO d e = some b → A.units + d.py.depth + 1 < cLine → Ob.RcOp .Lt A s v u b
  | .int i, e, b, A, v, u, as, bs, r1, r2, c1, c2, h, hu => by
    cases e with
    | int j =>
      simp only [ltO, Option.some.injEq] at h
      subst h
      simp only [D.py] at r1 r2
      cases r1
      cases r2
      exact Ob.RcOp.lt_int _ _ _ _
    | _ => simp [ltO] at h
  | .str x, e, b, A, v, u, as, bs, r1, r2, c1, c2, h, hu => by
    cases e with
    | str y =>
      simp only [ltO, Option.some.injEq] at h
      subst h
      simp only [D.py] at r1 r2
      cases r1
      cases r2
      exact fun prog w E Q q => PyProof.Rows.lt_str q
    | _ => simp [ltO] at h
  | .tup ds, e, b, A, v, u, as, bs, r1, r2, c1, c2, h, hu => by
    cases e with
    | tup es =>
      simp only [ltO] at h
      simp only [D.py] at r1 r2
      cases r1 with
      | tuple h1 h2 h3 h4 =>
        cases r2 with
        | tuple k1 k2 k3 k4 =>
          rename_i o1 v1 n1 a2 o2 v2 n2
          have l1 := PySem.SeqAt.ReadsAll.length _ _ _ h4
          have l2 := PySem.SeqAt.ReadsAll.length _ _ _ k4
          refine lex_lt ⟨_, h1, h2, _, h3⟩ ⟨_, k1, k2, _, k3⟩ (by omega) ?_
          refine lts_reads ds es b A _ _ _ _ _ h4 k4 (by simpa [D.py, PyData.canLay0] using c1) (by simpa [D.py, PyData.canLay0] using c2) h (by simp only [D.py, PyData.depth] at hu; omega) ?_
          have e1 : (D.pys ds).length = ds.length := pys_len ds
          have e2 : (D.pys es).length = es.length := pys_len es
          rw [← Array.length_toList, ← Array.length_toList, l1, l2, e1, e2]
    | _ => simp [ltO] at h
  | .non, e, b, A, v, u, as, bs, r1, r2, c1, c2, h, hu => by simp [ltO] at h
  | .bl _, e, b, A, v, u, as, bs, r1, r2, c1, c2, h, hu => by simp [ltO] at h
  | .lst _, e, b, A, v, u, as, bs, r1, r2, c1, c2, h, hu => by simp [ltO] at h
  | .pur, e, b, A, v, u, as, bs, r1, r2, c1, c2, h, hu => by simp [ltO] at h
  | .pr _, e, b, A, v, u, as, bs, r1, r2, c1, c2, h, hu => by simp [ltO] at h
  | .dic _ _, e, b, A, v, u, as, bs, r1, r2, c1, c2, h, hu => by simp [ltO] at h
theorem lts_reads {s : Shared} : ∀ (ds es : List D) (b : Bool) (A : Around) (z : Bool) (vs us : List Value) (as bs : List Addr), ReadsAll s.heap vs (D.pys ds) as → ReadsAll s.heap us (D.pys es) bs → PyData.canLayAll0 (D.pys ds) = true → PyData.canLayAll0 (D.pys es) = true →
    ltOs ds es = some b → A.units + PyData.depthAll (D.pys ds) + 2 < cLine → z = decide (ds.length < es.length) → LexR A s z vs us b
  | [], es, b, A, z, vs, us, as, bs, r1, r2, c1, c2, h, hu, hz => by
    simp only [D.pys] at r1
    cases r1
    simp only [ltOs, Option.some.injEq] at h
    have : b = z := by
      rw [← h, hz]
      cases es <;> simp
    subst this
    exact .nil
  | d :: ds, [], b, A, z, vs, us, as, bs, r1, r2, c1, c2, h, hu, hz => by
    simp only [D.pys] at r1 r2
    cases r1 with
    | cons h1 h2 =>
      cases r2
      simp only [ltOs, Option.some.injEq] at h
      have : b = z := by rw [← h, hz]; simp
      subst this
      exact .nil2
  | d :: ds, e :: es, b, A, z, vs, us, as, bs, r1, r2, c1, c2, h, hu, hz => by
    simp only [D.pys] at r1 r2
    cases r1 with
    | cons h1 h2 =>
      cases r2 with
      | cons k1 k2 =>
        have c1' : d.py.canLay0 = true ∧ PyData.canLayAll0 (D.pys ds) = true := by simpa [D.pys, PyData.canLayAll0] using c1
        have c2' : e.py.canLay0 = true ∧ PyData.canLayAll0 (D.pys es) = true := by simpa [D.pys, PyData.canLayAll0] using c2
        have hd : A.units + max d.py.depth (PyData.depthAll (D.pys ds)) + 2 < cLine := by simpa [D.pys, PyData.depthAll] using hu
        have heq := PySem.SeqAt.eqAt_reads d.py e.py A.in1 s _ _ _ _ h1 k1 c1'.1 c2'.1 (by show A.units + 1 + _ < _; omega)
        simp only [ltOs] at h
        by_cases hq : PyData.eqv d.py e.py = true
        · rw [if_pos hq] at h
          rw [hq] at heq
          exact .eq heq (lts_reads ds es b A z _ _ _ _ h2 k2 c1'.2 c2'.2 h (by omega) (by rw [hz]; simp))
        · rw [if_neg hq] at h
          rw [Bool.not_eq_true] at hq
          rw [hq] at heq
          exact .ne heq (lt_reads d e b A.in1 _ _ _ _ h1 k1 c1'.1 c2'.1 h (by show A.units + 1 + _ + 1 < _; omega))
theorem pys_len : ∀ ds : List D, (D.pys ds).length = ds.length
  | [] => rfl
  | d :: ds => by simp [D.pys, pys_len ds]
end

/-- everything of it can be looked at: no purse, texts of signs, not too deep -/
theorem canLay_ok {d : D} (h : okEq d = true) : d.py.canLay0 = true := PySem.SeqAt.canLay_of_shaped (okEq_of h).2
theorem depth_ok {d : D} (h : okEq d = true) : d.py.depth ≤ 64 := PySem.SeqAt.depth_of_shaped (okEq_of h).2
def ltD (d e : D) : Option D := if okEq d = true ∧ okEq e = true ∧ d.py.depth ≤ 60 then (ltO d e).map D.bl else none
section
variable {X : Cx}
theorem op_ltO (hu : X.A.units + 64 < cLine) : OpR X (compareOp .Lt) (fun x y H Q => ∃ d e b, Dp X.K H x d.py ∧ Dp X.K H y e.py ∧ d.py.canLay0 = true ∧ e.py.canLay0 = true ∧ ltO d e = some b ∧ d.py.depth ≤ 60 ∧ Q (.bl b) H) := by
  intro pins s σ H x y v u Q I rx ry h
  obtain ⟨d, e, b, h1, h2, c1, c2, hl, hd, q⟩ := h
  obtain ⟨as, r1⟩ := Dp.reads I _ x v h1 rx
  obtain ⟨bs, r2⟩ := Dp.reads I _ y u h2 ry
  exact lt_reads d e b X.A v u as bs r1 r2 c1 c2 hl (by omega) X.prog X.w X.xe _ ⟨.bl b, H, I, rfl, q⟩
theorem opd_lt (hu : X.A.units + 64 < cLine) : OpD X (compareOp .Lt) ltD := by
  refine OpD.of _ (op_ltO hu) fun z C H d e u x y Q o dx dy g k => ?_
  unfold ltD at g
  split at g
  · rename_i hc
    obtain ⟨h1, h2, h3⟩ := hc
    obtain ⟨b, hb, rfl⟩ := Option.map_eq_some_iff.mp g
    exact ⟨d, e, b, dx.dp o.ex d x (okEq_of h1).1, dy.dp o.ex e y (okEq_of h2).1, canLay_ok h1, canLay_ok h2, hb, h3, k _ C H (Tr.refl o) (dn_bl.mpr rfl)⟩
  · cases g
end

/-! ### data is told by its value -/
mutual
/-- no tuple of a walk, no dict in it -/
def D.np : D → Bool
  | .pr _ => false
  | .dic _ _ => false
  | .tup ds => D.nps ds
  | .lst ds => D.nps ds
  | .non => true
  | .bl _ => true
  | .int _ => true
  | .str _ => true
  | .pur => true
def D.nps : List D → Bool
  | [] => true
  | d :: ds => D.np d && D.nps ds
end
section
variable {X : Cx} {pins : List (Addr × Obj)} {σ : L2.St} {H : Hp} {s : Shared} {z : Pz} {C : Hp}
theorem pu_no (I : Inv X pins σ H s) (o : Ok z C H) : (∀ xs, ¬ SqT X.K C z.p xs) ∧ ∀ xs, C z.p ≠ some (.lst xs) := by
  refine ⟨fun xs h => ?_, fun xs h => by rw [o.pur.cp] at h; cases h⟩
  obtain ⟨gs, cs, sm, k, h1, _⟩ := o.pur.at_
  obtain ⟨_, _, ⟨ob, e1, e2, _⟩, _⟩ := I.tuple (ex_t o.ex h)
  obtain ⟨_, _, ⟨ob', _, f1, f2, _⟩, _⟩ := I.list (sq_of (K := X.K) h1)
  rw [e1] at f1
  cases f1
  rw [e2] at f2
  exact absurd (Value.type.inj f2) (by decide)
theorem lst_tup_no (I : Inv X pins σ H s) (o : Ok z C H) {a : Addr} {xs ys : List V} (h : C a = some (.lst xs)) (h' : SqT X.K C a ys) : False := by
  obtain ⟨_, _, ⟨ob, e1, e2, _⟩, _⟩ := I.tuple (ex_t o.ex h')
  obtain ⟨_, _, ⟨ob', _, f1, f2, _⟩, _⟩ := I.list (sq_of (K := X.K) (o.ex _ _ h))
  rw [e1] at f1
  cases f1
  rw [e2] at f2
  exact absurd (Value.type.inj f2) (by decide)
mutual
theorem Dn.inj (I : Inv X pins σ H s) (o : Ok z C H) : ∀ (d e : D) (v : V), d.np = true → e.np = true → Dn X.K C z.p d v → Dn X.K C z.p e v → d = e
  | .non, e, v, nd, ne, h, k => by
    have hv := dn_non.mp h
    subst hv
    cases e with
    | pr ds => simp [D.np] at ne
    | dic ks vs => simp [D.np] at ne
    | non => rfl
    | bl b => cases dn_bl.mp k
    | int i => cases dn_int.mp k
    | str i => cases dn_str.mp k
    | tup ds => obtain ⟨a, xs, e1, _⟩ := dn_tup k; cases e1
    | lst ds => obtain ⟨a, xs, e1, _⟩ := dn_lst.mp k; cases e1
    | pur => cases dn_pur.mp k
  | .bl b, e, v, nd, ne, h, k => by
    have hv := dn_bl.mp h
    subst hv
    cases e with
    | pr ds => simp [D.np] at ne
    | dic ks vs => simp [D.np] at ne
    | non => cases dn_non.mp k
    | bl b => cases dn_bl.mp k; rfl
    | int i => cases dn_int.mp k
    | str i => cases dn_str.mp k
    | tup ds => obtain ⟨a, xs, e1, _⟩ := dn_tup k; cases e1
    | lst ds => obtain ⟨a, xs, e1, _⟩ := dn_lst.mp k; cases e1
    | pur => cases dn_pur.mp k
  | .int i, e, v, nd, ne, h, k => by
    have hv := dn_int.mp h
    subst hv
    cases e with
    | pr ds => simp [D.np] at ne
    | dic ks vs => simp [D.np] at ne
    | non => cases dn_non.mp k
    | bl b => cases dn_bl.mp k
    | int i => cases dn_int.mp k; rfl
    | str i => cases dn_str.mp k
    | tup ds => obtain ⟨a, xs, e1, _⟩ := dn_tup k; cases e1
    | lst ds => obtain ⟨a, xs, e1, _⟩ := dn_lst.mp k; cases e1
    | pur => cases dn_pur.mp k
  | .str i, e, v, nd, ne, h, k => by
    have hv := dn_str.mp h
    subst hv
    cases e with
    | pr ds => simp [D.np] at ne
    | dic ks vs => simp [D.np] at ne
    | non => cases dn_non.mp k
    | bl b => cases dn_bl.mp k
    | int i => cases dn_int.mp k
    | str i => cases dn_str.mp k; rfl
    | tup ds => obtain ⟨a, xs, e1, _⟩ := dn_tup k; cases e1
    | lst ds => obtain ⟨a, xs, e1, _⟩ := dn_lst.mp k; cases e1
    | pur => cases dn_pur.mp k
  | .pur, e, v, nd, ne, h, k => by
    have hv := dn_pur.mp h
    subst hv
    cases e with
    | pr ds => simp [D.np] at ne
    | dic ks vs => simp [D.np] at ne
    | non => cases dn_non.mp k
    | bl b => cases dn_bl.mp k
    | int i => cases dn_int.mp k
    | str i => cases dn_str.mp k
    | tup ds =>
      obtain ⟨a, xs, e1, e2, _⟩ := dn_tup k
      cases e1
      exact ((pu_no I o).1 _ e2).elim
    | lst ds =>
      obtain ⟨a, xs, e1, e2, _⟩ := dn_lst.mp k
      cases e1
      exact ((pu_no I o).2 _ e2).elim
    | pur => rfl
  | .tup ds, e, v, nd, ne, h, k => by
    obtain ⟨a, xs, e1, e2, e3⟩ := dn_tup h
    subst e1
    cases e with
    | pr ds => simp [D.np] at ne
    | dic ks vs => simp [D.np] at ne
    | non => cases dn_non.mp k
    | bl b => cases dn_bl.mp k
    | int i => cases dn_int.mp k
    | str i => cases dn_str.mp k
    | tup es =>
      obtain ⟨b, ys, f1, f2, f3⟩ := dn_tup k
      cases f1
      have := I.tuple_inj (ex_t o.ex e2) (ex_t o.ex f2)
      subst this
      rw [Dns.inj I o ds es xs (by simpa [D.np] using nd) (by simpa [D.np] using ne) e3 f3]
    | lst es =>
      obtain ⟨b, ys, f1, f2, f3⟩ := dn_lst.mp k
      cases f1
      exact (lst_tup_no I o f2 e2).elim
    | pur =>
      cases dn_pur.mp k
      exact ((pu_no I o).1 _ e2).elim
  | .lst ds, e, v, nd, ne, h, k => by
    obtain ⟨a, xs, e1, e2, e3⟩ := dn_lst.mp h
    subst e1
    cases e with
    | pr ds => simp [D.np] at ne
    | dic ks vs => simp [D.np] at ne
    | non => cases dn_non.mp k
    | bl b => cases dn_bl.mp k
    | int i => cases dn_int.mp k
    | str i => cases dn_str.mp k
    | tup es =>
      obtain ⟨b, ys, f1, f2, f3⟩ := dn_tup k
      cases f1
      exact (lst_tup_no I o e2 f2).elim
    | lst es =>
      obtain ⟨b, ys, f1, f2, f3⟩ := dn_lst.mp k
      cases f1
      rw [e2] at f2
      cases f2
      rw [Dns.inj I o ds es xs (by simpa [D.np] using nd) (by simpa [D.np] using ne) e3 f3]
    | pur =>
      cases dn_pur.mp k
      exact ((pu_no I o).2 _ e2).elim
  | .pr ds, e, v, nd, ne, h, k => by simp [D.np] at nd
  | .dic ks vs, e, v, nd, ne, h, k => by simp [D.np] at nd
theorem Dns.inj (I : Inv X pins σ H s) (o : Ok z C H) : ∀ (ds es : List D) (xs : List V), D.nps ds = true → D.nps es = true → Dns X.K C z.p ds xs → Dns X.K C z.p es xs → ds = es
  | [], es, xs, nd, ne, h, k => by
    rw [dns_nil.mp h] at k
    cases es with
    | nil => rfl
    | cons e es => obtain ⟨v, r, e1, _⟩ := dns_cons.mp k; cases e1
  | d :: ds, es, xs, nd, ne, h, k => by
    obtain ⟨v, r, e1, e2, e3⟩ := dns_cons.mp h
    cases es with
    | nil => rw [dns_nil.mp k] at e1; cases e1
    | cons e es =>
      obtain ⟨v', r', f1, f2, f3⟩ := dns_cons.mp k
      rw [e1] at f1
      cases f1
      have nd' : d.np = true ∧ D.nps ds = true := by simpa [D.nps] using nd
      have ne' : e.np = true ∧ D.nps es = true := by simpa [D.nps] using ne
      rw [Dn.inj I o d e v nd'.1 ne'.1 e2 f2, Dns.inj I o ds es r nd'.2 ne'.2 e3 f3]
end
end

/-! ### sorted of tuples whose first items are tuples -/
/-- such a tuple -/
def tupFirst : D → Bool
  | .tup (.tup _ :: _) => true
  | _ => false
theorem lex_kat {prog : Program} {w : World} {A : Around} {s : Shared} {z b : Bool} {Q : Bool → Shared → Prop} (q : Q b s) : ∀ {vs ws : List Value}, LexR A s z vs ws b → ∀ i, PySem.W.KatLex prog w A.in1 false z Q (vs.zip ws) i s
  | _, _, .nil, i => by rw [List.zip_nil_left]; exact PySem.W.kat_nil q
  | _, _, .nil2, i => by rw [List.zip_nil_right]; exact PySem.W.kat_nil q
  | _, _, .eq he hr, i => by
    rw [List.zip_cons_cons]
    exact PySem.W.kat_cons (he prog w _ _ (PySem.W.kat_yes (lex_kat q hr (i + 1))))
  | _, _, .ne he hr, i => by
    rw [List.zip_cons_cons]
    exact PySem.W.kat_cons (he prog w _ _ (PySem.W.kat_no (PySem.W.kat_one _ _ (hr prog w _ _ q))))
def okSort (d : D) : Bool := tupFirst d && okEq d && decide (d.py.depth ≤ 50) && d.np
/-- what stands there is such a tuple -/
theorem kat_tups {h : Heap} : ∀ {us : List Value} {ds : List D}, Paired (fun u d => (∃ as, Reads h u (D.py d) as) ∧ tupFirst d = true) us ds → ∃ fs, PySem.W.KatTups h us fs ∧ fs.length = us.length ∧ ∀ f ∈ fs, ∃ (a : Addr) (o : Obj), f = .ref a ∧ h.get? a = some o ∧ o.cls = .type "tuple"
  | _, _, .nil => ⟨[], PySem.W.KatTups.nil, rfl, fun f m => (nomatch m)⟩
  | u :: us, d :: ds, .cons ⟨⟨as, r⟩, t⟩ hr => by
    obtain ⟨fs, h1, h2, h3⟩ := kat_tups hr
    match d, t, r with
    | .tup (.tup es :: ds'), _, r =>
      simp only [D.py, D.pys] at r
      cases r with
      | tuple k1 k2 k3 k4 =>
        rename_i a o vs n
        obtain ⟨l⟩ := vs
        have k4' : ReadsAll h l (PyData.tuple (D.pys es) :: D.pys ds') _ := k4
        cases k4' with
        | cons m1 m2 =>
          rename_i v vs' as1 bs1
          have m1' := m1
          cases m1 with
          | tuple g1 g2 g3 g4 =>
            rename_i a2 o2 vs2 n2
            refine ⟨.ref a2 :: fs, PySem.W.KatTups.cons k1 k2 k3 (by simp) h1, by simp [h2], fun f m => ?_⟩
            rcases List.mem_cons.mp m with e | m
            · exact ⟨_, _, e, g1, g2⟩
            · exact h3 f m
section
variable {X : Cx}
def rSortT (K : PySem.W.Frag) : List V → Hp → VK → Prop := fun xs H Q => ∃ z C a vs ds, ∃ ltf : D → D → Bool, xs = [V.ref a] ∧ Ok z C H ∧ C a = some (.lst vs) ∧ Dns K C z.p ds vs ∧ (∀ d ∈ ds, okSort d = true) ∧ SrtO.Swo ltf ∧ (∀ d ∈ ds, ∀ e ∈ ds, ltO d e = some (ltf d e)) ∧
  ∀ out outv p, SrtO.Srtd ltf out → SrtO.Stb ltf out ds → Dns K C z.p out outv → H p = none → Q (.ref p) (upd H p (.lst outv))
theorem paired_get {α β : Type} {F : α → β → Prop} : ∀ {l : List α} {m : List β}, l.length = m.length → (∀ (i : Nat) (a : α) (b : β), l[i]? = some a → m[i]? = some b → F a b) → Paired F l m
  | [], [], _, _ => .nil
  | a :: l, b :: m, e, h => .cons (h 0 a b rfl rfl) (paired_get (by simpa using e) fun i x y h1 h2 => h (i + 1) x y (by simpa using h1) (by simpa using h2))
theorem call_sortT (hu : X.A.units + 64 < cLine) : CallR X (.builtin "sorted") (rSortT X.K) := by
  intro pins s σ H xs us Q I r h
  obtain ⟨z, C, a, vs, ds, ltf, rfl, o, ha, dn, hok, O, hlt, q⟩ := h
  obtain ⟨u, rfl, ru⟩ := vals1 r
  obtain rfl : u = Value.ref a := ru
  obtain ⟨its, rv, hl, hz⟩ := I.list (sq_of (K := X.K) (o.ex _ _ ha))
  have e1 := rv.length
  have e2 := dn.len
  -- what a value of the list is
  have known : ∀ i u, its[i]? = some u → ∃ d v, ds[i]? = some d ∧ vs[i]? = some v ∧ RelV v u ∧ Dn X.K C z.p d v := fun i u hi => by
    have hlt' := (List.getElem?_eq_some_iff.mp hi).1
    have hv : vs[i]? = some (vs[i]'(by omega)) := List.getElem?_eq_getElem (by omega)
    obtain ⟨d, h1, h2⟩ := dn.get' hv
    obtain ⟨u', h3, h4⟩ := rv.get hv
    rw [hi] at h3
    cases h3
    exact ⟨d, _, h1, hv, h4, h2⟩
  classical
  let dec : Value → D := fun u => if h : ∃ d v, d ∈ ds ∧ RelV v u ∧ Dn X.K C z.p d v then h.choose else .non
  have decOk : ∀ u, (∃ d v, d ∈ ds ∧ RelV v u ∧ Dn X.K C z.p d v) → ∃ v, dec u ∈ ds ∧ RelV v u ∧ Dn X.K C z.p (dec u) v := fun u h => by
    have := h.choose_spec
    obtain ⟨v, h1, h2, h3⟩ := this
    have e : dec u = h.choose := dif_pos h
    rw [e]
    exact ⟨v, h1, h2, h3⟩
  have okn : ∀ d ∈ ds, d.np = true := fun d hd => by
    have := hok d hd
    simp only [okSort, Bool.and_eq_true] at this
    exact this.2
  have decAt : ∀ i u d, its[i]? = some u → ds[i]? = some d → dec u = d := fun i u d hi hd => by
    obtain ⟨d', v, h1, h2, h3, h4⟩ := known i u hi
    rw [hd] at h1
    cases h1
    obtain ⟨v', g1', g2, g3⟩ := decOk u ⟨d, v, List.mem_of_getElem? hd, h3, h4⟩
    rw [h3.inj g2] at h4
    exact Dn.inj I o _ _ _ (okn _ g1') (okn _ (List.mem_of_getElem? hd)) g3 h4
  have decMap : its.map dec = ds := by
    apply List.ext_getElem?
    intro i
    rw [List.getElem?_map]
    cases hi : its[i]? with
    | none =>
      have : ds[i]? = none := by
        rw [List.getElem?_eq_none_iff] at hi ⊢
        omega
      rw [this]
      rfl
    | some u =>
      obtain ⟨d, v, h1, _⟩ := known i u hi
      rw [h1]
      show some (dec u) = some d
      rw [decAt i u d hi h1]
  have mem : ∀ u ∈ its, dec u ∈ ds ∧ ∃ v, RelV v u ∧ Dn X.K C z.p (dec u) v := fun u hu => by
    obtain ⟨i, hi⟩ := List.mem_iff_getElem?.mp hu
    obtain ⟨d, v, h1, h2, h3, h4⟩ := known i u hi
    obtain ⟨v', g1, g2, g3⟩ := decOk u ⟨d, v, List.mem_of_getElem? h1, h3, h4⟩
    exact ⟨g1, v', g2, g3⟩
  have okp : ∀ d ∈ ds, tupFirst d = true ∧ okEq d = true ∧ d.py.depth ≤ 50 := fun d hd => by
    have := hok d hd
    simp only [okSort, Bool.and_eq_true, decide_eq_true_eq] at this
    exact ⟨this.1.1.1, this.1.1.2, this.1.2⟩
  have reads : ∀ u ∈ its, ∃ as, Reads s.heap u (dec u).py as := fun u hu => by
    obtain ⟨h1, v, h2, h3⟩ := mem u hu
    exact Dp.reads I _ v u (h3.dp o.ex _ v (okEq_of (okp _ h1).2.1).1) h2
  have isref : ∀ u ∈ its, ∃ t, u = Value.ref t := fun u hu => by
    obtain ⟨h1, v, h2, h3⟩ := mem u hu
    have ht := (okp _ h1).1
    cases hd : dec u with
    | tup es =>
      rw [hd] at h3
      obtain ⟨t, _, e, _⟩ := dn_tup h3
      subst e
      exact ⟨t, h2⟩
    | _ => rw [hd] at ht; cases ht
  have Ov : SrtO.Swo fun u w => ltf (dec u) (dec w) := ⟨fun x y => O.asym _ _, fun x y z => O.tr _ _ _⟩
  refine SrtO.sorted_ord (ltv := fun u w => ltf (dec u) (dec w)) Ov hl.isList (by rw [← e1]; exact hz) (fun h2 h₁ a' ha' kk => ?_) fun out hs hb => ?_
  · intro h' keep
    have kp : ∀ b ob, s.heap.get? b = some ob → h'.get? b = some ob := fun b ob e => keep b ob (kk b ob e).1 (kk b ob e).2
    have reads' : ∀ u ∈ its, ∃ as, Reads h' u (dec u).py as := fun u hu => let ⟨as, r⟩ := reads u hu; ⟨as, Reads.keeps kp r⟩
    obtain ⟨fs, f1, f2, f3⟩ := kat_tups (h := h') (us := its) (ds := ds) (paired_get (by omega) fun i u d h1 h2 => by
      rw [← decAt i u d h1 h2]
      have hm := List.mem_of_getElem? h1
      exact ⟨reads' u hm, (okp _ (mem u hm).1).1⟩)
    refine ⟨tuples' false, fun Q' E' hq => ?_, fun p q' hp hq' => ?_⟩
    · refine PySem.W.kat_kind (T := .type "tuple") f1 (by omega) (fun f hf => ?_) (by rfl) ?_
      · obtain ⟨b, ob, rfl, g1, g2⟩ := f3 f hf
        have : PySem.W.Looks (model X.prog X.w) h' (typeOf (.ref b)) ob.cls := (PySem.W.Looks.ld g1).andThen .now
        rw [g2] at this
        exact this
      · exact hq
    · have hp1 : p.1 ∈ its := hp
      have hq1 : q'.1 ∈ its := hq'
      obtain ⟨as, r1⟩ := reads' _ hp1
      obtain ⟨bs, r2⟩ := reads' _ hq1
      have hb := hlt _ (mem _ hp1).1 _ (mem _ hq1).1
      have o1 := okp _ (mem _ hp1).1
      have o2 := okp _ (mem _ hq1).1
      show wpAny (model X.prog X.w) X.A.in1.in1 (keyLt' (tuples' false) p.1 q'.1) (fun r s' => s' = { s with heap := h' } ∧ r = ltf (dec p.1) (dec q'.1)) (fun _ _ => False) { s with heap := h' }
      generalize hd1 : dec p.1 = d1 at r1 hb o1 ⊢
      generalize hd2 : dec q'.1 = d2 at r2 hb o2 ⊢
      match d1, d2, o1.1, o2.1, r1, r2, hb, o1, o2 with
      | .tup es, .tup gs, _, _, r1, r2, hb, o1, o2 =>
        simp only [D.py] at r1 r2
        generalize hp0 : p.1 = p1 at r1 ⊢
        generalize hq0 : q'.1 = q1 at r2 ⊢
        cases r1 with
        | tuple k1 k2 k3 k4 =>
          cases r2 with
          | tuple m1 m2 m3 m4 =>
            rename_i a1 ob1 v1 n1 a2 ob2 v2 n2
            simp only [ltO] at hb
            have g1 := PySem.SeqAt.ReadsAll.length _ _ _ k4
            have g2 := PySem.SeqAt.ReadsAll.length _ _ _ m4
            have c1 := canLay_ok o1.2.1
            have c2 := canLay_ok o2.2.1
            have hdep := o1.2.2
            simp only [D.py, PyData.depth] at hdep
            have lx := lts_reads (s := { s with heap := h' }) es gs _ X.A.in1 (decide (v1.size < v2.size)) _ _ _ _ k4 m4 (by simpa [D.py, PyData.canLay0] using c1) (by simpa [D.py, PyData.canLay0] using c2) hb (by show X.A.units + 1 + _ + 2 < _; omega)
              (by rw [← Array.length_toList, ← Array.length_toList, g1, g2, pys_len, pys_len])
            exact PySem.W.kat_lt (s := { s with heap := h' }) k1 k3 m1 m3 (lex_kat (Q := fun r s' => s' = { s with heap := h' } ∧ r = ltf (.tup es) (.tup gs)) ⟨rfl, rfl⟩ lx 0)
  · have memo : ∀ u ∈ out, u ∈ its := fun u hu => hb.perm.mem_iff.mp hu
    have hbm : SrtO.Stb ltf (out.map dec) ds := by
      have := SrtO.Stb.map O dec hb
      rwa [decMap] at this
    obtain ⟨ep, he'⟩ := PyProof.Rows.sortedAll_at s.heap its out.toArray
    have dno : Dns X.K C z.p (out.map dec) (out.map backV) := by
      have : ∀ l : List Value, (∀ u ∈ l, u ∈ its) → Dns X.K C z.p (l.map dec) (l.map backV) := by
        intro l
        induction l with
        | nil => intro _; exact dns_nil.mpr rfl
        | cons u l ih =>
          intro hl'
          have hu' := hl' u (by simp)
          obtain ⟨h1, v, h2, h3⟩ := mem u hu'
          obtain ⟨t, rfl⟩ := isref u hu'
          have : v = .ref t := h2.inj (show RelV (.ref t) (.ref t) from rfl)
          subst this
          exact dns_cons.mpr ⟨_, _, rfl, h3, ih fun w hw => hl' w (by simp [hw])⟩
      exact this out memo
    have hlen : (out.map backV).length ≤ sizeLine := by
      rw [List.length_map, hb.len, ← e1]
      exact hz
    refine ⟨.ref _, upd H (s.heap.objs.size + 1) (.lst (out.map backV)), I.laid (t' := s.toks) (fun _ _ => PyProof.Rows.sortedAll_old) (Nat.le_succ _) ⟨hlen, out, ep, vals_back fun u hu => isref u (memo u hu), he'⟩, rfl, ?_⟩
    exact q _ _ _ (SrtO.srtd_map hs) hbm dno (I.hok.fresh (Nat.le_succ _))
/-- calls that leave something open: r tells what may come of the data -/
def CallP (X : Cx) (f : Value) (r : List D → (D → Prop) → Prop) : Prop :=
  (∃ R : List V → Hp → VK → Prop, CallR X f R ∧ ∀ (z : Pz) (C H : Hp) (ds : List D) (T : D → Prop) (xs : List V) (Q : VK), Ok z C H → Dns X.K C z.p ds xs → r ds T → (∀ d v C' H', T d → Tr z C H C' H' → Dn X.K C' z.p d v → Q v H') → R xs H Q) ∧
    ∀ ds (T T' : D → Prop), (∀ d, T d → T' d) → r ds T → r ds T'
def mCP (r : List D → (D → Prop) → Prop) (m : MA) : ME := fun env T => m env fun ds => r ds T
theorem pd_callP {x : Str} {e : Expr} {p pos : Pos} {es : List Expr} {m : MA} {id : String} {r : List D → (D → Prop) → Prop} (hc : CallP X (.builtin id) r) (hg : Gl X x) (hm : X.mg x = none) (hv : bootBuiltins x = some (.builtin id)) (h : PDA X (e :: es) m)
    (hn : x ≠ "__name__" := by decide) (hdb : (x == ("__debug__" : Str)) = false := by decide) (he : starEach (e :: es) X.env = (false, eval e X.env) :: starEach es X.env := by rfl) (hpl : (backTo pos (starEach es X.env)).any (·.1) = false := by rfl) :
    PD X (.Call (.Name x p) (e :: es) [] pos) (mCP r m) := by
  obtain ⟨⟨R, hR, hi⟩, hmo⟩ := hc
  refine ⟨pe_imp (pe_callB hR hg hm hv h.run hn hdb he hpl) fun σ H Q q => ?_, fun env Q Q' i q => h.mono env _ _ (fun ds q => hmo ds _ _ i q) q⟩
  obtain ⟨z, C, env, o, r, q⟩ := q
  exact liftA_use h.mono o r q fun ds vs C' H' q t dn => hi z C' H' ds _ vs Q t.ok dn q fun d v C2 H2 hT t2 dn2 => hT v C2 H2 (t.trans t2) dn2
def sortedP (ds : List D) (T : D → Prop) : Prop := ∃ xs, ∃ ltf : D → D → Bool, ds = [.lst xs] ∧ (∀ d ∈ xs, okSort d = true) ∧ SrtO.Swo ltf ∧ (∀ d ∈ xs, ∀ e ∈ xs, ltO d e = some (ltf d e)) ∧ ∀ out, SrtO.Srtd ltf out → SrtO.Stb ltf out xs → T (.lst out)
theorem cp_sorted (hu : X.A.units + 64 < cLine) : CallP X (.builtin "sorted") sortedP := by
  refine ⟨⟨_, call_sortT hu, fun z C H ds T xs Q o dn ⟨ys, ltf, e, h1, O, h2, h3⟩ k => ?_⟩, fun ds T T' i ⟨ys, ltf, e, h1, O, h2, h3⟩ => ⟨ys, ltf, e, h1, O, h2, fun out a b => i _ (h3 out a b)⟩⟩
  subst e
  obtain ⟨v, e1, e2⟩ := dns1 dn
  obtain ⟨a, vs, f1, f2, f3⟩ := dn_lst.mp e2
  rw [f1] at e1
  exact ⟨z, C, a, vs, ys, ltf, e1, o, f2, f3, h1, O, h2, fun out outv p s1 s2 dno hp => k _ _ _ _ (h3 out s1 s2) (Tr.put o hp) (dn_new_lst dno (fresh_back o.ex hp))⟩
end
end BV

/-! isinstance, join, insert, several targets at once. -/
namespace BV
open PySem PySem.Spec PyProof.Rows L2 Evl

section
variable {X : Cx} {pos : Pos}
/-! ### isinstance(x, T) -/
def tyN : D → Option String
  | .non => some "NoneType"
  | .bl _ => some "bool"
  | .int _ => some "int"
  | .str _ => some "str"
  | .tup _ => some "tuple"
  | .pr _ => some "tuple"
  | .dic _ _ => some "dict"
  | .lst _ => some "list"
  | .pur => none
def isiD (T : String) (d : D) : Option Bool := (tyN d).bind fun n => kitB n T
def mIsi (T : String) (m : ME) : ME := fun env Q => m env fun d => ∃ b, isiD T d = some b ∧ Q (.bl b)
theorem tyX_of {z : Pz} {C H : Hp} (o : Ok z C H) {d : D} {v : V} {n : String} (dn : Dn X.K C z.p d v) (h : tyN d = some n) : TyX X.K H v (.type n) := by
  cases d with
  | non => cases h; rw [dn_non.mp dn]; exact .base .non
  | bl b => cases h; rw [dn_bl.mp dn]; exact .base (.bl b)
  | int i => cases h; rw [dn_int.mp dn]; exact .base (.int i)
  | str i => cases h; rw [dn_str.mp dn]; exact .base (.str i)
  | tup ds =>
    cases h
    obtain ⟨a, xs, e1, e2, e3⟩ := dn_tup dn
    subst e1
    rcases ex_t o.ex e2 with (h | ⟨ob, h⟩) | ⟨ob, its, k, hk, hc, _⟩
    · exact .base (.tup h)
    · exact .fTuple h
    · exact .kTuple hk hc
  | pr ds =>
    cases h
    obtain ⟨a, xs, e1, e2, e3⟩ := dn_pr.mp dn
    subst e1
    rcases ex_t o.ex e2 with (h | ⟨ob, h⟩) | ⟨ob, its, k, hk, hc, _⟩
    · exact .base (.tup h)
    · exact .fTuple h
    · exact .kTuple hk hc
  | dic ks vs =>
    cases h
    obtain ⟨a, kvs, e1, e2, e3⟩ := dn_dic.mp dn
    subst e1
    exact .base (.dK (o.ex _ _ e2))
  | lst ds =>
    cases h
    obtain ⟨a, xs, e1, e2, e3⟩ := dn_lst.mp dn
    subst e1
    exact .base (.lst (o.ex _ _ e2))
  | pur => cases h
theorem pd_isi {e : Expr} {m : ME} {T : String} {p pt : Pos} (h : PD X e m) (hm : X.mg "isinstance" = none) (hT : X.mg T = none) (hv : bootBuiltins T = some (.type T)) (hg : Gl X "isinstance" := by rfl) (hgT : Gl X T := by rfl)
    (hn : (Str.ofString T) ≠ "__name__" := by decide) (hdb : ((Str.ofString T) == ("__debug__" : Str)) = false := by decide)
    (s1 : starEach [e, .Name T pt] X.env = (false, eval e X.env) :: starEach [.Name T pt] X.env := by rfl) (s2 : starEach [Expr.Name T pt] X.env = (false, eval (.Name T pt) X.env) :: starEach [] X.env := by rfl) (hpl : ((backTo pos (starEach [.Name T pt] X.env)).any fun x => x.1) = false := by rfl) :
    PD X (.Call (.Name "isinstance" p) [e, .Name T pt] [] pos) (mIsi T m) := by
  refine ⟨pe_imp (pe_callB call_isi hg hm boot_isinstance (pa_cons h.run (pa_cons (pe_bltn (v := .ty T) hgT hT hv rfl hn hdb) pa_nil s2) s1) (by decide) (by decide) s1 hpl) fun σ H Q q => ?_, fun env Q Q' i q => h.mono _ _ _ (fun d ⟨b, g, q⟩ => ⟨b, g, i _ q⟩) q⟩
  obtain ⟨z, C, env, o, r, q⟩ := q
  refine lift_use h.mono o r q fun d v C' H' ⟨b, g, p⟩ t dn => ?_
  unfold isiD at g
  cases hn' : tyN d with
  | none => rw [hn'] at g; cases g
  | some n =>
    rw [hn'] at g
    exact ⟨v, .ty T, .type n, .type T, b, rfl, .ty T, tyX_of t.ok dn hn', kit_ty g, p _ C' H' t (dn_bl.mpr rfl)⟩

/-! ### sep.join(a list of texts) -/
def strsOf : List D → Option (List Str)
  | [] => some []
  | .str x :: r => (strsOf r).map (x :: ·)
  | _ => none
theorem strs_dn {K : PySem.W.Frag} {C : Hp} {pu : Addr} : ∀ {ds : List D} {ys : List Str} {xs : List V}, strsOf ds = some ys → Dns K C pu ds xs → xs = ys.map V.str
  | [], ys, xs, h, dn => by cases h; rw [dns_nil.mp dn]; rfl
  | .str x :: r, ys, xs, h, dn => by
    simp only [strsOf] at h
    obtain ⟨ys', h1, rfl⟩ := Option.map_eq_some_iff.mp h
    obtain ⟨v, w, e1, e2, e3⟩ := dns_cons.mp dn
    rw [e1, dn_str.mp e2, strs_dn h1 e3]
    rfl
def mJoin (mo me : ME) : ME := fun env Q => mo env fun s => ∃ x, s = .str x ∧ me env fun d => ∃ ds ys, d = .lst ds ∧ strsOf ds = some ys ∧ (ys.map (·.length)).sum + ys.length * x.length ≤ 4000000 ∧ Q (.str (Txt.join x ys))
theorem pd_join {o e : Expr} {mo me : ME} {apos : Pos} (ho : PD X o mo) (he : PD X e me) (hs : starEach [e] X.env = [(false, eval e X.env)] := by rfl) (hb : attributeBase o "join" X.env (eval o X.env) = eval o X.env := by rfl) (hl : (apos.endLine == pos.line) = true := by rfl) :
    PD X (.Call (.Attribute o "join" apos) [e] [] pos) (mJoin mo me) := by
  refine ⟨pe_imp (pe_join ho.run he.run hs hb hl) fun σ H Q q => ?_, fun env Q Q' i q => ho.mono _ _ _ (fun s ⟨x, e, q⟩ => ⟨x, e, he.mono _ _ _ (fun d ⟨ds, ys, a, b, c, q⟩ => ⟨ds, ys, a, b, c, i _ q⟩) q⟩) q⟩
  obtain ⟨z, C, env, ok, r, q⟩ := q
  refine lift_use ho.mono ok r q fun d v C' H' ⟨x, ed, p⟩ t dn => ?_
  subst ed
  refine ⟨⟨x, dn_str.mp dn⟩, lift_use he.mono t.ok (r.mono t.cc) p fun d2 w C2 H2 ⟨ds, ys, e1, e2, e3, p⟩ t2 dn2 => ?_⟩
  subst e1
  obtain ⟨a, xs, f1, f2, f3⟩ := dn_lst.mp dn2
  have := strs_dn e2 f3
  subst this
  exact ⟨x, a, ys, dn_str.mp dn, by rw [f1], .inl (ex_l t2.ok.ex (sq_of f2)), by omega, p _ C2 H2 (t.trans t2) (dn_str.mpr rfl)⟩

/-! ### several values under one view -/
def aftL (rs : List Nat) (ds : List D) (env : SEnv) : SEnv := if D.lfs ds = true then env else frz rs 0 env
theorem SR.useA {K : PySem.W.Frag} {z : Pz} {C0 H0 Cb C H : Hp} {env : SEnv} {σ : L2.St} (s : SR K z C0 H0 Cb C env σ H) {m : MA} {P : List D → Prop} {Q : List V → Hp → Prop} (rs : List Nat) (hm : MonoA m) (q : m (view rs 0 env) P)
    (k : ∀ ds vs C' H', P ds → SR K z C0 H0 Cb C' (aftL rs ds env) σ H' → Dns K C' z.p ds vs → Q vs H') : liftA K m σ H Q := by
  refine ⟨z, _, _, s.okP rs, s.envP rs, hm _ _ _ (fun ds p vs C' H' t dn => ?_) q⟩
  by_cases hd : D.lfs ds = true
  · refine k ds vs (coreM rs env σ C') H' p ?_ (dn.lf (s.tupSub rs t) ds vs hd)
    unfold aftL
    rw [if_pos hd]
    exact s.thaw rs t
  · refine k ds vs C' H' p ?_ dn
    unfold aftL
    rw [if_neg hd]
    exact s.frozen rs t
/-- a, b = e1, e2 (plain local names) -/
def mPar2 (rs : List Nat) (i j : Nat) (m : MA) : MS := fun E env => m (view rs 0 env) fun ds => ∃ d e, ds = [d, e] ∧ E.nx (((aftL rs ds env).set i (some (false, d))).set j (some (false, e)))
theorem pds_par2 (rs : List Nat) {i j : Nat} {st : Stmt} {m : MA} {es : List Expr} (h : PDA X es m) (hp : PS X st (tPar i j (liftA X.K m))) : PDS X st (mPar2 rs i j m) := by
  refine ⟨fun z C0 H0 Cb => ps_imp hp fun N σ H ⟨C, env, s, q⟩ => ?_, fun E E' env l q => h.mono _ _ _ (fun ds ⟨d, e, a, q⟩ => ⟨d, e, a, l.nx _ q⟩) q⟩
  refine s.useA rs h.mono q fun ds vs C' H' ⟨d, e, g, p⟩ s' dn => ?_
  subst g
  obtain ⟨v, w, e1, e2, e3⟩ := dns2 dn
  exact ⟨v, w, e1, p _ C' H' ((s'.set i e2).set j e3)⟩
def mPar3 (rs : List Nat) (i j l : Nat) (m : MA) : MS := fun E env => m (view rs 0 env) fun ds => ∃ d e f, ds = [d, e, f] ∧ E.nx ((((aftL rs ds env).set i (some (false, d))).set j (some (false, e))).set l (some (false, f)))
theorem pds_par3 (rs : List Nat) {i j l : Nat} {st : Stmt} {m : MA} {es : List Expr} (h : PDA X es m) (hp : PS X st (tPar3 i j l (liftA X.K m))) : PDS X st (mPar3 rs i j l m) := by
  refine ⟨fun z C0 H0 Cb => ps_imp hp fun N σ H ⟨C, env, s, q⟩ => ?_, fun E E' env l q => h.mono _ _ _ (fun ds ⟨d, e, f, a, q⟩ => ⟨d, e, f, a, l.nx _ q⟩) q⟩
  refine s.useA rs h.mono q fun ds vs C' H' ⟨d, e, f, g, p⟩ s' dn => ?_
  subst g
  obtain ⟨v, r, e1, e2, e3⟩ := dns_cons.mp dn
  obtain ⟨w, u, e4, e5, e6⟩ := dns2 e3
  rw [e4] at e1
  exact ⟨v, w, u, e1, p _ C' H' (((s'.set i e2).set j e5).set l e6)⟩
/-- any target = e -/
def mAsgT (rs : List Nat) (t : Tgt) (me : ME) : MS := fun E env => me (view rs 0 env) fun d => ∃ env', t.put shd d (aft rs d env) = some env' ∧ E.nx env'
theorem pds_asgT (rs : List Nat) {t : Tgt} {st : Stmt} {e : Expr} {me : ME} (h : PD X e me) (hp : PS X st (tAsg (lift X.K me) (t.g X.K))) : PDS X st (mAsgT rs t me) := by
  refine ⟨fun z C0 H0 Cb => ps_imp hp fun N σ H ⟨C, env, s, q⟩ => ?_, fun E E' env l q => h.mono _ _ _ (fun d ⟨env', a, q⟩ => ⟨env', a, l.nx _ q⟩) q⟩
  exact s.use rs h.mono q fun d v C' H' ⟨env', g, p⟩ s' dn => s'.put dn g fun σ' s2 => p _ C' H' s2

/-! ### x.insert(i, e), x an own list -/
def mIns (rs : List Nat) (i : Nat) (m : MA) : MS := fun E env => (∃ ds0, env[i]? = some (some (true, .lst ds0))) ∧ m (view rs 0 env) fun as => ∃ n d ds, as = [.int n, d] ∧ (aftL rs as env)[i]? = some (some (true, .lst ds)) ∧ szOk (ds.length + 1) = true ∧ 0 ≤ n ∧ n ≤ 4000000 ∧
  E.nx ((aftL rs as env).set i (some (true, .lst (ds.take n.toNat ++ [d] ++ ds.drop n.toNat))))
theorem pds_ins (rs : List Nat) {i : Nat} {o e1 e2 : Expr} {apos cpos : Pos} {m : MA} (ho : PE X o (tVar i)) (h : PDA X [e1, e2] m)
    (h1 : attributeBase o "insert" X.env (eval o X.env) = eval o X.env := by rfl)
    (h2 : ((((backTo cpos (starEach [e1, e2] X.env)).all fun x => !x.1) && ((backToKw cpos (keywordEach [] X.env)).all fun x => x.1.isSome) && decide (([e1, e2] : List Expr).length + ([] : List Keyword).length + (if ([] : List Keyword).isEmpty = true then 0 else 1) < 30)) = true) := by rfl)
    (h3 : (apos.endLine == cpos.line) = true := by rfl) (h4 : starEach [e1, e2] X.env = (false, eval e1 X.env) :: starEach [e2] X.env := by rfl) (h5 : ((backTo cpos (starEach [e2] X.env)).any fun x => x.1) = false := by rfl)
    (hs : swapsWith (.Call (.Attribute o "insert" apos) [e1, e2] [] cpos) none pos.line X.env = pure false := by rfl) : PDS X (.Expr (.Call (.Attribute o "insert" apos) [e1, e2] [] cpos) pos) (mIns rs i m) := by
  refine ⟨fun z C0 H0 Cb => ps_imp (ps_expr (pe_bm PySem.F.plainAttrs_list PySem.F.slot_list_insert PySem.F.type_list_insert mt_insert ho h.run h1 h2 h3 h4 h5) hs) fun N σ H ⟨C, env, s, q⟩ => ?_,
    fun E E' env l ⟨q0, q⟩ => ⟨q0, h.mono _ _ _ (fun as ⟨n, d, ds, a, b, c, f, g, q⟩ => ⟨n, d, ds, a, b, c, f, g, l.nx _ q⟩) q⟩⟩
  obtain ⟨⟨ds0, h0⟩, q⟩ := q
  obtain ⟨a, _, xs, _, ea, _, eH, _⟩ := s.ownL i _ h0
  refine ⟨.ref a, ea, .inl ⟨rfl, xs, sq_of eH⟩, ?_⟩
  refine s.useA rs h.mono q fun as vs C' H' ⟨n, d, ds, g, e1', hz, hn0, hn, p⟩ s' dn => ?_
  subst g
  obtain ⟨v, w, f1, f2, f3⟩ := dns2 dn
  rw [dn_int.mp f2] at f1
  obtain ⟨b, ds', ys, g1, g2, g3, g4, g5, g6⟩ := s'.ownL i _ e1'
  rw [ea] at g2
  cases g2
  cases g1
  have hl := g5.len
  refine ⟨a, ys, n, w, rfl, f1, g4, sz_lt (by unfold szOk at hz ⊢; rw [hl]; simp at hz ⊢; omega), hn0, by omega, ?_⟩
  exact p σ C' _ (s'.write e1' ea (((g5.take _).app (Dns.one f3)).app (g5.drop _)))
end
end BV

/-! Short forms for printed proofs; the purse and its draws. -/
namespace BV
open PySem PySem.Spec PyProof.Rows L2 Evl

section
variable {X : Cx} {pos : Pos} {e : Expr} {me : ME}
theorem pd_v (i : Nat) {x : Str} (hN : X.N[i]? = some x := by rfl) (hv : Vis X.env.scope x := by first | exact Or.inl rfl | exact Or.inr (Or.inl rfl) | exact Or.inr (Or.inr rfl)) (hd : (x == ("__debug__" : Str)) = false := by decide) (hcd : (x == ("__classdict__" : Str)) = false := by decide) : PD X (.Name x pos) (mVar i) :=
  pd_var i (pe_var hN hv hd hcd)
theorem pds_set (rs : List Nat) (i : Nat) {x : Str} {py : Pos} (hN : X.N.Nodup) (h : PD X e me) (hi : X.N[i]? = some x := by rfl) (hx : Loc X.env.scope x := by first | exact Or.inl rfl | exact Or.inr rfl) (hs : swapsWith e (some (.Name x py)) pos.line X.env = pure false := by rfl)
    (hf : X.fn x = true ∨ X.env.scope.names.lookup x = some .local := by first | exact .inl rfl | exact .inr rfl) : PDS X (.Assign [.Name x py] e pos) (mAsg rs i me) := pds_asg rs h (ps_set hN hi hx h.run hs hf)
theorem pds_setO (rs : List Nat) (i : Nat) {x : Str} {py : Pos} {m : MA} (hN : X.N.Nodup) (h : PDO X e m) (hi : X.N[i]? = some x := by rfl) (hx : Loc X.env.scope x := by first | exact Or.inl rfl | exact Or.inr rfl) (hs : swapsWith e (some (.Name x py)) pos.line X.env = pure false := by rfl)
    (hf : X.fn x = true ∨ X.env.scope.names.lookup x = some .local := by first | exact .inl rfl | exact .inr rfl) : PDS X (.Assign [.Name x py] e pos) (mAsgO rs i m) := pds_asgO rs h (ps_set hN hi hx h.run hs hf)
theorem pgt_nm (i : Nat) {x : Str} (hN : X.N.Nodup) (hi : X.N[i]? = some x := by rfl) (hx : Loc X.env.scope x := by first | exact Or.inl rfl | exact Or.inr rfl) (hf : X.fn x = true ∨ X.env.scope.names.lookup x = some .local := by first | exact .inl rfl | exact .inr rfl) : PG X (.Name x pos) ((Tgt.nm i).g X.K) := pg_name hN hi hx hf
theorem pgs_nm (i : Nat) {x : Str} {is : List Nat} {es : List Expr} (hN : X.N.Nodup) (k : PGs X es (gNs is)) (hi : X.N[i]? = some x := by rfl) (hx : Loc X.env.scope x := by first | exact Or.inl rfl | exact Or.inr rfl) (hf : X.fn x = true ∨ X.env.scope.names.lookup x = some .local := by first | exact .inl rfl | exact .inr rfl)
    (hs : (assignEach (.Name x pos :: es) X.env).map (·.2) = assign (.Name x pos) X.env :: (assignEach es X.env).map (·.2) := by rfl) : PGs X (.Name x pos :: es) (gNs (i :: is)) := pgs_cons (pg_name hN hi hx hf) k hs
theorem pgs_end : PGs X [] (gNs []) := pgs_nil
theorem pgt_tp {is : List Nat} {es : List Expr} {k : Nat} (hc : X.calm = true) (h : PGs X es (gNs is)) (hn : (assignEach es X.env).length = is.length := by rfl) (hst : (assignEach es X.env).findIdx? (·.1) = none := by rfl) : PG X (.Tuple es k pos) ((Tgt.tp is).g X.K) := pg_tup hc h hn hst
theorem pds_p2 (rs : List Nat) (i j : Nat) {x y : Str} {a b : Expr} {m : MA} {px py pt pt2 : Pos} {kt k2 : Nat} (hc : X.calm = true) (hN : X.N.Nodup) (h : PDA X [a, b] m) (hi : X.N[i]? = some x := by rfl) (hj : X.N[j]? = some y := by rfl) (hij : i ≠ j := by decide)
    (hx : X.env.scope.names.lookup x = some .local := by rfl) (hy : X.env.scope.names.lookup y = some .local := by rfl) (hw : swappedStores [.Tuple [.Name x px, .Name y py] kt pt] (.Tuple [a, b] k2 pt2) X.env = pure (some [x, y]) := by rfl)
    (hs : swapsWithSole [.Tuple [.Name x px, .Name y py] kt pt] (.Tuple [a, b] k2 pt2) pos.line X.env = pure false := by rfl) : PDS X (.Assign [.Tuple [.Name x px, .Name y py] kt pt] (.Tuple [a, b] k2 pt2) pos) (mPar2 rs i j m) :=
  pds_par2 rs h (ps_par hc hN hi hj hij hx hy h.run hw hs)
theorem pds_p3 (rs : List Nat) (i j l : Nat) {x y z : Str} {a b c : Expr} {m : MA} {px py pz pt pt2 : Pos} {kt k2 : Nat} (hc : X.calm = true) (hN : X.N.Nodup) (h : PDA X [a, b, c] m) (hi : X.N[i]? = some x := by rfl) (hj : X.N[j]? = some y := by rfl) (hl : X.N[l]? = some z := by rfl) (hij : i ≠ j := by decide) (hil : i ≠ l := by decide) (hjl : j ≠ l := by decide)
    (hx : X.env.scope.names.lookup x = some .local := by rfl) (hy : X.env.scope.names.lookup y = some .local := by rfl) (hz : X.env.scope.names.lookup z = some .local := by rfl)
    (hw : swappedStores [.Tuple [.Name x px, .Name y py, .Name z pz] kt pt] (.Tuple [a, b, c] k2 pt2) X.env = pure (some [x, y, z]) := by rfl)
    (hs : swapsWithSole [.Tuple [.Name x px, .Name y py, .Name z pz] kt pt] (.Tuple [a, b, c] k2 pt2) pos.line X.env = pure false := by rfl) : PDS X (.Assign [.Tuple [.Name x px, .Name y py, .Name z pz] kt pt] (.Tuple [a, b, c] k2 pt2) pos) (mPar3 rs i j l m) :=
  pds_par3 rs h (ps_par3 hc hN hi hj hl hij hil hjl hx hy hz h.run hw hs)
/-- any targets (among them cells) = a tuple -/
theorem pds_tt (rs : List Nat) {t : Tgt} {tg : Expr} (h : PD X e me) (hg : PG X tg (t.g X.K)) (hs : swapsWithSole [tg] e pos.line X.env = pure false := by rfl) (hw : swappedStores [tg] e X.env = pure none := by rfl)
    (h1 : (assignEach [tg] X.env).map (·.2) = [assign tg X.env] := by rfl) : PDS X (.Assign [tg] e pos) (mAsgT rs t me) := pds_asgT rs h (ps_asg h.run hg hs hw h1)
theorem mono_var (i : Nat) : Mono (mVar i) := fun env Q Q' k ⟨d, a, q⟩ => ⟨d, a, k d q⟩
end
theorem Fun.kwb {K : PySem.W.Frag} {x qual : Str} {st : Stmt} {f : Addr} {fd : FuncData} {ps : List Str} (F : Fun K x qual st f fd)
    (h : ∀ (kV doc pm : Value) (an : Option Addr) (cdv ct : Value) (ws : List Value), ws.length = ps.length → bindArgs (PySem.W.fnOf x qual (defArgs st) (defBody st) (defScope st) .none kV doc pm an cdv ct) ⟨[], ps.zip ws⟩ = pure (ps.zip ws)) : KwB K fd ps ps id id := by
  obtain ⟨oc, od, kV, doc, pm, an, cdv, ct, osl, rfl, lk, hcd⟩ := F.ex
  exact ⟨fun s ws _ hl _ => .of_eq (h kV doc pm an cdv ct ws hl), fun r => r⟩

/-! ### the purse -/
theorem Tr.drawn {z : Pz} {C H H' : Hp} (o : Ok z C H) (keep : ∀ a u, H a = some u → a ≠ z.p → a ≠ z.g → H' a = some u)
    (at_ : ∃ (gs cs : List Int) (s k : Int), H' z.p = some (.lst [.ref z.g, .ref z.c, .int s, .int k]) ∧ H' z.g = some (.lst (gs.map V.int)) ∧ H' z.c = some (.lst (cs.map V.int)) ∧ gs.length ≤ 64 ∧ cs ≠ [] ∧ cs.length ≤ 64) : Tr z C H C H' :=
  ⟨Ex.refl C, ⟨fun a u e => keep a u (o.ex a u e) (fun q => by rw [q, o.pur.cp] at e; cases e) (fun q => by rw [q, o.pur.cg] at e; cases e), at_, o.pur.cp, o.pur.cg, o.pur.cc, o.pur.pg, o.pur.pc, o.pur.gc⟩, keep, fun _ _ => rfl⟩
/-- a draw: any number below the bound -/
def spDraw : SpD := fun ds T => ∃ k, ds = [.pur, .int k] ∧ 1 ≤ k ∧ k < 1073741824 ∧ ∀ i, 0 ≤ i → i < k → T (.int i)
theorem shaped_ints : ∀ ns : List Int, SeqAt.shaped (.list (ns.map PyData.int)) = true := fun ns => by
  have h1 : ∀ ns : List Int, PyData.canLayAll0 (ns.map PyData.int) = true := by
    intro ns
    induction ns with
    | nil => rfl
    | cons n ns ih => simp [PyData.canLayAll0, PyData.canLay0, ih]
  have h2 : ∀ ns : List Int, PyData.depthAll (ns.map PyData.int) = 0 := by
    intro ns
    induction ns with
    | nil => rfl
    | cons n ns ih => simp [PyData.depthAll, PyData.depth, ih]
  simp [SeqAt.shaped, PyData.canLay0, PyData.depth, h1, h2]
theorem dpAll_ints {K : PySem.W.Frag} {H : Hp} : ∀ ns : List Int, DpAll K H (ns.map V.int) (ns.map PyData.int)
  | [] => .nil
  | n :: ns => .cons (.int n) (dpAll_ints ns)
theorem fmod_pos {i j : Int} (h : 0 < j) : 0 ≤ i % j ∧ i % j < j := ⟨Int.emod_nonneg i (by omega), Int.emod_lt_of_pos i h⟩
section
variable {P : Program} {w : World} {K : PySem.W.Frag} {mg : Str → Option Value} {base : Heap} {f : Addr} {fd : FuncData} {x : Str} {st : Stmt} {n0 n1 n2 n3 n4 n5 : Str}
end
end BV

/-! What is known of the defs that a def calls. -/
namespace BV
open PySem PySem.Spec PyProof.Rows L2 Evl

/-- the def x is there and keeps its promise -/
structure Kn (P : Program) (w : World) (K : PySem.W.Frag) (mg : Str → Option Value) (base : Heap) (x : Str) (k : Nat) (ps : List Str) (sp : SpD) : Prop where
  ex : ∃ (f : Addr) (fd : FuncData), FnD P w K mg base k f fd ps sp ∧ Binds K fd ps [] ∧ PySem.W.keepIn K (.ref f) = true ∧ mg x = some (.ref f)
structure KnK (P : Program) (w : World) (K : PySem.W.Frag) (mg : Str → Option Value) (base : Heap) (x : Str) (k : Nat) (ps : List Str) (sp : SpD) : Prop where
  ex : ∃ (f : Addr) (fd : FuncData), FnD P w K mg base k f fd ps sp ∧ Binds K fd ps [] ∧ PySem.W.keepIn K (.ref f) = true ∧ mg x = some (.ref f) ∧ KwB K fd ps ps id id
section
variable {P : Program} {w : World} {K : PySem.W.Frag} {mg : Str → Option Value} {base : Heap} {x : Str} {j k : Nat} {ps : List Str} {sp sp' : SpD}
theorem Kn.says (F : Kn P w K mg base x k ps sp) (h : ∀ ds T, sp' ds T → sp ds T) : Kn P w K mg base x k ps sp' := by
  obtain ⟨f, fd, a, b⟩ := F.ex
  exact ⟨f, fd, a.says h, b⟩
theorem KnK.says (F : KnK P w K mg base x k ps sp) (h : ∀ ds T, sp' ds T → sp ds T) : KnK P w K mg base x k ps sp' := by
  obtain ⟨f, fd, a, b⟩ := F.ex
  exact ⟨f, fd, a.says h, b⟩
theorem KnK.kn (F : KnK P w K mg base x k ps sp) : Kn P w K mg base x k ps sp := by
  obtain ⟨f, fd, a, b, c, d, e⟩ := F.ex
  exact ⟨f, fd, a, b, c, d⟩
end
section
variable {X : Cx} {j k : Nat} {ps : List Str} {sp : SpD} {x : Str} {p pos : Pos} {e : Expr} {es : List Expr} {m : MA}
theorem pd_callN (G : Kn X.prog X.w X.K X.mg X.base x j ps sp) (hr : Room k X.A) (hj : j ≤ k) (hgd : X.A.guards = some []) (h : PDA X (e :: es) m) (hg : Gl X x := by rfl) (hdb : (x == ("__debug__" : Str)) = false := by decide) (he : starEach (e :: es) X.env = (false, eval e X.env) :: starEach es X.env := by rfl) (hpl : (backTo pos (starEach es X.env)).any (·.1) = false := by rfl) :
    PD X (.Call (.Name x p) (e :: es) [] pos) (mCall sp m) := by
  obtain ⟨f, fd, F, b, kp, gm⟩ := G.ex
  exact pd_call F (hr.mono hj) hgd kp b gm h hg hdb he hpl
theorem pd_callNK {kws : List Keyword} (G : KnK X.prog X.w X.K X.mg X.base x j ps sp) (hr : Room k X.A) (hj : j ≤ k) (hgd : X.A.guards = some []) (h : PDK X kws m) (hall : (backToKw pos (keywordEach kws X.env)).all (·.1.isSome) = true := by rfl) (hks : (backToKw pos (keywordEach kws X.env)).filterMap (·.1) = ps := by rfl)
    (hg : Gl X x := by rfl) (hdb : (x == ("__debug__" : Str)) = false := by decide) (hpl : ((backTo pos (starEach [] X.env)).any (·.1) || (backToKw pos (keywordEach kws X.env)).any (·.1.isNone)) = false := by rfl) :
    PD X (.Call (.Name x p) [] kws pos) (mCall sp m) := by
  obtain ⟨f, fd, F, b, kp, gm, kb⟩ := G.ex
  exact pd_callK F (hr.mono hj) hgd kp kb gm h hall hks hg hdb hpl
end
section
variable {X : Cx} {elt tg iter : Expr} {ifs : List Expr} {scope : Scope} {own : List (Str × Nat)} {pos : Pos} {mi : MI} {t : Tgt} {mt : MT} {me : ME}
theorem pdo_lcN (hc : X.calm = true) (hN : X.N.Nodup) (hi : PDI X tg iter mi) (ok : BlkOk X.N X.env.scope scope own) (ht : ∀ i ∈ t.sl, i ∈ own.map (·.2))
    (hg : ∀ (s : Shared) (H : Hp) (C : Addr) (cl : List (Str × Addr)) (fp : List Addr), PG (X.blk s H scope (compEnvC scope cl C X.env) fp) tg (t.g X.K)) (hts : ∀ (s : Shared) (H : Hp) (C : Addr) (cl : List (Str × Addr)) (fp : List Addr), PDTs (X.blk s H scope (compEnvC scope cl C X.env) fp) ifs mt)
    (he : ∀ (s : Shared) (H : Hp) (C : Addr) (cl : List (Str × Addr)) (fp : List Addr), PD (X.blk s H scope (compEnvC scope cl C X.env) fp) elt me) (hs : ∀ x, foldedSetIterable iter X.env x = pure x := by intro _; rfl) :
    PDO X (.ListComp elt [⟨tg, iter, ifs, 0⟩] scope pos) (moLc (own.map (·.2)) mi t mt me) :=
  pdo_lc hc hN hi ok ht hg hts he hs (hts X.s_0 X.H_0 0 [] []).mono (he X.s_0 X.H_0 0 [] []).mono
theorem pds_setLcON (rs : List Nat) {i : Nat} {y : Str} {py spos : Pos} (hc : X.calm = true) (hN : X.N.Nodup) (hy : X.N[i]? = some y) (hyl : X.env.scope.names.lookup y = some .local)
    (hsw : swapsWith (.ListComp elt [⟨tg, iter, ifs, 0⟩] scope pos) (some (.Name y py)) spos.line X.env = pure true) (hi : PDI X tg iter mi) (ok : BlkOk X.N X.env.scope scope own) (ht : ∀ i ∈ t.sl, i ∈ own.map (·.2))
    (hg : ∀ (s : Shared) (H : Hp) (C : Addr) (cl : List (Str × Addr)) (fp : List Addr), PG (X.blk s H scope (compEnvC scope cl C X.env) fp) tg (t.g X.K)) (hts : ∀ (s : Shared) (H : Hp) (C : Addr) (cl : List (Str × Addr)) (fp : List Addr), PDTs (X.blk s H scope (compEnvC scope cl C X.env) fp) ifs mt)
    (he : ∀ (s : Shared) (H : Hp) (C : Addr) (cl : List (Str × Addr)) (fp : List Addr), PD (X.blk s H scope (compEnvC scope cl C X.env) fp) elt me) (hs : ∀ x, foldedSetIterable iter X.env x = pure x := by intro _; rfl) :
    PDS X (.Assign [.Name y py] (.ListComp elt [⟨tg, iter, ifs, 0⟩] scope pos) spos) (mAsgO rs i (moLc (own.map (·.2)) mi t mt me)) :=
  pds_setLcO rs hc hN hy hyl hsw hi ok ht hg hts he hs (hts X.s_0 X.H_0 0 [] []).mono (he X.s_0 X.H_0 0 [] []).mono
theorem pds_setLcSN (rs : List Nat) {i : Nat} {y : Str} {py spos : Pos} (hc : X.calm = true) (hN : X.N.Nodup) (hy : X.N[i]? = some y) (hyl : X.env.scope.names.lookup y = some .local)
    (hsw : swapsWith (.ListComp elt [⟨tg, iter, ifs, 0⟩] scope pos) (some (.Name y py)) spos.line X.env = pure true) (hi : PDI X tg iter mi) (ok : BlkOk X.N X.env.scope scope own) (ht : ∀ i ∈ t.sl, i ∈ own.map (·.2))
    (hg : ∀ (s : Shared) (H : Hp) (C : Addr) (cl : List (Str × Addr)) (fp : List Addr), PG (X.blk s H scope (compEnvC scope cl C X.env) fp) tg (t.g X.K)) (hts : ∀ (s : Shared) (H : Hp) (C : Addr) (cl : List (Str × Addr)) (fp : List Addr), PDTs (X.blk s H scope (compEnvC scope cl C X.env) fp) ifs mt)
    (he : ∀ (s : Shared) (H : Hp) (C : Addr) (cl : List (Str × Addr)) (fp : List Addr), PD (X.blk s H scope (compEnvC scope cl C X.env) fp) elt me) (hs : ∀ x, foldedSetIterable iter X.env x = pure x := by intro _; rfl) :
    PDS X (.Assign [.Name y py] (.ListComp elt [⟨tg, iter, ifs, 0⟩] scope pos) spos) (mAsgS rs i (moLc (own.map (·.2)) mi t mt me)) :=
  pds_setLcS rs hc hN hy hyl hsw hi ok ht hg hts he hs (hts X.s_0 X.H_0 0 [] []).mono (he X.s_0 X.H_0 0 [] []).mono
end
end BV

/-! What repr shows: sizes, and that unlike data look unlike. -/
namespace BV
open PySem PySem.Spec PyProof.Rows L2 Evl

theorem cps_len (x : Str) : x.length = x.cps.toList.length := by
  rw [Array.length_toList]
  rfl
def txt (d : D) : List Nat := d.py.shown.cps.toList
/-- of at most k depth and m signs -/
structure PL (k m : Nat) (d : D) : Prop where
  ch : ∀ c ∈ txt d, c < 1114112
  pf : d.pf = true
  sh : d.py.showable = true
  cl : d.py.canLay0 = true
  dp : d.py.depth ≤ k
  ln : d.py.shown.length ≤ m
theorem PL.mono {k m k' m' : Nat} {d : D} (h : PL k m d) (a : k ≤ k') (b : m ≤ m') : PL k' m' d := ⟨h.ch, h.pf, h.sh, h.cl, Nat.le_trans h.dp a, Nat.le_trans h.ln b⟩
theorem PL.eq {k m : Nat} {d : D} (h : PL k m d) (a : k ≤ 64) : okEq d = true := by
  have := h.dp
  simp only [okEq, SeqAt.shaped, h.pf, h.cl, Bool.true_and, decide_eq_true_eq]
  omega
theorem PL.repr {k m : Nat} {d : D} (h : PL k m d) (a : k ≤ 60) (b : m ≤ 4000000) : okRepr d = true := by
  have := h.dp
  have := h.ln
  simp only [okRepr, h.pf, h.sh, Bool.true_and, Bool.and_eq_true, decide_eq_true_eq, szOk]
  omega
theorem PL.bl (b : Bool) : PL 0 5 (.bl b) := ⟨by cases b <;> decide, rfl, rfl, rfl, Nat.le_refl _, by cases b <;> decide⟩
/-- what is shown can be looked at -/
theorem PL.seen {k m : Nat} {d : D} (h : PL k m d) : okEq (.str d.py.shown) = true := by
  have h1 : d.py.shown.cps.all (· < 0x110000) = true := by
    rw [Array.all_eq_true_iff_forall_mem]
    intro c hc
    have := h.ch c (Array.mem_toList_iff.mpr hc)
    simp only [decide_eq_true_eq]
    omega
  show (true && (d.py.shown.cps.all (· < 0x110000) && decide (0 ≤ 64))) = true
  rw [h1]
  rfl
/-! ### texts -/
theorem txt_len (d : D) : d.py.shown.length = (txt d).length := cps_len _
/-- a number's signs -/
theorem txt_int (i : Int) : txt (.int i) = if i < 0 then 45 :: TL.numL i.natAbs else TL.numL i.natAbs := by
  unfold txt
  have e : (PyData.int i).shown = Str.ofString (toString i) := by simp only [PyData.shown]
  show (PyData.int i).shown.cps.toList = _
  rw [e, signs_ofString, Int.toString_eq_repr, Int.repr_eq_if]
  by_cases h : 0 ≤ i
  · rw [if_pos h, if_neg (by omega), Nat.toList_repr]
    have : i.toNat = i.natAbs := by omega
    rw [this]
    rfl
  · rw [if_neg h, if_pos (by omega), String.toList_append, List.map_append, Nat.toList_repr]
    have : (-i).toNat = i.natAbs := by omega
    rw [this]
    rfl
theorem txt_int_inj {i j : Int} (h : txt (.int i) = txt (.int j)) : i = j := by
  rw [txt_int, txt_int] at h
  by_cases hi : i < 0
  · by_cases hj : j < 0
    · rw [if_pos hi, if_pos hj] at h
      have := TL.numL_inj (List.cons.inj h).2
      omega
    · rw [if_pos hi, if_neg hj] at h
      exact absurd (h ▸ List.mem_cons_self) (TL.numL_free (n := j.natAbs) (s := 45) (by omega))
  · by_cases hj : j < 0
    · rw [if_neg hi, if_pos hj] at h
      exact absurd (h ▸ List.mem_cons_self) (TL.numL_free (n := i.natAbs) (s := 45) (by omega))
    · rw [if_neg hi, if_neg hj] at h
      have := TL.numL_inj h
      omega
theorem txt_int_free {i : Int} {s : Nat} (h : s < 45 ∨ (45 < s ∧ s < 48) ∨ 57 < s) : s ∉ txt (.int i) := by
  rw [txt_int]
  have := TL.numL_free (n := i.natAbs) (s := s) (by omega)
  split
  · simp only [List.mem_cons, not_or]
    exact ⟨by omega, this⟩
  · exact this
theorem txt_int_ne (i : Int) : txt (.int i) ≠ [] := by
  rw [txt_int]
  split
  · simp
  · exact TL.numL_ne _
theorem PL.int {i : Int} (h : i.natAbs ≤ 1000000001) : PL 0 11 (.int i) := by
  refine ⟨fun c hc => ?_, rfl, ?_, rfl, Nat.le_refl _, ?_⟩
  · by_cases h1 : c < 1114112
    · exact h1
    · exact absurd hc (txt_int_free (by omega))
  · have : i.natAbs.log2 < 1920 := by
      by_cases h0 : i.natAbs = 0
      · rw [h0]; decide
      · have h2 : i.natAbs < 2 ^ 40 := Nat.lt_of_le_of_lt h (by decide)
        have := (Nat.log2_lt h0).mpr h2
        omega
    simp only [D.py, PyData.showable, decide_eq_true_eq]
    exact this
  · rw [txt_len, txt_int]
    have := TL.numL_len (n := i.natAbs) (k := 10) (by decide) (by omega)
    split <;> (try simp only [List.length_cons]) <;> omega
/-- small letters -/
def Low (s : Str) : Prop := ∀ c ∈ s.cps.toList, 97 ≤ c ∧ c ≤ 122
theorem low_char {c : Nat} (h : 97 ≤ c ∧ c ≤ 122) : Builtin.Str.reprChar 39 c = [c] := by
  have : ∀ c < 123, 97 ≤ c → Builtin.Str.reprChar 39 c = [c] := by decide +kernel
  exact this c (by omega) h.1
theorem txt_low {s : Str} (h : Low s) : txt (.str s) = 39 :: (s.cps.toList ++ [39]) := by
  have hq : reprQuote s = 39 := by
    unfold reprQuote
    have : s.cps.contains 39 = false := by
      rw [Bool.eq_false_iff]
      intro hc
      have := h 39 (by rw [Array.contains_iff_mem] at hc; exact Array.mem_toList_iff.mpr hc)
      omega
    rw [this]
    rfl
  show (reprText s).cps.toList = _
  unfold reprText
  rw [hq, Array.toList_push, ← Array.foldl_toList]
  have : ∀ (l : List Nat) (a : Array Nat), (∀ c ∈ l, 97 ≤ c ∧ c ≤ 122) → (l.foldl (fun out c => out ++ (Builtin.Str.reprChar 39 c).toArray) a).toList = a.toList ++ l := by
    intro l
    induction l with
    | nil => intro a _; simp
    | cons c l ih =>
      intro a hl
      rw [List.foldl_cons, ih _ fun x hx => hl x (by simp [hx]), low_char (hl c (by simp))]
      simp
  rw [this _ _ h]
  simp
theorem PL.str {s : Str} (h : Low s) : PL 0 (s.length + 2) (.str s) := by
  refine ⟨fun c hc => ?_, rfl, rfl, ?_, Nat.le_refl _, ?_⟩
  · rw [txt_low h] at hc
    simp only [List.mem_cons, List.mem_append, List.not_mem_nil, or_false] at hc
    rcases hc with hc | hc | hc
    · omega
    · have := h c hc
      omega
    · omega
  · show s.cps.all (· < 0x110000) = true
    rw [Array.all_eq_true_iff_forall_mem]
    intro c hc
    have := h c (Array.mem_toList_iff.mpr hc)
    simp only [decide_eq_true_eq]
    omega
  · rw [txt_len, txt_low h, cps_len]
    simp
/-! ### tuples, lists -/
theorem pys_map (ds : List D) : D.pys ds = ds.map D.py := by
  induction ds with
  | nil => rfl
  | cons d ds ih => simp only [D.pys, List.map_cons, ih]
theorem shownAll_map (ds : List PyData) : PyData.shownAll ds = ds.map PyData.shown := by
  induction ds with
  | nil => rfl
  | cons d ds ih => simp only [PyData.shownAll, List.map_cons, ih]
theorem all_pf {ds : List D} (h : ∀ d ∈ ds, d.pf = true) : D.pfs ds = true := by
  induction ds with
  | nil => rfl
  | cons d ds ih => simp only [D.pfs, h d (by simp), ih fun x hx => h x (by simp [hx]), Bool.and_self]
theorem all_sh {ds : List PyData} (h : ∀ d ∈ ds, d.showable = true) : PyData.showableAll ds = true := by
  induction ds with
  | nil => rfl
  | cons d ds ih => simp only [PyData.showableAll, h d (by simp), ih fun x hx => h x (by simp [hx]), Bool.and_self]
theorem all_cl {ds : List PyData} (h : ∀ d ∈ ds, d.canLay0 = true) : PyData.canLayAll0 ds = true := by
  induction ds with
  | nil => rfl
  | cons d ds ih => simp only [PyData.canLayAll0, h d (by simp), ih fun x hx => h x (by simp [hx]), Bool.and_self]
theorem all_dp {k : Nat} {ds : List PyData} (h : ∀ d ∈ ds, d.depth ≤ k) : PyData.depthAll ds ≤ k := by
  induction ds with
  | nil => exact Nat.zero_le _
  | cons d ds ih =>
    have h1 := h d (by simp)
    have h2 := ih fun x hx => h x (by simp [hx])
    simp only [PyData.depthAll]
    omega
def joinL : List (List Nat) → List Nat
  | [] => []
  | [t] => t
  | t :: u :: r => t ++ 44 :: 32 :: joinL (u :: r)
theorem joinL_of : ∀ ts : List Str, (Str.join (Str.ofString ", ") ts).cps.toList = joinL (ts.map fun t => t.cps.toList)
  | [] => rfl
  | [t] => rfl
  | t :: u :: r => by
    have ih := joinL_of (u :: r)
    show ((t ++ Str.ofString ", ") ++ Str.join (Str.ofString ", ") (u :: r)).cps.toList = _
    rw [cps_toList_append, cps_toList_append, ih]
    simp only [List.map_cons, joinL]
    rw [List.append_assoc]
    rfl
theorem joinL_len {m : Nat} : ∀ ts : List (List Nat), (∀ t ∈ ts, t.length ≤ m) → (joinL ts).length ≤ ts.length * (m + 2)
  | [], _ => by simp [joinL]
  | [t], h => by
    have := h t (by simp)
    simp only [joinL, List.length_cons, List.length_nil]
    omega
  | t :: u :: r, h => by
    have ih := joinL_len (u :: r) fun x hx => h x (by simp [hx])
    have := h t (by simp)
    simp only [joinL, List.length_cons, List.length_append] at ih ⊢
    rw [Nat.add_mul (r.length + 1) 1]
    omega
theorem txt_tup (ds : List D) : txt (.tup ds) = 40 :: (joinL (ds.map txt) ++ if ds.length = 1 then [44, 41] else [41]) := by
  show (tupleText (PyData.shownAll (D.pys ds))).cps.toList = _
  unfold tupleText
  rw [cps_toList_append, cps_toList_append, joinL_of, shownAll_map, pys_map]
  simp only [List.map_map, List.length_map]
  by_cases h : ds.length = 1
  · rw [if_pos (by rw [h]; rfl), if_pos h, List.append_assoc]
    rfl
  · rw [if_neg (by simpa using h), if_neg h, List.append_assoc]
    rfl
theorem textFrom_up {m : Nat} : ∀ (ts : List Str) (k : Nat) (acc : Str), (∀ t ∈ ts, t.length ≤ m) → (textFrom k acc ts).length ≤ acc.length + ts.length * (m + 2)
  | [], k, acc, _ => by simp [textFrom]
  | t :: ts, k, acc, h => by
    have ih := textFrom_up ts (k + 1) (acc ++ (if k > 0 then ", " else "" : String) ++ t) fun x hx => h x (by simp [hx])
    have h1 := h t (by simp)
    have h2 : (acc ++ (if k > 0 then ", " else "" : String) ++ t : Str).length ≤ acc.length + 2 + t.length := by
      rw [strLen_append, strLen_append]
      have : (Str.ofString (if k > 0 then ", " else "")).length ≤ 2 := by split <;> decide
      omega
    show (textFrom (k + 1) (acc ++ (if k > 0 then ", " else "" : String) ++ t) ts).length ≤ _
    simp only [List.length_cons]
    rw [Nat.add_mul ts.length 1]
    omega
theorem joinL_mem {c : Nat} : ∀ {ts : List (List Nat)}, c ∈ joinL ts → c = 44 ∨ c = 32 ∨ ∃ t ∈ ts, c ∈ t
  | [], h => by simp [joinL] at h
  | [t], h => .inr (.inr ⟨t, by simp, h⟩)
  | t :: u :: r, h => by
    simp only [joinL, List.mem_append, List.mem_cons] at h
    rcases h with h | h | h | h
    · exact .inr (.inr ⟨t, by simp, h⟩)
    · exact .inl h
    · exact .inr (.inl h)
    · rcases joinL_mem h with h | h | ⟨x, h1, h2⟩
      · exact .inl h
      · exact .inr (.inl h)
      · exact .inr (.inr ⟨x, by simp only [List.mem_cons] at h1 ⊢; exact .inr h1, h2⟩)
theorem textFrom_mem {c : Nat} : ∀ {ts : List Str} {k : Nat} {acc : Str}, c ∈ (textFrom k acc ts).cps.toList → c ∈ acc.cps.toList ∨ c = 44 ∨ c = 32 ∨ ∃ t ∈ ts, c ∈ t.cps.toList
  | [], k, acc, h => .inl h
  | t :: ts, k, acc, h => by
    rcases textFrom_mem (ts := ts) h with h | h | h | ⟨x, h1, h2⟩
    · rw [cps_toList_append, cps_toList_append, List.mem_append, List.mem_append] at h
      rcases h with (h | h) | h
      · exact .inl h
      · have : ∀ b : Bool, c ∈ (Str.ofString (if b = true then ", " else "")).cps.toList → c = 44 ∨ c = 32 := by
          intro b hb
          cases b
          · have e : (Str.ofString (if false = true then ", " else "")).cps.toList = [] := by decide +kernel
            rw [e] at hb
            cases hb
          · have e : (Str.ofString (if true = true then ", " else "")).cps.toList = [44, 32] := by decide +kernel
            rw [e] at hb
            simpa using hb
        have := this (decide (k > 0)) (by simpa using h)
        rcases this with h | h
        · exact .inr (.inl h)
        · exact .inr (.inr (.inl h))
      · exact .inr (.inr (.inr ⟨t, by simp, h⟩))
    · exact .inr (.inl h)
    · exact .inr (.inr (.inl h))
    · exact .inr (.inr (.inr ⟨x, by simp [h1], h2⟩))
theorem PL.tup {k m : Nat} {ds : List D} (h : ∀ d ∈ ds, PL k m d) : PL (k + 1) (3 + ds.length * (m + 2)) (.tup ds) := by
  refine ⟨fun c hc => ?_, all_pf fun d hd => (h d hd).pf, ?_, ?_, ?_, ?_⟩
  · rw [txt_tup] at hc
    simp only [List.mem_cons, List.mem_append] at hc
    rcases hc with hc | hc | hc
    · omega
    · rcases joinL_mem hc with h1 | h1 | ⟨t, h1, h2⟩
      · omega
      · omega
      · obtain ⟨d, hd, rfl⟩ := List.mem_map.mp h1
        exact (h d hd).ch c h2
    · split at hc <;> simp only [List.mem_cons, List.not_mem_nil, or_false] at hc <;> omega
  · simp only [D.py, PyData.showable, pys_map]
    exact all_sh fun p hp => by obtain ⟨d, hd, rfl⟩ := List.mem_map.mp hp; exact (h d hd).sh
  · simp only [D.py, PyData.canLay0, pys_map]
    exact all_cl fun p hp => by obtain ⟨d, hd, rfl⟩ := List.mem_map.mp hp; exact (h d hd).cl
  · simp only [D.py, PyData.depth, pys_map]
    have := all_dp (k := k) (ds := ds.map D.py) fun p hp => by obtain ⟨d, hd, rfl⟩ := List.mem_map.mp hp; exact (h d hd).dp
    omega
  · rw [txt_len, txt_tup]
    have := joinL_len (m := m) (ds.map txt) fun t ht => by obtain ⟨d, hd, rfl⟩ := List.mem_map.mp ht; rw [← txt_len]; exact (h d hd).ln
    rw [List.length_map] at this
    simp only [List.length_cons, List.length_append]
    split <;> simp only [List.length_cons, List.length_nil] <;> omega
theorem PL.lst {k m : Nat} {ds : List D} (h : ∀ d ∈ ds, PL k m d) : PL (k + 1) (2 + ds.length * (m + 2)) (.lst ds) := by
  refine ⟨fun c hc => ?_, all_pf fun d hd => (h d hd).pf, ?_, ?_, ?_, ?_⟩
  · have hc : c ∈ (textFrom 0 (Str.ofString "[") (PyData.shownAll (D.pys ds)) ++ Str.ofString "]").cps.toList := hc
    rw [cps_toList_append, List.mem_append] at hc
    have e1 : (Str.ofString "[").cps.toList = [91] := by decide +kernel
    have e2 : (Str.ofString "]").cps.toList = [93] := by decide +kernel
    rcases hc with hc | hc
    · rcases textFrom_mem hc with h1 | h1 | h1 | ⟨t, h1, h2⟩
      · rw [e1] at h1
        simp only [List.mem_cons, List.not_mem_nil, or_false] at h1
        omega
      · omega
      · omega
      · rw [shownAll_map, pys_map] at h1
        obtain ⟨p, hp, rfl⟩ := List.mem_map.mp h1
        obtain ⟨d, hd, rfl⟩ := List.mem_map.mp hp
        exact (h d hd).ch c h2
    · rw [e2] at hc
      simp only [List.mem_cons, List.not_mem_nil, or_false] at hc
      omega
  · simp only [D.py, PyData.showable, pys_map]
    exact all_sh fun p hp => by obtain ⟨d, hd, rfl⟩ := List.mem_map.mp hp; exact (h d hd).sh
  · simp only [D.py, PyData.canLay0, pys_map]
    exact all_cl fun p hp => by obtain ⟨d, hd, rfl⟩ := List.mem_map.mp hp; exact (h d hd).cl
  · simp only [D.py, PyData.depth, pys_map]
    have := all_dp (k := k) (ds := ds.map D.py) fun p hp => by obtain ⟨d, hd, rfl⟩ := List.mem_map.mp hp; exact (h d hd).dp
    omega
  · show (textFrom 0 (Str.ofString "[") (PyData.shownAll (D.pys ds)) ++ Str.ofString "]").length ≤ _
    rw [strLen_append, shownAll_map, pys_map]
    have := textFrom_up (m := m) ((ds.map D.py).map PyData.shown) 0 (Str.ofString "[") fun t ht => by
      obtain ⟨p, hp, rfl⟩ := List.mem_map.mp ht
      obtain ⟨d, hd, rfl⟩ := List.mem_map.mp hp
      exact (h d hd).ln
    rw [List.length_map, List.length_map] at this
    have e1 : (Str.ofString "[").length = 1 := rfl
    have e2 : (Str.ofString "]").length = 1 := rfl
    omega
/-! ### unlike values look unlike -/
/-- cut at the first comma or bracket -/
theorem cut_eq {c d : Nat} (hc : c = 44 ∨ c = 41) (hd : d = 44 ∨ d = 41) : ∀ {a b r s : List Nat}, (∀ x ∈ a, x ≠ 44 ∧ x ≠ 41) → (∀ x ∈ b, x ≠ 44 ∧ x ≠ 41) → a ++ c :: r = b ++ d :: s → a = b ∧ c = d ∧ r = s
  | [], [], r, s, _, _, h => by
    simp only [List.nil_append, List.cons.injEq] at h
    exact ⟨rfl, h.1, h.2⟩
  | [], y :: b, r, s, _, hb, h => by
    simp only [List.nil_append, List.cons_append, List.cons.injEq] at h
    have := hb y (by simp)
    omega
  | x :: a, [], r, s, ha, _, h => by
    simp only [List.nil_append, List.cons_append, List.cons.injEq] at h
    have := ha x (by simp)
    omega
  | x :: a, y :: b, r, s, ha, hb, h => by
    simp only [List.cons_append, List.cons.injEq] at h
    obtain ⟨e1, e2, e3⟩ := cut_eq hc hd (fun z hz => ha z (by simp [hz])) (fun z hz => hb z (by simp [hz])) h.2
    exact ⟨by rw [h.1, e1], e2, e3⟩
def Sep (t : List Nat) : Prop := t ≠ [] ∧ ∀ x ∈ t, x ≠ 44 ∧ x ≠ 41
theorem join_inj : ∀ {ts us : List (List Nat)}, (∀ t ∈ ts, Sep t) → (∀ t ∈ us, Sep t) → joinL ts ++ [41] = joinL us ++ [41] → ts = us
  | [], [], _, _, _ => rfl
  | [], [u], _, hu, h => by
    have := (hu u (by simp)).1
    simp only [joinL, List.nil_append] at h
    have hl := congrArg List.length h
    simp only [List.length_append, List.length_cons, List.length_nil] at hl
    exact absurd (List.eq_nil_of_length_eq_zero (by omega)) this
  | [], u :: v :: r, _, hu, h => by
    have hl := congrArg List.length h
    simp only [joinL, List.length_append, List.length_cons, List.length_nil] at hl
    omega
  | [t], [], ht, _, h => by
    have := (ht t (by simp)).1
    simp only [joinL, List.nil_append] at h
    have hl := congrArg List.length h
    simp only [List.length_append, List.length_cons, List.length_nil] at hl
    exact absurd (List.eq_nil_of_length_eq_zero (by omega)) this
  | t :: v :: r, [], ht, _, h => by
    have hl := congrArg List.length h
    simp only [joinL, List.length_append, List.length_cons, List.length_nil] at hl
    omega
  | [t], [u], ht, hu, h => by
    simp only [joinL] at h
    obtain ⟨e, _, _⟩ := cut_eq (.inr rfl) (.inr rfl) (ht t (by simp)).2 (hu u (by simp)).2 h
    rw [e]
  | [t], u :: v :: r, ht, hu, h => by
    simp only [joinL, List.append_assoc, List.cons_append] at h
    obtain ⟨_, e, _⟩ := cut_eq (.inr rfl) (.inl rfl) (ht t (by simp)).2 (hu u (by simp)).2 h
    omega
  | t :: v :: r, [u], ht, hu, h => by
    simp only [joinL, List.append_assoc, List.cons_append] at h
    obtain ⟨_, e, _⟩ := cut_eq (.inl rfl) (.inr rfl) (ht t (by simp)).2 (hu u (by simp)).2 h
    omega
  | t :: v :: r, u :: x :: q, ht, hu, h => by
    simp only [joinL, List.append_assoc, List.cons_append] at h
    obtain ⟨e, _, e2⟩ := cut_eq (.inl rfl) (.inl rfl) (ht t (by simp)).2 (hu u (by simp)).2 h
    have ih := join_inj (ts := v :: r) (us := x :: q) (fun z hz => ht z (by simp [hz])) (fun z hz => hu z (by simp [hz])) (List.cons.inj e2).2
    rw [e, ih]
theorem tup_inj {ds es : List D} (hd : ∀ d ∈ ds, Sep (txt d)) (he : ∀ d ∈ es, Sep (txt d)) (h : txt (.tup ds) = txt (.tup es)) : ds.map txt = es.map txt := by
  rw [txt_tup, txt_tup] at h
  have h := (List.cons.inj h).2
  have sd : ∀ t ∈ ds.map txt, Sep t := fun t ht => by obtain ⟨d, hm, rfl⟩ := List.mem_map.mp ht; exact hd d hm
  have se : ∀ t ∈ es.map txt, Sep t := fun t ht => by obtain ⟨d, hm, rfl⟩ := List.mem_map.mp ht; exact he d hm
  by_cases h1 : ds.length = 1
  · rw [if_pos h1] at h
    match ds, h1, hd with
    | [d], _, hd =>
      simp only [List.map_cons, List.map_nil, joinL] at h
      by_cases h2 : es.length = 1
      · rw [if_pos h2] at h
        match es, h2, he with
        | [e], _, he =>
          simp only [List.map_cons, List.map_nil, joinL] at h
          obtain ⟨q, _, _⟩ := cut_eq (.inl rfl) (.inl rfl) (hd d (by simp)).2 (he e (by simp)).2 h
          simp [q]
      · rw [if_neg h2] at h
        match es, h2, he with
        | [], _, he =>
          have hl := congrArg List.length h
          simp only [List.map_nil, joinL, List.length_append, List.length_cons, List.length_nil] at hl
          omega
        | e :: f :: r, _, he =>
          simp only [List.map_cons, joinL, List.append_assoc, List.cons_append] at h
          obtain ⟨_, _, q⟩ := cut_eq (.inl rfl) (.inl rfl) (hd d (by simp)).2 (he e (by simp)).2 h
          exact absurd (List.cons.inj q).1 (by decide)
  · rw [if_neg h1] at h
    by_cases h2 : es.length = 1
    · rw [if_pos h2] at h
      match es, h2, he with
      | [e], _, he =>
        simp only [List.map_cons, List.map_nil, joinL] at h
        match ds, h1, hd with
        | [], _, hd =>
          have hl := congrArg List.length h
          simp only [List.map_nil, joinL, List.length_append, List.length_cons, List.length_nil] at hl
          omega
        | d :: f :: r, _, hd =>
          simp only [List.map_cons, joinL, List.append_assoc, List.cons_append] at h
          obtain ⟨_, _, q⟩ := cut_eq (.inl rfl) (.inl rfl) (hd d (by simp)).2 (he e (by simp)).2 h
          exact absurd (List.cons.inj q).1 (by decide)
    · rw [if_neg h2] at h
      exact join_inj sd se h
end BV

/-! Equality, order, loops, over data. -/
namespace BV
open PySem PySem.Spec PyProof.Rows L2 Evl

noncomputable instance decD : DecidableEq D := fun a b => Classical.propDecidable (a = b)
mutual
/-- numbers, words, and tuples and lists of them -/
def D.nb : D → Bool
  | .int _ => true
  | .str _ => true
  | .tup ds => D.nbs ds
  | .lst ds => D.nbs ds
  | _ => false
def D.nbs : List D → Bool
  | [] => true
  | d :: ds => D.nb d && D.nbs ds
end
mutual
theorem eqv_iff : ∀ d e : D, d.nb = true → e.nb = true → (PyData.eqv d.py e.py = true ↔ d = e)
  | .int i, .int j, _, _ => by simp [D.py, PyData.eqv]
  | .int i, .str j, _, _ => by simp [D.py, PyData.eqv]
  | .int i, .tup j, _, _ => by simp [D.py, PyData.eqv]
  | .int i, .lst j, _, _ => by simp [D.py, PyData.eqv]
  | .str i, .int j, _, _ => by simp [D.py, PyData.eqv]
  | .str i, .str j, _, _ => by simp [D.py, PyData.eqv]
  | .str i, .tup j, _, _ => by simp [D.py, PyData.eqv]
  | .str i, .lst j, _, _ => by simp [D.py, PyData.eqv]
  | .tup i, .int j, _, _ => by simp [D.py, PyData.eqv]
  | .tup i, .str j, _, _ => by simp [D.py, PyData.eqv]
  | .tup i, .tup j, h, k => by
    have := eqvs_iff i j (by simpa [D.nb] using h) (by simpa [D.nb] using k)
    simp only [D.py, PyData.eqv, D.tup.injEq]
    exact this
  | .tup i, .lst j, _, _ => by simp [D.py, PyData.eqv]
  | .lst i, .int j, _, _ => by simp [D.py, PyData.eqv]
  | .lst i, .str j, _, _ => by simp [D.py, PyData.eqv]
  | .lst i, .tup j, _, _ => by simp [D.py, PyData.eqv]
  | .lst i, .lst j, h, k => by
    have := eqvs_iff i j (by simpa [D.nb] using h) (by simpa [D.nb] using k)
    simp only [D.py, PyData.eqv, D.lst.injEq]
    exact this
  | .non, _, h, _ => by simp [D.nb] at h
  | .bl _, _, h, _ => by simp [D.nb] at h
  | .pur, _, h, _ => by simp [D.nb] at h
  | .pr _, _, h, _ => by simp [D.nb] at h
  | .dic _ _, _, h, _ => by simp [D.nb] at h
  | .int _, .non, _, h => by simp [D.nb] at h
  | .int _, .bl _, _, h => by simp [D.nb] at h
  | .int _, .pur, _, h => by simp [D.nb] at h
  | .int _, .pr _, _, h => by simp [D.nb] at h
  | .int _, .dic _ _, _, h => by simp [D.nb] at h
  | .str _, .non, _, h => by simp [D.nb] at h
  | .str _, .bl _, _, h => by simp [D.nb] at h
  | .str _, .pur, _, h => by simp [D.nb] at h
  | .str _, .pr _, _, h => by simp [D.nb] at h
  | .str _, .dic _ _, _, h => by simp [D.nb] at h
  | .tup _, .non, _, h => by simp [D.nb] at h
  | .tup _, .bl _, _, h => by simp [D.nb] at h
  | .tup _, .pur, _, h => by simp [D.nb] at h
  | .tup _, .pr _, _, h => by simp [D.nb] at h
  | .tup _, .dic _ _, _, h => by simp [D.nb] at h
  | .lst _, .non, _, h => by simp [D.nb] at h
  | .lst _, .bl _, _, h => by simp [D.nb] at h
  | .lst _, .pur, _, h => by simp [D.nb] at h
  | .lst _, .pr _, _, h => by simp [D.nb] at h
  | .lst _, .dic _ _, _, h => by simp [D.nb] at h
theorem eqvs_iff : ∀ ds es : List D, D.nbs ds = true → D.nbs es = true → (PyData.eqvAll (D.pys ds) (D.pys es) = true ↔ ds = es)
  | [], [], _, _ => by simp [D.pys, PyData.eqvAll]
  | [], e :: es, _, _ => by simp [D.pys, PyData.eqvAll]
  | d :: ds, [], _, _ => by simp [D.pys, PyData.eqvAll]
  | d :: ds, e :: es, h, k => by
    have h' : d.nb = true ∧ D.nbs ds = true := by simpa [D.nbs] using h
    have k' : e.nb = true ∧ D.nbs es = true := by simpa [D.nbs] using k
    simp only [D.pys, PyData.eqvAll, Bool.and_eq_true, List.cons.injEq, eqv_iff d e h'.1 k'.1, eqvs_iff ds es h'.2 k'.2]
end
theorem nbs_all {ds : List D} (h : ∀ d ∈ ds, d.nb = true) : D.nbs ds = true := by
  induction ds with
  | nil => rfl
  | cons d ds ih => simp only [D.nbs, h d (by simp), ih fun x hx => h x (by simp [hx]), Bool.and_self]

/-! ### values, their ranks -/
/-- a value that a law draws -/
def isV : D → Prop
  | .int i => i.natAbs ≤ 1000000001
  | .str s => s.length ≤ 13 ∧ Low s
  | _ => False
theorem isV.nb {v : D} (h : isV v) : v.nb = true := by cases v <;> first | rfl | exact h.elim
theorem isV.pl {v : D} (h : isV v) : PL 0 15 v := by
  cases v with
  | int i => exact (PL.int h).mono (Nat.le_refl _) (by omega)
  | str s => exact (PL.str h.2).mono (Nat.le_refl _) (by have := h.1; omega)
  | _ => exact h.elim
theorem isV.sep {v : D} (h : isV v) : Sep (txt v) := by
  cases v with
  | int i => exact ⟨txt_int_ne i, fun x hx => ⟨fun e => txt_int_free (by omega) (e ▸ hx), fun e => txt_int_free (by omega) (e ▸ hx)⟩⟩
  | str s =>
    rw [txt_low h.2]
    refine ⟨by simp, fun x hx => ?_⟩
    simp only [List.mem_cons, List.mem_append, List.not_mem_nil, or_false] at hx
    rcases hx with hx | hx | hx
    · omega
    · have := h.2 x hx
      omega
    · omega
  | _ => exact h.elim
theorem isV.inj {v w : D} (h : isV v) (k : isV w) (e : txt v = txt w) : v = w := by
  cases v with
  | int i =>
    cases w with
    | int j => rw [txt_int_inj e]
    | str s =>
      rw [txt_low k.2] at e
      exact absurd (e ▸ List.mem_cons_self) (txt_int_free (i := i) (s := 39) (by omega))
    | _ => exact k.elim
  | str s =>
    cases w with
    | int j =>
      rw [txt_low h.2] at e
      exact absurd (e ▸ List.mem_cons_self) (txt_int_free (i := j) (s := 39) (by omega))
    | str t =>
      rw [txt_low h.2, txt_low k.2] at e
      have := List.append_cancel_right (List.cons.inj e).2
      have : s = t := by
        cases s; cases t
        exact congrArg Str.mk (Array.toList_inj.mp this)
      rw [this]
    | _ => exact k.elim
  | _ => exact h.elim
theorem txt_eq {d e : D} : d.py.shown = e.py.shown ↔ txt d = txt e := by
  unfold txt
  constructor
  · intro h; rw [h]
  · intro h
    generalize d.py.shown = a at h
    generalize e.py.shown = b at h
    cases a; cases b
    exact congrArg Str.mk (Array.toList_inj.mp h)
/-- by what values are told apart and ordered -/
def key : D → List Int
  | .int i => [0, i]
  | .str s => 1 :: s.cps.toList.map Int.ofNat
  | _ => []
theorem map_ofNat_inj {a b : List Nat} (h : a.map Int.ofNat = b.map Int.ofNat) : a = b := by
  induction a generalizing b with
  | nil => cases b with
    | nil => rfl
    | cons => cases h
  | cons x a ih => cases b with
    | nil => cases h
    | cons y b =>
      simp only [List.map_cons, List.cons.injEq] at h
      rw [ih h.2, Int.ofNat.inj h.1]
theorem key_inj {v w : D} (h : isV v) (k : isV w) (e : key v = key w) : v = w := by
  cases v with
  | int i =>
    cases w with
    | int j => simp only [key, List.cons.injEq] at e; rw [e.2.1]
    | str s => simp [key] at e
    | _ => exact k.elim
  | str s =>
    cases w with
    | int j => simp [key] at e
    | str t =>
      simp only [key, List.cons.injEq, true_and] at e
      have := map_ofNat_inj e
      have : s = t := by
        cases s; cases t
        exact congrArg Str.mk (Array.toList_inj.mp this)
      rw [this]
    | _ => exact k.elim
  | _ => exact h.elim
theorem lt_cons_self {α : Type} [LT α] (hi : ∀ a : α, ¬ a < a) {a : α} {l m : List α} : a :: l < a :: m ↔ l < m := by
  rw [List.cons_lt_cons_iff]
  exact ⟨fun h => h.elim (fun h => absurd h (hi a)) (·.2), fun h => .inr ⟨rfl, h⟩⟩
theorem map_ofNat_lt {a b : List Nat} : a.map Int.ofNat < b.map Int.ofNat ↔ a < b := by
  induction a generalizing b with
  | nil => cases b with
    | nil => exact ⟨fun h => absurd h (List.lt_irrefl _), fun h => absurd h (List.lt_irrefl _)⟩
    | cons y b => exact ⟨fun _ => List.nil_lt_cons _ _, fun _ => List.nil_lt_cons _ _⟩
  | cons x a ih => cases b with
    | nil => exact ⟨fun h => absurd h (List.not_lt_nil _), fun h => absurd h (List.not_lt_nil _)⟩
    | cons y b =>
      simp only [List.map_cons, List.cons_lt_cons_iff, ih]
      constructor
      · rintro (h | ⟨h, k⟩)
        · exact .inl (Int.ofNat_lt.mp h)
        · exact .inr ⟨Int.ofNat.inj h, k⟩
      · rintro (h | ⟨h, k⟩)
        · exact .inl (Int.ofNat_lt.mpr h)
        · exact .inr ⟨congrArg Int.ofNat h, k⟩
def rankV (v : D) : D := match v with
  | .str s => .tup [.int 1, .str s]
  | v => .tup [.int 0, v]
theorem rank_nb {v : D} (h : isV v) : (rankV v).nb = true := by cases v <;> first | rfl | exact h.elim
theorem rank_inj {v w : D} (h : isV v) (k : isV w) : rankV v = rankV w ↔ v = w := by
  cases v <;> cases w <;> first | exact h.elim | exact k.elim | simp [rankV]
theorem rank_pl {v : D} (h : isV v) : PL 1 40 (rankV v) := by
  have : ∀ c : Int, c.natAbs ≤ 1 → PL 1 37 (.tup [.int c, v]) := fun c hc => by
    have := PL.tup (ds := [.int c, v]) (k := 0) (m := 15) fun d hd => by
      simp only [List.mem_cons, List.not_mem_nil, or_false] at hd
      rcases hd with rfl | rfl
      · exact (PL.int (by omega)).mono (Nat.le_refl _) (by omega)
      · exact h.pl
    exact this.mono (Nat.le_refl _) (by simp)
  cases v with
  | int i => exact (this 0 (by decide)).mono (Nat.le_refl _) (by omega)
  | str s => exact (this 1 (by decide)).mono (Nat.le_refl _) (by omega)
  | _ => exact h.elim
theorem rank_eqv {v w : D} (h : isV v) (k : isV w) : PyData.eqv (rankV v).py (rankV w).py = decide (v = w) := by
  rw [Bool.eq_iff_iff, decide_eq_true_iff, eqv_iff _ _ (rank_nb h) (rank_nb k), rank_inj h k]
theorem dec_congr {p q : Prop} [Decidable p] [Decidable q] (h : p ↔ q) : decide p = decide q := by
  rw [Bool.eq_iff_iff, decide_eq_true_iff, decide_eq_true_iff, h]
theorem rank_lt {v w : D} (h : isV v) (k : isV w) : ltO (rankV v) (rankV w) = some (decide (key v < key w)) := by
  cases v with
  | int i =>
    cases w with
    | int j =>
      show ltOs [.int 0, .int i] [.int 0, .int j] = _
      have e0 : PyData.eqv (D.int 0).py (D.int 0).py = true := rfl
      simp only [ltOs, e0, if_true]
      by_cases hij : i = j
      · subst hij
        rw [if_pos (by simp [D.py, PyData.eqv])]
        congr 1
        rw [List.isEmpty_nil, Bool.not_true, eq_comm, decide_eq_false_iff_not]
        exact List.lt_irrefl _
      · rw [if_neg (by simpa [D.py, PyData.eqv] using hij)]
        simp only [ltO]
        congr 1
        refine dec_congr ?_
        rw [key, key, lt_cons_self (by omega), List.cons_lt_cons_iff]
        exact ⟨.inl, fun h => h.elim id fun h => absurd h.2 (List.lt_irrefl _)⟩
    | str t =>
      show ltOs [.int 0, .int i] [.int 1, .str t] = _
      have e0 : PyData.eqv (D.int 0).py (D.int 1).py = false := rfl
      simp only [ltOs, e0]
      simp only [ltO, key]
      congr 1
    | _ => exact k.elim
  | str s =>
    cases w with
    | int j =>
      show ltOs [.int 1, .str s] [.int 0, .int j] = _
      have e0 : PyData.eqv (D.int 1).py (D.int 0).py = false := rfl
      simp only [ltOs, e0]
      simp only [ltO, key]
      congr 1
    | str t =>
      show ltOs [.int 1, .str s] [.int 1, .str t] = _
      have e0 : PyData.eqv (D.int 1).py (D.int 1).py = true := rfl
      simp only [ltOs, e0, if_true]
      by_cases hst : s = t
      · subst hst
        rw [if_pos (by simp [D.py, PyData.eqv])]
        congr 1
        rw [List.isEmpty_nil, Bool.not_true, eq_comm, decide_eq_false_iff_not]
        exact List.lt_irrefl _
      · rw [if_neg (by simpa [D.py, PyData.eqv] using hst)]
        simp only [ltO]
        congr 1
        refine dec_congr ?_
        rw [key, key, lt_cons_self (by omega), map_ofNat_lt]
    | _ => exact k.elim
  | _ => exact h.elim
/-! ### rows -/
def isR : D → Prop
  | .tup vs => vs.length ≤ 40 ∧ ∀ v ∈ vs, isV v
  | _ => False
def rkey : D → List (List Int)
  | .tup vs => vs.map key
  | _ => []
theorem isR.nb {r : D} (h : isR r) : r.nb = true := by
  cases r with
  | tup vs => simp only [D.nb]; exact nbs_all fun d hd => (h.2 d hd).nb
  | _ => exact h.elim
theorem isR.pl {r : D} (h : isR r) : PL 1 700 r := by
  cases r with
  | tup vs => exact (PL.tup fun d hd => (h.2 d hd).pl).mono (Nat.le_refl _) (by have := h.1; omega)
  | _ => exact h.elim
theorem map_inj_on {α β : Type} {f : α → β} : ∀ {l m : List α}, (∀ a ∈ l, ∀ b ∈ m, f a = f b → a = b) → l.map f = m.map f → l = m
  | [], [], _, _ => rfl
  | [], b :: m, _, h => by cases h
  | a :: l, [], _, h => by cases h
  | a :: l, b :: m, i, h => by
    simp only [List.map_cons, List.cons.injEq] at h
    rw [i a (by simp) b (by simp) h.1, map_inj_on (fun x hx y hy => i x (by simp [hx]) y (by simp [hy])) h.2]
theorem rkey_inj {r q : D} (h : isR r) (k : isR q) (e : rkey r = rkey q) : r = q := by
  cases r with
  | tup vs =>
    cases q with
    | tup ws => rw [map_inj_on (fun a ha b hb => key_inj (h.2 a ha) (k.2 b hb)) e]
    | _ => exact k.elim
  | _ => exact h.elim
theorem isR.inj {r q : D} (h : isR r) (k : isR q) (e : txt r = txt q) : r = q := by
  cases r with
  | tup vs =>
    cases q with
    | tup ws => rw [map_inj_on (fun a ha b hb => isV.inj (h.2 a ha) (k.2 b hb)) (tup_inj (fun d hd => (h.2 d hd).sep) (fun d hd => (k.2 d hd).sep) e)]
    | _ => exact k.elim
  | _ => exact h.elim
def rankR : D → D
  | .tup vs => .tup (vs.map rankV)
  | d => d
theorem rankR_nb {r : D} (h : isR r) : (rankR r).nb = true := by
  cases r with
  | tup vs =>
    simp only [rankR, D.nb]
    exact nbs_all fun d hd => by obtain ⟨v, hv, rfl⟩ := List.mem_map.mp hd; exact rank_nb (h.2 v hv)
  | _ => exact h.elim
theorem rankR_pl {r : D} (h : isR r) : PL 2 2000 (rankR r) := by
  cases r with
  | tup vs =>
    refine (PL.tup (k := 1) (m := 40) fun d hd => ?_).mono (Nat.le_refl _) (by have := h.1; simp only [List.length_map]; omega)
    obtain ⟨v, hv, rfl⟩ := List.mem_map.mp hd
    exact rank_pl (h.2 v hv)
  | _ => exact h.elim
theorem rankR_inj {r q : D} (h : isR r) (k : isR q) : rankR r = rankR q ↔ r = q := by
  cases r with
  | tup vs =>
    cases q with
    | tup ws =>
      constructor
      · intro e
        simp only [rankR, D.tup.injEq] at e
        rw [map_inj_on (fun a ha b hb => (rank_inj (h.2 a ha) (k.2 b hb)).mp) e]
      · intro e; rw [e]
    | _ => exact k.elim
  | _ => exact h.elim
theorem rankR_eqv {v w : D} (h : isR v) (k : isR w) : PyData.eqv (rankR v).py (rankR w).py = decide (v = w) := by
  rw [Bool.eq_iff_iff, decide_eq_true_iff, eqv_iff _ _ (rankR_nb h) (rankR_nb k), rankR_inj h k]
theorem lts_rank : ∀ {vs ws : List D}, (∀ v ∈ vs, isV v) → (∀ v ∈ ws, isV v) → ltOs (vs.map rankV) (ws.map rankV) = some (decide (vs.map key < ws.map key))
  | [], [], _, _ => by simp [ltOs]
  | [], w :: ws, _, _ => by simp [ltOs]
  | v :: vs, [], _, _ => by simp [ltOs]
  | v :: vs, w :: ws, h, k => by
    simp only [List.map_cons, ltOs]
    rw [rank_eqv (h v (by simp)) (k w (by simp))]
    by_cases e : v = w
    · subst e
      rw [decide_eq_true rfl, if_pos rfl, lts_rank (fun x hx => h x (by simp [hx])) (fun x hx => k x (by simp [hx]))]
      congr 1
      exact dec_congr (lt_cons_self (fun a => List.lt_irrefl a)).symm
    · rw [decide_eq_false e, if_neg (by simp), rank_lt (h v (by simp)) (k w (by simp))]
      congr 1
      refine dec_congr ?_
      rw [List.cons_lt_cons_iff]
      exact ⟨.inl, fun q => q.elim id fun q => absurd (key_inj (h v (by simp)) (k w (by simp)) q.1) e⟩
theorem rankR_lt {r q : D} (h : isR r) (k : isR q) : ltO (rankR r) (rankR q) = some (decide (rkey r < rkey q)) := by
  cases r with
  | tup vs =>
    cases q with
    | tup ws => exact lts_rank h.2 k.2
    | _ => exact k.elim
  | _ => exact h.elim
/-! ### sorted lists are told by what is in them -/
theorem sorted_eq {α : Type} {lt : α → α → Prop} : ∀ {l m : List α}, l.Perm m → l.Pairwise (fun x y => ¬ lt y x) → m.Pairwise (fun x y => ¬ lt y x) → (∀ a ∈ l, ∀ b ∈ l, ¬ lt a b → ¬ lt b a → a = b) → l = m
  | [], m, p, _, _, _ => (List.nil_perm.mp p).symm
  | a :: l, [], p, _, _, _ => (List.perm_nil.mp p)
  | a :: l, b :: m, p, s, t, tr => by
    have hab : a = b := by
      have ha : a ∈ b :: m := p.mem_iff.mp (by simp)
      have hb : b ∈ a :: l := p.mem_iff.mpr (by simp)
      rcases List.mem_cons.mp ha with e | ha'
      · exact e
      · rcases List.mem_cons.mp hb with e | hb'
        · exact e.symm
        · exact tr a (by simp) b hb ((List.pairwise_cons.mp t).1 a ha') ((List.pairwise_cons.mp s).1 b hb')
    subst hab
    rw [sorted_eq (List.Perm.cons_inv p) (List.pairwise_cons.mp s).2 (List.pairwise_cons.mp t).2 fun x hx y hy => tr x (by simp [hx]) y (by simp [hy])]
/-! ### loops -/
theorem forGo_go {t : Tgt} {body : MS} {E : EndD} (I : Nat → SEnv → Prop) : ∀ (items : List D) (n : Nat) (env : SEnv), (∀ i d env nx, items[i]? = some d → I (n + i) env → (∀ env', I (n + i + 1) env' → nx env') → ∃ env1, t.put shd d env = some env1 ∧ body { E with nx := nx, ct := nx, bk := E.nx } env1) →
    (∀ env, I (n + items.length) env → E.nx env) → I n env → forGo t body E items env
  | [], n, env, _, hend, h0 => hend env h0
  | x :: xs, n, env, hs, hend, h0 => by
    obtain ⟨env1, e, hbd⟩ := hs 0 x env (forGo t body E xs) rfl h0 fun env' h' =>
      forGo_go I xs (n + 1) env' (fun i d env2 nx hi hI hn => by
        have := hs (i + 1) d env2 nx (by simpa using hi) (by rw [show n + (i + 1) = n + 1 + i by omega]; exact hI) (fun e he => hn e (by rw [show n + 1 + i + 1 = n + (i + 1) + 1 by omega]; exact he))
        exact this) (fun env2 h2 => hend env2 (by rw [List.length_cons, show n + (xs.length + 1) = n + 1 + xs.length by omega]; exact h2)) h'
    exact ⟨env1, e, hbd⟩
/-- a loop with what holds ahead of each turn -/
theorem forGo_inv {t : Tgt} {body : MS} {E : EndD} {items : List D} {env : SEnv} (I : Nat → SEnv → Prop) (h0 : I 0 env) (hend : ∀ env, I items.length env → E.nx env)
    (hs : ∀ i d env nx, items[i]? = some d → I i env → (∀ env', I (i + 1) env' → nx env') → ∃ env1, t.put shd d env = some env1 ∧ body { E with nx := nx, ct := nx, bk := E.nx } env1) : forGo t body E items env :=
  forGo_go I items 0 env (fun i d env nx a b c => hs i d env nx a (by simpa using b) (by simpa using c)) (fun env h => hend env (by simpa using h)) h0
theorem lcGo_map {t : Tgt} {mt : MT} {me : ME} {env : Env} {Q : List D → Prop} (f : D → D → Prop) : ∀ (items acc : List D), (∀ x ∈ items, ∃ env1, t.put idD x env = some env1 ∧ ∀ (R : D → Prop) (S : Prop), (∀ y, f x y → R y) → mt env1 fun b => if b = true then me env1 R else S) →
    (∀ ys, Paired f items ys → Q (acc ++ ys)) → lcGo t mt me env items acc Q
  | [], acc, _, hq => by have := hq [] .nil; simpa [lcGo] using this
  | x :: xs, acc, hs, hq => by
    obtain ⟨env1, e, h⟩ := hs x (by simp)
    refine ⟨env1, e, h _ _ fun y hy => ?_⟩
    refine lcGo_map f xs _ (fun z hz => hs z (by simp [hz])) fun ys p => ?_
    have := hq (y :: ys) (.cons hy p)
    simpa using this
theorem lcGo_fn {t : Tgt} {mt : MT} {me : ME} {env : Env} {Q : List D → Prop} (f : D → D) (items : List D) (hs : ∀ x ∈ items, ∃ env1, t.put idD x env = some env1 ∧ ∀ (R : D → Prop) (S : Prop), R (f x) → mt env1 fun b => if b = true then me env1 R else S) (hq : Q (items.map f)) : lcGo t mt me env items [] Q := by
  refine lcGo_map (fun x y => y = f x) items [] (fun x hx => ?_) fun ys p => ?_
  · obtain ⟨env1, e, h⟩ := hs x hx
    exact ⟨env1, e, fun R S k => h R S (k _ rfl)⟩
  have : ys = items.map f := by
    clear hs hq
    induction p with
    | nil => rfl
    | cons h _ ih => simp [h, ih]
  rw [this]
  exact hq
theorem lcGo_filter {t : Tgt} {mt : MT} {me : ME} {env : Env} {Q : List D → Prop} (p : D → Bool) : ∀ (items acc : List D), (∀ x ∈ items, ∃ env1, t.put idD x env = some env1 ∧ ∀ (R : D → Prop) (S : Prop), (p x = true → R x) → (p x = false → S) → mt env1 fun b => if b = true then me env1 R else S) →
    Q (acc ++ items.filter p) → lcGo t mt me env items acc Q
  | [], acc, _, hq => by simpa [lcGo] using hq
  | x :: xs, acc, hs, hq => by
    obtain ⟨env1, e, h⟩ := hs x (by simp)
    refine ⟨env1, e, h _ _ (fun hp => ?_) fun hp => ?_⟩
    · refine lcGo_filter p xs _ (fun z hz => hs z (by simp [hz])) ?_
      rw [List.filter_cons_of_pos hp] at hq
      simpa using hq
    · refine lcGo_filter p xs _ (fun z hz => hs z (by simp [hz])) ?_
      rw [List.filter_cons_of_neg (by simp [hp])] at hq
      exact hq
theorem paired_all {α β : Type} {p : β → Prop} {xs : List α} {ys : List β} (h : Paired (fun _ y => p y) xs ys) : ∀ y ∈ ys, p y := by
  induction h with
  | nil => intro y hy; cases hy
  | cons h _ ih =>
    intro y hy
    rcases List.mem_cons.mp hy with e | hy
    · rw [e]; exact h
    · exact ih y hy
theorem view_fl {rs : List Nat} : ∀ {k : Nat} {env : SEnv} {i : Nat} {d : D}, env[i]? = some (some (false, d)) → (view rs k env)[i]? = some (some d)
  | k, [], i, d, h => by simp at h
  | k, none :: r, 0, d, h => by simp at h
  | k, some (false, e) :: r, 0, d, h => by simpa [view] using h
  | k, some (true, e) :: r, 0, d, h => by simp at h
  | k, none :: r, i + 1, d, h => by
    simp only [view, List.getElem?_cons_succ] at h ⊢
    exact view_fl h
  | k, some (false, e) :: r, i + 1, d, h => by
    simp only [view, List.getElem?_cons_succ] at h ⊢
    exact view_fl h
  | k, some (true, e) :: r, i + 1, d, h => by
    simp only [view, List.getElem?_cons_succ] at h ⊢
    exact view_fl h
theorem yes_go {env : Env} {A B : Prop} (h : A) : mYes env (fun b => if b = true then A else B) := by
  show if true = true then A else B
  rw [if_pos rfl]
  exact h
end BV

/-! Dicts by value: reading, making, changing one's own. -/
namespace BV
open PySem PySem.Spec PyProof.Rows L2 Evl

def keyOf : D → Option L2.Key
  | .int i => some (.inl i)
  | .str s => some (.inr s)
  | _ => none
abbrev KL := List (L2.Key × D)
def dicOf (kd : KL) : D := .dic (kd.map (·.1)) (kd.map (·.2))
/-- the pairs of a dict on both sides -/
def KD (K : PySem.W.Frag) (C : Hp) (pu : Addr) : KL → List (L2.Key × V) → Prop
  | [], kvs => kvs = []
  | (k, d) :: kd, kvs => ∃ v r, kvs = (k, v) :: r ∧ Dn K C pu d v ∧ KD K C pu kd r
section
variable {K : PySem.W.Frag} {C C' : Hp} {pu : Addr}
theorem KD.mono (e : Ex C C') : ∀ {kd : KL} {kvs : List (L2.Key × V)}, KD K C pu kd kvs → KD K C' pu kd kvs
  | [], _, h => h
  | (k, d) :: kd, _, ⟨v, r, e1, e2, e3⟩ => ⟨v, r, e1, e2.mono e, KD.mono e e3⟩
theorem KD.len : ∀ {kd : KL} {kvs : List (L2.Key × V)}, KD K C pu kd kvs → kvs.length = kd.length
  | [], _, h => by cases h; rfl
  | (k, d) :: kd, _, ⟨v, r, e1, e2, e3⟩ => by subst e1; simp [KD.len e3]
theorem KD.iff : ∀ {kd : KL} {kvs : List (L2.Key × V)}, KD K C pu kd kvs ↔ kvs.map (·.1) = kd.map (·.1) ∧ Dns K C pu (kd.map (·.2)) (kvs.map (·.2))
  | [], kvs => ⟨fun h => by cases h; exact ⟨rfl, dns_nil.mpr rfl⟩, fun ⟨h, _⟩ => by show kvs = []; simpa using h⟩
  | (k, d) :: kd, kvs => by
    constructor
    · rintro ⟨v, r, rfl, e2, e3⟩
      obtain ⟨h1, h2⟩ := KD.iff.mp e3
      exact ⟨by simp [h1], dns_cons.mpr ⟨v, _, rfl, e2, h2⟩⟩
    · rintro ⟨h1, h2⟩
      obtain ⟨v, r, e1, e2, e3⟩ := dns_cons.mp h2
      cases kvs with
      | nil => cases h1
      | cons p kvs =>
        obtain ⟨k', v'⟩ := p
        simp only [List.map_cons, List.cons.injEq] at h1 e1
        obtain ⟨rfl, h1⟩ := h1
        obtain ⟨rfl, rfl⟩ := e1
        exact ⟨v', kvs, rfl, e2, KD.iff.mpr ⟨h1, e3⟩⟩
theorem dn_dicOf {kd : KL} {v : V} : Dn K C pu (dicOf kd) v ↔ ∃ a kvs, v = .ref a ∧ C a = some (.dK kvs) ∧ KD K C pu kd kvs := by
  unfold dicOf
  rw [dn_dic]
  constructor
  · rintro ⟨a, kvs, e1, e2, e3, e4⟩
    exact ⟨a, kvs, e1, e2, KD.iff.mpr ⟨e3, e4⟩⟩
  · rintro ⟨a, kvs, e1, e2, e3⟩
    obtain ⟨h1, h2⟩ := KD.iff.mp e3
    exact ⟨a, kvs, e1, e2, h1, h2⟩
theorem hl_dicOf {kd : KL} {u : HO} : Hl K C pu (dicOf kd) u ↔ ∃ kvs, u = .dK kvs ∧ KD K C pu kd kvs := by
  constructor
  · rintro ⟨kvs, e1, e2, e3⟩
    exact ⟨kvs, e1, KD.iff.mpr ⟨e2, e3⟩⟩
  · rintro ⟨kvs, e1, e2⟩
    obtain ⟨h1, h2⟩ := KD.iff.mp e2
    exact ⟨kvs, e1, h1, h2⟩
/-- what stands under a key -/
def valD (kd : KL) (k : L2.Key) : Option D := (kd.find? fun kv => decide (kv.1 = k)).map (·.2)
def putD (kd : KL) (k : L2.Key) (d : D) : KL :=
  if (kd.any fun kv => decide (kv.1 = k)) = true then kd.map (fun kv => if kv.1 = k then (kv.1, d) else kv) else kd ++ [(k, d)]
def mergeD (kd more : KL) : KL := more.foldl (fun acc kv => putD acc kv.1 kv.2) kd
theorem KD.val (k : L2.Key) : ∀ {kd : KL} {kvs : List (L2.Key × V)}, KD K C pu kd kvs → (∀ d, valD kd k = some d → ∃ v, valV kvs k = some v ∧ Dn K C pu d v) ∧ (valD kd k = none → valV kvs k = none)
  | [], _, h => by cases h; exact ⟨fun d e => by simp [valD] at e, fun _ => rfl⟩
  | (k', d) :: kd, _, ⟨v, r, e1, e2, e3⟩ => by
    subst e1
    obtain ⟨h1, h2⟩ := KD.val k e3
    by_cases hk : k' = k
    · subst hk
      refine ⟨fun d' e => ⟨v, by simp [valV], ?_⟩, fun e => by simp [valD] at e⟩
      have : d = d' := by simpa [valD] using e
      rw [← this]
      exact e2
    · refine ⟨fun d' e => ?_, fun e => ?_⟩
      · rw [valV_neg (p := (k', v)) hk]
        refine h1 d' ?_
        simpa [valD, List.find?_cons, hk] using e
      · rw [valV_neg (p := (k', v)) hk]
        refine h2 ?_
        simpa [valD, List.find?_cons, hk] using e
theorem KD.any (k : L2.Key) : ∀ {kd : KL} {kvs : List (L2.Key × V)}, KD K C pu kd kvs → (kvs.any fun kv => decide (kv.1 = k)) = kd.any fun kv => decide (kv.1 = k)
  | [], _, h => by cases h; rfl
  | (k', d) :: kd, _, ⟨v, r, e1, e2, e3⟩ => by subst e1; simp only [List.any_cons, KD.any k e3]
theorem KD.mapPut (k : L2.Key) {d : D} {v : V} (hd : Dn K C pu d v) : ∀ {kd : KL} {kvs : List (L2.Key × V)}, KD K C pu kd kvs → KD K C pu (kd.map fun kv => if kv.1 = k then (kv.1, d) else kv) (kvs.map fun kv => if kv.1 = k then (kv.1, v) else kv)
  | [], _, h => by cases h; exact rfl
  | (k', d') :: kd, _, ⟨v', r, e1, e2, e3⟩ => by
    subst e1
    by_cases hk : k' = k
    · simp only [List.map_cons, hk, if_true]
      exact ⟨v, _, rfl, hd, KD.mapPut k hd e3⟩
    · simp only [List.map_cons, hk, if_false]
      exact ⟨v', _, rfl, e2, KD.mapPut k hd e3⟩
theorem KD.app : ∀ {kd kd2 : KL} {kvs kvs2 : List (L2.Key × V)}, KD K C pu kd kvs → KD K C pu kd2 kvs2 → KD K C pu (kd ++ kd2) (kvs ++ kvs2)
  | [], _, _, _, h, k => by cases h; exact k
  | (k', d) :: kd, _, _, _, ⟨v, r, e1, e2, e3⟩, k => by subst e1; exact ⟨v, _, rfl, e2, KD.app e3 k⟩
theorem KD.put (k : L2.Key) {d : D} {v : V} (hd : Dn K C pu d v) {kd : KL} {kvs : List (L2.Key × V)} (h : KD K C pu kd kvs) : KD K C pu (putD kd k d) (putK kvs k v) := by
  unfold putD putK
  rw [h.any k]
  split
  · exact h.mapPut k hd
  · exact h.app ⟨v, [], rfl, hd, rfl⟩
theorem KD.merge : ∀ {more : KL} {ms : List (L2.Key × V)} {kd : KL} {kvs : List (L2.Key × V)}, KD K C pu more ms → KD K C pu kd kvs → KD K C pu (mergeD kd more) (mergeK kvs ms)
  | [], _, kd, kvs, h, k => by cases h; exact k
  | (k', d) :: more, _, kd, kvs, ⟨v, r, e1, e2, e3⟩, k => by
    subst e1
    show KD K C pu (mergeD (putD kd k' d) more) (mergeK (putK kvs k' v) r)
    exact KD.merge e3 (k.put k' e2)
theorem putD_len (kd : KL) (k : L2.Key) (d : D) : (putD kd k d).length ≤ kd.length + 1 := by
  unfold putD
  split
  · simp
  · simp
theorem key_dn {d : D} {k : L2.Key} {v : V} (h : keyOf d = some k) (dn : Dn K C pu d v) : v = kV k := by
  cases d with
  | int i => cases h; exact dn_int.mp dn
  | str s => cases h; exact dn_str.mp dn
  | _ => cases h
end

/-! ### reading -/
section
variable {X : Cx} {o e f : Expr} {mo me mf : ME} {pos apos cpos : Pos}
/-- o[e] -/
def mDget (mo me : ME) : ME := fun env Q => mo env fun x => me env fun y => ∃ kd k u, x = dicOf kd ∧ keyOf y = some k ∧ valD kd k = some u ∧ Q u
theorem pd_dget (hu : X.A.units + 64 < cLine) (ho : PD X o mo) (he : PD X e me) (hs : NoSl e := by exact fun _ _ => rfl) : PD X (.Subscript o e pos) (mDget mo me) := by
  refine ⟨pe_imp (pe_dget (by omega) ho.run he.run hs) fun σ H Q q => ?_, fun env Q Q' i q => ho.mono _ _ _ (fun x q => he.mono _ _ _ (fun y ⟨kd, k, u, a, b, c, q⟩ => ⟨kd, k, u, a, b, c, i _ q⟩) q) q⟩
  obtain ⟨z, C, env, ok, r, q⟩ := q
  refine lift_use ho.mono ok r q fun x v C1 H1 q t1 dx => lift_use he.mono t1.ok (r.mono t1.cc) q fun y w C2 H2 ⟨kd, k, u, a, b, c, p⟩ t2 dy => ?_
  subst a
  obtain ⟨ad, kvs, e1, e2, e3⟩ := dn_dicOf.mp (dx.mono t2.cc)
  obtain ⟨u', h1, h2⟩ := (e3.val k).1 u c
  refine ⟨ad, u', e1, ?_, p _ _ _ (t1.trans t2) h2⟩
  rw [key_dn b dy, ← h1]
  exact .k (t2.ok.ex _ _ e2)
/-- o.get(e, f) -/
def mDget2 (mo me mf : ME) : ME := fun env Q => mo env fun x => ∃ kd, x = dicOf kd ∧ me env fun y => mf env fun w => ∃ k, keyOf y = some k ∧ Q ((valD kd k).getD w)
theorem pd_dget2 (hu : X.A.units + 64 < cLine) (ho : PD X o mo) (he : PD X e me) (hf : PD X f mf) (m : M2 X o "get" apos e f cpos := by exact ⟨rfl, rfl, rfl, rfl⟩) :
    PD X (.Call (.Attribute o "get" apos) [e, f] [] cpos) (mDget2 mo me mf) := by
  refine ⟨pe_imp (pe_dget2 (by omega) ho.run he.run hf.run m) fun σ H Q q => ?_, fun env Q Q' i q => ho.mono _ _ _ (fun x ⟨kd, a, q⟩ => ⟨kd, a, he.mono _ _ _ (fun y q => hf.mono _ _ _ (fun w ⟨k, b, q⟩ => ⟨k, b, i _ q⟩) q) q⟩) q⟩
  obtain ⟨z, C, env, ok, r, q⟩ := q
  refine lift_use ho.mono ok r q fun x v C1 H1 ⟨kd, ex, q⟩ t1 dx => ?_
  subst ex
  obtain ⟨ad, kvs, e1, e2, e3⟩ := dn_dicOf.mp dx
  refine ⟨ad, e1, .inl ⟨kvs, .inl (t1.ok.ex _ _ e2)⟩, ?_⟩
  refine lift_use he.mono t1.ok (r.mono t1.cc) q fun y w C2 H2 q t2 dy => lift_use hf.mono t2.ok ((r.mono t1.cc).mono t2.cc) q fun y3 w3 C3 H3 ⟨k, b, p⟩ t3 dw => ?_
  have t23 := t2.trans t3
  have e3' := e3.mono t23.cc
  refine ⟨valV kvs k, ?_, ?_⟩
  · rw [key_dn b (dy.mono t3.cc)]
    exact .k (t3.ok.ex _ _ (t23.cc _ _ e2))
  · cases hv : valD kd k with
    | none =>
      rw [(e3'.val k).2 hv]
      rw [hv] at p
      exact p _ _ _ ((t1.trans t2).trans t3) dw
    | some u =>
      obtain ⟨u', h1, h2⟩ := (e3'.val k).1 u hv
      rw [h1]
      rw [hv] at p
      exact p _ _ _ ((t1.trans t2).trans t3) h2
/-- e in o, o a dict -/
def mDin (neg : Bool) (me mo : ME) : ME := fun env Q => me env fun y => mo env fun x => ∃ kd k, x = dicOf kd ∧ keyOf y = some k ∧ Q (.bl (if neg then !(valD kd k).isSome else (valD kd k).isSome))
theorem KD.isSome {K : PySem.W.Frag} {C : Hp} {pu : Addr} {kd : KL} {kvs : List (L2.Key × V)} (h : KD K C pu kd kvs) (k : L2.Key) : (valV kvs k).isSome = (valD kd k).isSome := by
  cases hv : valD kd k with
  | none => rw [(h.val k).2 hv]; rfl
  | some u =>
    obtain ⟨v, h1, _⟩ := (h.val k).1 u hv
    rw [h1]
    rfl
theorem din_use {σ : L2.St} {H : Hp} {Q : VK} {neg : Bool} (ho : Mono mo) (he : Mono me) (q : lift X.K (mDin neg me mo) σ H Q) :
    lift X.K me σ H fun y H1 => lift X.K mo σ H1 fun x H2 => ∃ a o, x = .ref a ∧ DGet H2 a y o ∧ Q (.bl (if neg then !o.isSome else o.isSome)) H2 := by
  obtain ⟨z, C, env, ok, r, q⟩ := q
  refine lift_use he ok r q fun y w C1 H1 q t1 dy => lift_use ho t1.ok (r.mono t1.cc) q fun x v C2 H2 ⟨kd, k, a, b, p⟩ t2 dx => ?_
  subst a
  obtain ⟨ad, kvs, e1, e2, e3⟩ := dn_dicOf.mp dx
  refine ⟨ad, valV kvs k, e1, ?_, ?_⟩
  · rw [key_dn b (dy.mono t2.cc)]
    exact .k (t2.ok.ex _ _ e2)
  · rw [e3.isSome k]
    exact p _ _ _ (t1.trans t2) (dn_bl.mpr rfl)
theorem mono_din {neg : Bool} (ho : Mono mo) (he : Mono me) : Mono (mDin neg me mo) := fun env Q Q' i q => he _ _ _ (fun y q => ho _ _ _ (fun x ⟨kd, k, a, b, q⟩ => ⟨kd, k, a, b, i _ q⟩) q) q
theorem pd_din (hu : X.A.units + 64 < cLine) (he : PD X e me) (ho : PD X o mo) (h1 : behindInMarks .In o = false := by rfl) : PD X (.Compare e [.In] [o] pos) (mDin false me mo) :=
  ⟨pe_imp (pe_cmp (pc_din (by omega) he.run ho.run) h1) fun σ H Q q => din_use (neg := false) ho.mono he.mono q, mono_din ho.mono he.mono⟩
theorem pd_dnotin (hu : X.A.units + 64 < cLine) (he : PD X e me) (ho : PD X o mo) (h1 : behindInMarks .NotIn o = false := by rfl) : PD X (.Compare e [.NotIn] [o] pos) (mDin true me mo) :=
  ⟨pe_imp (pe_cmp (pc_dnotin (by omega) he.run ho.run) h1) fun σ H Q q => din_use (neg := true) ho.mono he.mono q, mono_din ho.mono he.mono⟩
end
/-! ### making -/
def pairOf : D → Option (L2.Key × D)
  | .tup [k, v] => (keyOf k).map (·, v)
  | .pr [k, v] => (keyOf k).map (·, v)
  | _ => none
def pairsOf : List D → Option KL
  | [] => some []
  | d :: ds => match pairOf d, pairsOf ds with
    | some p, some r => some (p :: r)
    | _, _ => none
theorem pairs_dn {K : PySem.W.Frag} {C : Hp} {pu : Addr} : ∀ {ds : List D} {more : KL} {xs : List V}, pairsOf ds = some more → Dns K C pu ds xs → ∃ (ps : List Addr) (ms : List (L2.Key × V)), xs = ps.map V.ref ∧ Paired (fun p kv => SqT K C p [kV kv.1, kv.2]) ps ms ∧ KD K C pu more ms
  | [], more, xs, h, dn => by
    cases h
    rw [dns_nil.mp dn]
    exact ⟨[], [], rfl, .nil, rfl⟩
  | d :: ds, more, xs, h, dn => by
    obtain ⟨v, r, e1, e2, e3⟩ := dns_cons.mp dn
    simp only [pairsOf] at h
    split at h
    · rename_i p r' hp hr
      cases h
      obtain ⟨ps, ms, f1, f2, f3⟩ := pairs_dn hr e3
      have key : ∃ a k w x, v = .ref a ∧ SqT K C a [kV k, x] ∧ p = (k, w) ∧ Dn K C pu w x := by
        unfold pairOf at hp
        split at hp
        · obtain ⟨k, hk, rfl⟩ := Option.map_eq_some_iff.mp hp
          obtain ⟨a, ys, g1, g2, g3⟩ := dn_tup e2
          obtain ⟨y1, y2, g4, g5, g6⟩ := dns2 g3
          subst g4
          rw [key_dn hk g5] at g2
          exact ⟨a, k, _, y2, g1, g2, rfl, g6⟩
        · obtain ⟨k, hk, rfl⟩ := Option.map_eq_some_iff.mp hp
          obtain ⟨a, ys, g1, g2, g3⟩ := dn_pr.mp e2
          obtain ⟨y1, y2, g4, g5, g6⟩ := dns2 g3
          subst g4
          rw [key_dn hk g5] at g2
          exact ⟨a, k, _, y2, g1, g2, rfl, g6⟩
        · cases hp
      obtain ⟨a, k, w, x, g1, g2, rfl, g3⟩ := key
      exact ⟨a :: ps, (k, x) :: ms, by rw [e1, f1, g1]; rfl, .cons g2 f2, x, ms, rfl, g3, f3⟩
    · cases h
/-- dict(pairs) -/
def dictD : List D → Option D
  | [.tup ds] => (pairsOf ds).map fun more => dicOf (mergeD [] more)
  | [.lst ds] => (pairsOf ds).map fun more => dicOf (mergeD [] more)
  | _ => none
section
variable {X : Cx} {pos : Pos}
theorem Paired.imp' {α β : Type} {F G : α → β → Prop} (f : ∀ a b, F a b → G a b) : ∀ {l : List α} {m : List β}, Paired F l m → Paired G l m
  | _, _, .nil => .nil
  | _, _, .cons r t => .cons (f _ _ r) (Paired.imp' f t)
theorem cd_dict (hc : X.calm = true) : CallD X (.type "dict") dictD := by
  refine ⟨_, (call_dictT hc).or (call_dictP hc), fun z C H ds u xs Q o dn g k => ?_⟩
  unfold dictD at g
  split at g
  · obtain ⟨more, hm, rfl⟩ := Option.map_eq_some_iff.mp g
    obtain ⟨v, e1, e2⟩ := dns1 dn
    obtain ⟨a, ys, f1, f2, f3⟩ := dn_tupP.mp e2
    obtain ⟨ps, ms, g1, g2, g3⟩ := pairs_dn hm f3
    subst g1
    subst f1
    exact .inl ⟨a, ps, ms, e1, ex_p o.ex f2, Paired.imp' (fun _ _ h => ex_t o.ex h) g2, fun p hp => k _ _ _ (Tr.put o hp) (dn_dicOf.mpr ⟨p, _, rfl, upd_same, KD.mono (Ex.new (fresh_back o.ex hp)) (KD.merge g3 (kd := []) (kvs := []) rfl)⟩)⟩
  · obtain ⟨more, hm, rfl⟩ := Option.map_eq_some_iff.mp g
    obtain ⟨v, e1, e2⟩ := dns1 dn
    obtain ⟨a, ys, f1, f2, f3⟩ := dn_lst.mp e2
    obtain ⟨ps, ms, g1, g2, g3⟩ := pairs_dn hm f3
    subst g1
    subst f1
    exact .inr ⟨a, ps, ms, e1, ex_l o.ex (sq_of f2), Paired.imp' (fun _ _ h => ex_t o.ex h) g2, fun p hp => k _ _ _ (Tr.put o hp) (dn_dicOf.mpr ⟨p, _, rfl, upd_same, KD.mono (Ex.new (fresh_back o.ex hp)) (KD.merge g3 (kd := []) (kvs := []) rfl)⟩)⟩
  · cases g
end
end BV

/-! Own dicts, lists from which is taken, several own things at once; in, str. -/
namespace BV
open PySem PySem.Spec PyProof.Rows L2 Evl

/-! ### two values under one view -/
section
variable {K : PySem.W.Frag} {z : Pz} {C0 H0 Cb C H : Hp} {env : SEnv} {σ : L2.St}
theorem SR.after (s : SR K z C0 H0 Cb C env σ H) (rs : List Nat) {C' H' : Hp} {ds : List D} {vs : List V} (t : Tr z (coreP rs env σ C H) H C' H') (dn : Dns K C' z.p ds vs) :
    ∃ C2, SR K z C0 H0 Cb C2 (aftL rs ds env) σ H' ∧ Dns K C2 z.p ds vs ∧ ∀ a, C' a = none → C2 a = none := by
  by_cases hd : D.lfs ds = true
  · refine ⟨coreM rs env σ C', ?_, dn.lf (s.tupSub rs t) ds vs hd, fun a h => ?_⟩
    · unfold aftL
      rw [if_pos hd]
      exact s.thaw rs t
    · by_cases ho : OwnAt rs env σ a
      · exact coreM_in ho
      · rw [coreM_out ho]; exact h
  · refine ⟨C', ?_, dn, fun a h => h⟩
    unfold aftL
    rw [if_neg hd]
    exact s.frozen rs t
theorem SR.use2 (s : SR K z C0 H0 Cb C env σ H) {m1 m2 : ME} {P : D → D → Prop} {Q : V → V → Hp → Prop} (rs : List Nat) (h1 : Mono m1) (h2 : Mono m2) (q : m1 (view rs 0 env) fun d => m2 (view rs 0 env) fun e => P d e)
    (k : ∀ d e v w C' H', P d e → SR K z C0 H0 Cb C' (aftL rs [d, e] env) σ H' → Dn K C' z.p d v → Dn K C' z.p e w → Q v w H') : lift K m1 σ H fun v H1 => lift K m2 σ H1 fun w H2 => Q v w H2 := by
  refine lift_use h1 (s.okP rs) (s.envP rs) q fun d v C1 H1 q t1 dn => lift_use h2 t1.ok ((s.envP rs).mono t1.cc) q fun e w C2 H2 p t2 dn2 => ?_
  obtain ⟨C3, s3, dns, _⟩ := s.after rs (t1.trans t2) (dns_cons.mpr ⟨v, [w], rfl, dn.mono t2.cc, Dns.one dn2⟩)
  obtain ⟨v', w', e1, e2, e3⟩ := dns2 dns
  cases e1
  exact k d e v w C3 H2 p s3 e2 e3
end
theorem lift_imp {K : PySem.W.Frag} {m : ME} {σ : L2.St} {H : Hp} {Q Q' : VK} (hm : Mono m) (h : lift K m σ H Q) (k : ∀ v H, Q v H → Q' v H) : lift K m σ H Q' := by
  obtain ⟨z, C, env, o, r, q⟩ := h
  exact lift_use hm o r q fun d v C' H' p t dn => k _ _ (p v C' H' t dn)
/-! ### own dicts -/
section
variable {X : Cx} {pos : Pos}
/-- x = {} -/
def mNewD (i : Nat) : MS := fun E env => E.nx (env.set i (some (true, dicOf [])))
theorem pds_newD {i : Nat} {st : Stmt} (hp : PS X st (tAsg tDNewK (gName i))) : PDS X st (mNewD i) := by
  refine ⟨fun z C0 H0 Cb => ps_imp hp fun N σ H ⟨C, env, s, q⟩ => ?_, fun E E' env l q => l.nx _ q⟩
  intro p hp
  have t : Tr z C H C (upd H p (.dK [])) := Tr.ext s.tr.ok (Ex.new hp)
  exact q _ C _ ((s.next t).setOwnU i (fresh_back s.tr.ok.ex hp) upd_same (hl_dicOf.mpr ⟨[], rfl, rfl⟩) (s.tr.free hp) (s.fresh hp))
theorem pds_setNewD (i : Nat) {x : Str} {py p2 : Pos} (hN : X.N.Nodup) (hi : X.N[i]? = some x := by rfl) (hx : Loc X.env.scope x := by first | exact Or.inl rfl | exact Or.inr rfl) (hs : swapsWith (.Dict [] [] p2) (some (.Name x py)) pos.line X.env = pure false := by rfl)
    (hf : X.fn x = true ∨ X.env.scope.names.lookup x = some .local := by first | exact .inl rfl | exact .inr rfl) : PDS X (.Assign [.Name x py] (.Dict [] [] p2) pos) (mNewD i) := pds_newD (ps_set hN hi hx pe_dnewK hs hf)
/-- x[k] = v, x an own dict -/
def mPutD (rs : List Nat) (i : Nat) (mv mk : ME) : MS := fun E env => (∃ kd0, env[i]? = some (some (true, dicOf kd0))) ∧ mv (view rs 0 env) fun d => mk (view rs 0 env) fun y => ∃ kd k, (aftL rs [d, y] env)[i]? = some (some (true, dicOf kd)) ∧ keyOf y = some k ∧ szOk (kd.length + 1) = true ∧
  E.nx ((aftL rs [d, y] env).set i (some (true, dicOf (putD kd k d))))
theorem SR.ownD {K : PySem.W.Frag} {z : Pz} {C0 H0 Cb C H : Hp} {env : SEnv} {σ : L2.St} (s : SR K z C0 H0 Cb C env σ H) (i : Nat) {kd : KL} (h : env[i]? = some (some (true, dicOf kd))) : ∃ a kvs, σ[i]? = some (some (.ref a)) ∧ C a = none ∧ H a = some (.dK kvs) ∧ KD K C z.p kd kvs ∧ H0 a = none := by
  obtain ⟨a, u, e2, e3, e4, e5, e7⟩ := s.own i _ h
  obtain ⟨kvs, rfl, e6⟩ := hl_dicOf.mp e5
  exact ⟨a, kvs, e2, e3, e4, e6, e7⟩
theorem pds_putD (rs : List Nat) {i : Nat} {o k v : Expr} {pos' : Pos} {mv mk : ME} (hu : X.A.units + 64 < cLine) (ho : PE X o (tVar i)) (hk : PD X k mk) (hv : PD X v mv) (hs : swapsWith v (some (.Subscript o k pos')) pos.line X.env = pure false := by rfl) :
    PDS X (.Assign [.Subscript o k pos'] v pos) (mPutD rs i mv mk) := by
  refine ⟨fun z C0 H0 Cb => ps_imp (ps_dput (by omega) ho hk.run hv.run hs) fun N σ H ⟨C, env, s, ⟨kd0, h0⟩, q⟩ => ?_, fun E E' env l ⟨q0, q⟩ => ⟨q0, hv.mono _ _ _ (fun d q => hk.mono _ _ _ (fun y ⟨kd, k, a, b, c, q⟩ => ⟨kd, k, a, b, c, l.nx _ q⟩) q) q⟩⟩
  obtain ⟨a, kvs0, ea, _, eH, _, _⟩ := s.ownD i h0
  have key := s.use2 (Q := fun v y H3 => ∃ (a' : Addr) (H4 : Hp), V.ref a = .ref a' ∧ DPut H3 a' y v H4 ∧ N.nx σ H4) rs hv.mono hk.mono q fun d y v w C' H' ⟨kd, k, e1, e2, e3, p⟩ s' d1 d2 => ?_
  · exact lift_imp hv.mono key fun v H1 h => ⟨.ref a, ea, h⟩
  · obtain ⟨b, kvs, f1, f2, f3, f4, f5⟩ := s'.ownD i e1
    rw [ea] at f1
    cases f1
    have hl := f4.len
    refine ⟨a, upd H' a (.dK (putK kvs k v)), rfl, ?_, p σ C' _ (s'.writeU e1 ea (hl_dicOf.mpr ⟨_, rfl, f4.put k d1⟩))⟩
    rw [key_dn e2 d2]
    exact .k f3 (by rw [hl]; exact sz_lt (by unfold szOk at e3 ⊢; simp at e3 ⊢; omega))
/-! ### in a list, str of a number -/
def inD (neg : Bool) : D → D → Option D
  | d, .lst es => if okEq d = true ∧ okEq (.lst es) = true then some (.bl (if neg then !((D.pys es).any fun z => PyData.eqv z d.py) else (D.pys es).any fun z => PyData.eqv z d.py)) else none
  | _, _ => none
theorem opd_in (hu : X.A.units + 65 < cLine) : OpD X (compareOp .In) (inD false) := by
  refine OpD.of _ (op_inD hu) fun z C H d e u x y Q o dx dy g k => ?_
  cases e with
  | lst es =>
    obtain ⟨⟨h1, h2⟩, rfl⟩ := ite_of g
    exact ⟨d.py, D.pys es, dx.dp o.ex d x (okEq_of h1).1, dy.dp o.ex (.lst es) y (okEq_of h2).1, (okEq_of h1).2, (okEq_of h2).2, k _ C H (Tr.refl o) (dn_bl.mpr rfl)⟩
  | _ => cases g
theorem opd_notin (hu : X.A.units + 65 < cLine) : OpD X (compareOp .NotIn) (inD true) := by
  refine OpD.of _ (op_notInD hu) fun z C H d e u x y Q o dx dy g k => ?_
  cases e with
  | lst es =>
    obtain ⟨⟨h1, h2⟩, rfl⟩ := ite_of g
    exact ⟨d.py, D.pys es, dx.dp o.ex d x (okEq_of h1).1, dy.dp o.ex (.lst es) y (okEq_of h2).1, (okEq_of h1).2, (okEq_of h2).2, k _ C H (Tr.refl o) (dn_bl.mpr rfl)⟩
  | _ => cases g
def strD : List D → Option D
  | [.int i] => if i.natAbs.log2 < 1920 then some (.str (Str.ofString (toString i))) else none
  | _ => none
theorem cd_str : CallD X (.type "str") strD := by
  refine ⟨_, call_str_int, fun z C H ds u xs Q o dn g k => ?_⟩
  unfold strD at g
  split at g
  · obtain ⟨hz, rfl⟩ := ite_of g
    obtain ⟨v, e1, e2⟩ := dns1 dn
    rw [dn_int.mp e2] at e1
    exact ⟨_, e1, hz, k _ C H (Tr.refl o) (dn_str.mpr rfl)⟩
  · cases g
/-! ### y = x.pop(e), x an own list -/
theorem Dns.erase {K : PySem.W.Frag} {C : Hp} {pu : Addr} : ∀ {ds : List D} {xs : List V} (n : Nat), Dns K C pu ds xs → Dns K C pu (ds.eraseIdx n) (xs.eraseIdx n)
  | [], xs, n, h => by rw [dns_nil.mp h]; simp only [List.eraseIdx_nil]; exact dns_nil.mpr rfl
  | d :: ds, xs, n, h => by
    obtain ⟨v, r, rfl, e2, e3⟩ := dns_cons.mp h
    cases n with
    | zero => exact e3
    | succ n => exact dns_cons.mpr ⟨v, _, rfl, e2, Dns.erase n e3⟩
def mPopAt (rs : List Nat) (i j : Nat) (m : ME) : MS := fun E env => (∃ ds0, env[j]? = some (some (true, .lst ds0))) ∧ m (view rs 0 env) fun d => ∃ n ds y, d = .int n ∧ (aft rs d env)[j]? = some (some (true, .lst ds)) ∧ 0 ≤ n ∧ n ≤ 4000000 ∧ ds[n.toNat]? = some y ∧
  E.nx (((aft rs d env).set j (some (true, .lst (ds.eraseIdx n.toNat)))).set i (some (false, y)))
theorem pds_popAt (rs : List Nat) {i j : Nat} {x : Str} {py : Pos} {o e : Expr} {apos cpos : Pos} {me : ME} (hN : X.N.Nodup) (ho : PE X o (tVar j)) (h : PD X e me) (hi : X.N[i]? = some x := by rfl) (hx : Loc X.env.scope x := by first | exact Or.inl rfl | exact Or.inr rfl)
    (h1 : attributeBase o "pop" X.env (eval o X.env) = eval o X.env := by rfl)
    (h2 : ((((backTo cpos (starEach [e] X.env)).all fun x => !x.1) && ((backToKw cpos (keywordEach [] X.env)).all fun x => x.1.isSome) && decide (([e] : List Expr).length + ([] : List Keyword).length + (if ([] : List Keyword).isEmpty = true then 0 else 1) < 30)) = true) := by rfl)
    (h3 : (apos.endLine == cpos.line) = true := by rfl) (h4 : starEach [e] X.env = (false, eval e X.env) :: starEach [] X.env := by rfl) (h5 : ((backTo cpos (starEach [] X.env)).any fun x => x.1) = false := by rfl)
    (hs : swapsWith (.Call (.Attribute o "pop" apos) [e] [] cpos) (some (.Name x py)) pos.line X.env = pure false := by rfl)
    (hf : X.fn x = true ∨ X.env.scope.names.lookup x = some .local := by first | exact .inl rfl | exact .inr rfl) : PDS X (.Assign [.Name x py] (.Call (.Attribute o "pop" apos) [e] [] cpos) pos) (mPopAt rs i j me) := by
  refine ⟨fun z C0 H0 Cb => ps_imp (ps_set hN hi hx (pe_bm PySem.F.plainAttrs_list PySem.F.slot_list_pop PySem.F.type_list_pop mt_popAt ho (pa_cons h.run pa_nil h4) h1 h2 h3 h4 h5) hs hf) fun N σ H ⟨C, env, s, q⟩ => ?_,
    fun E E' env l ⟨q0, q⟩ => ⟨q0, h.mono _ _ _ (fun d ⟨n, ds, y, a, b, c, e, f, q⟩ => ⟨n, ds, y, a, b, c, e, f, l.nx _ q⟩) q⟩⟩
  obtain ⟨⟨ds0, h0⟩, q⟩ := q
  obtain ⟨a, _, xs, _, ea, _, eH, _⟩ := s.ownL j _ h0
  refine ⟨.ref a, ea, .inl ⟨rfl, xs, sq_of eH⟩, ?_⟩
  refine s.use rs h.mono q fun d v C' H' ⟨n, ds, y, e1, e2, e3, e4, e5, p⟩ s' dn => ?_
  subst e1
  obtain ⟨b, ds', ys, f1, f2, f3, f4, f5, f6⟩ := s'.ownL j _ e2
  rw [ea] at f2
  cases f2
  cases f1
  obtain ⟨w, g1, g2⟩ := f5.get e5
  have hw := (List.getElem?_eq_some_iff.mp g1).1
  refine ⟨a, ys, n, n.toNat, w, rfl, by rw [dn_int.mp dn], f4, by omega, by omega, ?_, g1, ?_⟩
  · unfold seqIndex?
    rw [if_neg (show ¬ n < 0 by omega)]
    simp only [Bool.and_eq_true, decide_eq_true_eq]
    rw [if_pos ⟨e3, by omega⟩]
  · exact p _ C' _ ((s'.write e2 ea (f5.erase n.toNat)).set i g2)
/-! ### several own things at once -/
theorem aftL_lf' {rs : List Nat} {ds : List D} {env : SEnv} (h : D.lfs ds = true) : aftL rs ds env = env := if_pos h
theorem Dns.split {K : PySem.W.Frag} {C : Hp} {pu : Addr} : ∀ {ds es : List D} {xs ys : List V}, xs.length = ds.length → Dns K C pu (ds ++ es) (xs ++ ys) → Dns K C pu ds xs ∧ Dns K C pu es ys
  | [], es, [], ys, _, h => ⟨dns_nil.mpr rfl, h⟩
  | [], es, x :: xs, ys, hl, _ => by simp at hl
  | d :: ds, es, [], ys, hl, _ => by simp at hl
  | d :: ds, es, x :: xs, ys, hl, h => by
    obtain ⟨v, r, e1, e2, e3⟩ := dns_cons.mp h
    cases e1
    obtain ⟨h1, h2⟩ := Dns.split (by simpa using hl) e3
    exact ⟨dns_cons.mpr ⟨_, _, rfl, e2, h1⟩, h2⟩
theorem two_own {K : PySem.W.Frag} {z : Pz} {C0 H0 Cb C H C2 H2 : Hp} {env : SEnv} {σ : L2.St} (s : SR K z C0 H0 Cb C env σ H) {i j : Nat} {a b : Addr} {ds es : List D} {xs ys : List V} (s2 : SR K z C0 H0 Cb C2 env σ H2)
    (ha : H a = none) (hb : H b = none) (hab : a ≠ b) (ca : C2 a = none) (cb : C2 b = none) (ga : H2 a = some (.lst xs)) (gb : H2 b = some (.lst ys)) (d1 : Dns K C2 z.p ds xs) (d2 : Dns K C2 z.p es ys) :
    SR K z C0 H0 Cb C2 ((env.set i (some (true, .lst ds))).set j (some (true, .lst es))) ((σ.set i (some (.ref a))).set j (some (.ref b))) H2 := by
  refine (s2.setOwn i ca ga d1 (s.tr.free ha) (s.fresh ha)).setOwn j cb gb d2 (s.tr.free hb) fun l e h1 h2 => ?_
  by_cases hl : l = i
  · subst hl
    have hlen : l < σ.length := by
      have := (List.getElem?_eq_some_iff.mp h2).1
      simpa using this
    rw [List.getElem?_set_self hlen] at h2
    cases h2
    exact absurd rfl hab
  · rw [List.getElem?_set_ne (Ne.symm hl)] at h1 h2
    exact s.fresh hb l e h1 h2
/-- x, y = e1, e2: two lists of one's own -/
def mPar2OO (rs : List Nat) (i j : Nat) (m1 m2 : MA) : MS := fun E env => m1 (view rs 0 env) fun ds => m2 (view rs 0 env) fun es => D.lfs (ds ++ es) = true ∧ E.nx ((env.set i (some (true, .lst ds))).set j (some (true, .lst es)))
theorem pds_par2OO (rs : List Nat) {i j : Nat} {st : Stmt} {m1 m2 : MA} {e1 e2 : Expr} (h1 : PDO X e1 m1) (h2 : PDO X e2 m2) (hp : PS X st (tPar i j (tCons (liftO X.K m1) (tCons (liftO X.K m2) tNil)))) : PDS X st (mPar2OO rs i j m1 m2) := by
  refine ⟨fun z C0 H0 Cb => ps_imp hp fun N σ H ⟨C, env, s, q⟩ => ?_, fun E E' env l q => h1.mono _ _ _ (fun ds q => h2.mono _ _ _ (fun es ⟨a, q⟩ => ⟨a, l.nx _ q⟩) q) q⟩
  refine ⟨z, _, _, s.okP rs, s.envP rs, h1.mono _ _ _ (fun ds q a xs C1 H1 t1 g1 g2 g3 dn => ⟨z, C1, _, t1.ok, (s.envP rs).mono t1.cc, h2.mono _ _ _ (fun es ⟨hlf, p⟩ b ys C2 H2 t2 k1 k2 k3 dn2 => ?_) q⟩) q⟩
  have hb : H b = none := t1.free k1
  have hab : a ≠ b := fun e => by rw [e, k1] at g3; cases g3
  have na : a ≠ z.p ∧ a ≠ z.g := ⟨fun e => s.tr.ok.pur.pn (e ▸ g1), fun e => s.tr.ok.pur.gn (e ▸ g1)⟩
  have ga : H2 a = some (.lst xs) := t2.keep a _ g3 na.1 na.2
  have ca : C2 a = none := (t2.new a (by rw [g3]; exact fun q => nomatch q)).trans g2
  obtain ⟨C3, s3, dns, hc⟩ := s.after rs (t1.trans t2) ((dn.mono t2.cc).app dn2)
  rw [aftL_lf' hlf] at s3
  obtain ⟨d1, d2⟩ := Dns.split dn.len dns
  exact ⟨.ref a, .ref b, rfl, p _ C3 H2 (two_own s s3 g1 hb hab (hc a ca) (hc b k2) ga k3 d1 d2)⟩
/-- x, y = e1, e2: x a list of one's own, y shared -/
def mPar2OV (rs : List Nat) (i j : Nat) (m1 : MA) (m2 : ME) : MS := fun E env => m1 (view rs 0 env) fun ds => m2 (view rs 0 env) fun d => D.lfs (ds ++ [d]) = true ∧ E.nx ((env.set i (some (true, .lst ds))).set j (some (false, d)))
theorem pds_par2OV (rs : List Nat) {i j : Nat} {st : Stmt} {m1 : MA} {m2 : ME} {e1 e2 : Expr} (h1 : PDO X e1 m1) (h2 : PD X e2 m2) (hp : PS X st (tPar i j (tCons (liftO X.K m1) (tCons (lift X.K m2) tNil)))) : PDS X st (mPar2OV rs i j m1 m2) := by
  refine ⟨fun z C0 H0 Cb => ps_imp hp fun N σ H ⟨C, env, s, q⟩ => ?_, fun E E' env l q => h1.mono _ _ _ (fun ds q => h2.mono _ _ _ (fun es ⟨a, q⟩ => ⟨a, l.nx _ q⟩) q) q⟩
  refine ⟨z, _, _, s.okP rs, s.envP rs, h1.mono _ _ _ (fun ds q a xs C1 H1 t1 g1 g2 g3 dn => lift_use h2.mono t1.ok ((s.envP rs).mono t1.cc) q fun d v C2 H2 ⟨hlf, p⟩ t2 dn2 => ?_) q⟩
  have na : a ≠ z.p ∧ a ≠ z.g := ⟨fun e => s.tr.ok.pur.pn (e ▸ g1), fun e => s.tr.ok.pur.gn (e ▸ g1)⟩
  have ga : H2 a = some (.lst xs) := t2.keep a _ g3 na.1 na.2
  have ca : C2 a = none := (t2.new a (by rw [g3]; exact fun q => nomatch q)).trans g2
  obtain ⟨C3, s3, dns, hc⟩ := s.after rs (t1.trans t2) ((dn.mono t2.cc).app (Dns.one dn2))
  rw [aftL_lf' hlf] at s3
  obtain ⟨d1, d2⟩ := Dns.split dn.len dns
  obtain ⟨v', f1, f2⟩ := dns1 d2
  cases f1
  exact ⟨.ref a, v, rfl, p _ C3 H2 ((s3.setOwn i (hc a ca) ga d1 (s.tr.free g1) (s.fresh g1)).set j f2)⟩
/-- list(e) -/
def moList (m : ME) : MA := fun env Q => m env fun d => ∃ ds, listD [d] = some (.lst ds) ∧ Q ds
theorem pdo_list {e : Expr} {p : Pos} {me : ME} (h : PD X e me) (hm : X.mg "list" = none) (hg : Gl X "list" := by rfl) (he : starEach [e] X.env = (false, eval e X.env) :: starEach [] X.env := by rfl) (hpl : (backTo pos (starEach [] X.env)).any (·.1) = false := by rfl) :
    PDO X (.Call (.Name "list" p) [e] [] pos) (moList me) := by
  refine ⟨pe_imp (pe_callTy call_list_of hg hm boot_list (pa_cons h.run pa_nil he) (by decide) (by decide) he hpl) fun σ H Q q => ?_, fun env Q Q' i q => h.mono _ _ _ (fun d ⟨ds, a, q⟩ => ⟨ds, a, i _ q⟩) q⟩
  obtain ⟨z, C, env, o, r, q⟩ := q
  refine lift_use h.mono o r q fun d v C' H' ⟨ds, g, p⟩ t dn => ?_
  cases d with
  | lst ds' =>
    cases g
    obtain ⟨a, ys, f1, f2, f3⟩ := dn_lst.mp dn
    subst f1
    refine ⟨a, ys, rfl, .inl (ex_l t.ok.ex (sq_of f2)), fun l hl => ?_⟩
    exact p l ys C' _ (t.trans (Tr.ext t.ok (Ex.new hl))) (t.free hl) (fresh_back t.ok.ex hl) upd_same f3
  | tup ds' =>
    cases g
    obtain ⟨a, ys, f1, f2, f3⟩ := dn_tup dn
    subst f1
    refine ⟨a, ys, rfl, .inr (ex_t t.ok.ex f2), fun l hl => ?_⟩
    exact p l ys C' _ (t.trans (Tr.ext t.ok (Ex.new hl))) (t.free hl) (fresh_back t.ok.ex hl) upd_same f3
  | _ => cases g
end
end BV

/-! x[::-1] of lists and tuples. -/
namespace BV
open PySem PySem.Spec PyProof.Rows L2 Evl

theorem back_places (n : Nat) : Builtin.Slice.sliceAdjust none none (-1) (n : Int) = ((n : Int) - 1, -1) ∧ Builtin.Slice.slicePlaces ((n : Int) - 1) (-1) (-1) = n := by
  constructor
  · rfl
  · unfold Builtin.Slice.slicePlaces
    rw [if_neg (by decide)]
    by_cases h : n = 0
    · subst h
      rfl
    · rw [if_pos (by omega)]
      have : ((n : Int) - 1 - -1 - 1) / (- -1) + 1 = n := by
        rw [show (- -1 : Int) = 1 from rfl, Int.ediv_one]
        omega
      rw [this]
      rfl
theorem back_pick (xs : Array Value) : ((List.range xs.size).filterMap fun (m : Nat) => xs[(((xs.size : Nat) : Int) - 1 + (m : Int) * (-1)).toNat]?) = xs.toList.reverse := by
  apply List.ext_getElem?
  intro i
  have e : ∀ m ∈ List.range xs.size, xs[(((xs.size : Nat) : Int) - 1 + (m : Int) * (-1)).toNat]? = some (xs.toList.reverse.getD m .none) := by
    intro m hm
    have hm' : m < xs.size := List.mem_range.mp hm
    have h1 : (((xs.size : Nat) : Int) - 1 + (m : Int) * (-1)).toNat = xs.size - 1 - m := by omega
    rw [h1, List.getD_eq_getElem?_getD, List.getElem?_reverse (by simpa using hm'), Array.length_toList, Array.getElem?_toList, Array.getElem?_eq_getElem (by omega)]
    rfl
  have h2 : ((List.range xs.size).filterMap fun (m : Nat) => xs[(((xs.size : Nat) : Int) - 1 + (m : Int) * (-1)).toNat]?) = (List.range xs.size).map fun m => xs.toList.reverse.getD m .none := by
    have gen : ∀ (l : List Nat) (f : Nat → Option Value) (g : Nat → Value), (∀ m ∈ l, f m = some (g m)) → l.filterMap f = l.map g := by
      intro l f g
      induction l with
      | nil => intro _; rfl
      | cons a l ih =>
        intro hl
        rw [List.filterMap_cons, hl a (by simp), List.map_cons, ih fun m hm => hl m (by simp [hm])]
    exact gen _ _ _ e
  rw [h2, List.getElem?_map]
  by_cases hi : i < xs.size
  · rw [List.getElem?_range hi]
    show some (xs.toList.reverse.getD i .none) = _
    rw [List.getD_eq_getElem?_getD, List.getElem?_eq_getElem (by simpa using hi)]
    rfl
  · rw [List.getElem?_eq_none (by simpa using hi), List.getElem?_eq_none (by simpa using hi)]
    rfl
section
variable {prog : Program} {w : World} {A : Around} {E : Value → Shared → Prop} {s : Shared}
/-- a tuple turned about -/
theorem tuple_back {t sl : Addr} {items : Array Value} {vl vu vs : Value} {Q : Value → Shared → Prop} (ht : IsTup s.heap t items) (hs : s.heap.IsSliceOf sl vl vu vs) (pl : IsPart vl none) (pu : IsPart vu none) (ps : IsPart vs (some (-1))) (hz : items.size ≤ sizeLine)
    (h : Q (.ref s.heap.objs.size) { s with heap := s.heap.push { cls := .type "tuple", data := .seq items.toList.reverse.toArray } }) : wpAny (model prog w) A (getItem (.ref t) (.ref sl)) Q E s := by
  obtain ⟨so, hso, hsc, hsd⟩ := id hs
  have isSl : s.TypeIs (.ref sl) "slice" := ⟨so, hso, hsc⟩
  have okLen : sizeOk (.seq items.toList.reverse.toArray) := by
    show items.toList.reverse.toArray.size ≤ sizeLine
    simpa using hz
  unfold getItem
  try with_reducible refine wpAny_holding ?_
  first | refine wpAny_bind (wpAny_pure ?_) | skip
  refine wpAny_bind (wpAny_sequenceKey ht.typeIs (by decide) (wpAny_bind (wpAny_callSpecial?_slot (name := Str.ofString "__getitem__") ht.typeIs PyProof.Rows.slot_tuple_getitem (wpAny_call_entry PyProof.Rows.slot_tuple_getitem ht.typeIs PyProof.Rows.entry_tuple_getitem ?_ (PyProof.Rows.args_tuple_getitem _ _)))))
  show wpAny _ _ (Builtin.Tuple.tupleItemsOf (.ref t) >>= _) _ _ s
  refine wpAny_bind (PyProof.Rows.tupleItemsOf_ ht (wpAny_bind (wpAny_typeOf isSl ?_)))
  rw [if_pos (by decide)]
  have app : ∀ {R : Int × Int × Nat → Shared → Prop}, R ((items.size : Int) - 1, -1, items.size) s → wpAny (model prog w) A.in1 (Builtin.Slice.sliceApplied (.ref sl) (pure (items.size : Int))) R E s := fun {R} hR => by
    unfold Builtin.Slice.sliceApplied Builtin.Slice.sliceFields
    refine wpAny_bind (wpAny_bind (wpAny_field hso hsd (x := vl) rfl (wpAny_bind (wpAny_field hso hsd (x := vu) rfl (wpAny_bind (wpAny_field hso hsd (x := vs) rfl (wpAny_pure ?_)))))))
    refine wpAny_bind (HT.slicePart_ ps ?_)
    show wpAny _ _ (if ((-1 : Int) == 0) = true then _ else _) _ _ s
    rw [if_neg (by decide)]
    refine wpAny_bind (HT.slicePart_ pl (wpAny_bind (HT.slicePart_ pu (wpAny_bind (wpAny_pure (wpAny_pure ?_))))))
    show R ((Builtin.Slice.sliceAdjust none none (-1) (items.size : Int)).1, -1, Builtin.Slice.slicePlaces (Builtin.Slice.sliceAdjust none none (-1) (items.size : Int)).1 (Builtin.Slice.sliceAdjust none none (-1) (items.size : Int)).2 (-1)) s
    rw [(back_places items.size).1]
    show R ((items.size : Int) - 1, -1, Builtin.Slice.slicePlaces ((items.size : Int) - 1) (-1) (-1)) s
    rw [(back_places items.size).2]
    exact hR
  refine wpAny_bind (app ?_)
  have notAll : ¬ ((((items.size : Int) - 1 == 0) && ((-1 : Int) == 1) && (items.size == items.size)) = true) := by
    intro q
    rw [Bool.and_eq_true, Bool.and_eq_true] at q
    exact absurd (eq_of_beq q.1.2) (by decide)
  show wpAny _ _ (if (((items.size : Int) - 1 == 0) && ((-1 : Int) == 1) && (items.size == items.size)) = true then _ else _) _ _ s
  rw [if_neg notAll, back_pick]
  first
    | exact wpAny_bind (m := Builtin.Tuple.tupleExact _) (wpAny_newObj_type (wpAny_pure ⟨_, rfl, wpAny_pure h⟩) okLen)
    | exact wpAny_bind (wpAny_bind (m := Builtin.Tuple.tupleExact _) (wpAny_newObj_type (wpAny_pure ⟨_, rfl, wpAny_pure h⟩) okLen))
    | exact wpAny_bind (wpAny_bind (m := Builtin.Tuple.tupleExact _) (wpAny_newObj_type (wpAny_pure (wpAny_pure ⟨_, rfl, wpAny_pure h⟩)) okLen))
end
section
variable {X : Cx}
/-- x[::-1] -/
def tBack (K : PySem.W.Frag) (te : TE) : TE := fun σ H Q => te σ H fun x H1 => ∃ a xs, x = .ref a ∧ ((SqL K H1 a xs ∧ ∀ p, H1 p = none → Q (.ref p) (upd H1 p (.lst xs.reverse))) ∨ (SqT K H1 a xs ∧ ∀ p ob, ob.dict = none → H1 p = none → Q (.ref p) (upd H1 p (.frz ob (.tup xs.reverse)))))
theorem pe_back {e : Expr} {te : TE} {k : Nat} {p1 p2 p3 pos : Pos} (he : PE X e te) : PE X (.Subscript e (.Slice none none (some (.UnaryOp .USub (.Constant (.int 1) k p1) p2)) p3) pos) (tBack X.K te) := by
  have minus : PO X (some (.UnaryOp .USub (.Constant (.int 1) k p1) p2)) (tPart (tUn (rU fun i => .int (-i)) (tC (.int 1)))) := po_some (pe_un un_neg pe_int)
  refine ⟨fun pins s0 σ H0 Q I0 h => Subscript_ (thn (he.run pins s0 σ H0 _ I0 h) fun v s1 ⟨x, H1, I1, r1, a, xs, ex, way⟩ => ?_)⟩
  subst ex
  cases r1
  refine wpAny_Slice (thn (po_none.run pins s1 σ H1 (fun o H2 => o = none ∧ H2 = H1) I1 ⟨rfl, rfl⟩) fun vl s2 ⟨o2, H2, I2, pl, eo2, eh2⟩ => thn (po_none.run pins s2 σ H2 (fun o H3 => o = none ∧ H3 = H2) I2 ⟨rfl, rfl⟩) fun vu s3 ⟨o3, H3, I3, pu, eo3, eh3⟩ =>
    thn (minus.run pins s3 σ H3 (fun o H4 => o = some (-1) ∧ H4 = H3) I3 ⟨1, rfl, -1, rfl, rfl, rfl⟩) fun vs s4 ⟨o4, H4, I4, ps, eo4, eh4⟩ => ?_)
  subst eo2 eh2 eo3 eh3 eo4 eh4
  have I5 : Inv X pins σ H4 { s4 with heap := s4.heap.push { cls := .type "slice", data := .fields #[vl, vu, vs] } } := I4.kept (t' := s4.toks) fun _ _ z => Heap.get?_push_of_some _ z
  have slAt : ({ s4 with heap := s4.heap.push { cls := .type "slice", data := .fields #[vl, vu, vs] } } : Shared).heap.IsSliceOf s4.heap.objs.size vl vu vs := Heap.IsSliceOf.new _ vl vu vs
  show wpAny (model X.prog X.w) X.A (subscriptTail e (.Slice none none (some (.UnaryOp .USub (.Constant (.int 1) k p1) p2)) p3) (.ref a) (.ref s4.heap.objs.size)) (EP X pins σ Q) X.xe { s4 with heap := s4.heap.push { cls := .type "slice", data := .fields #[vl, vu, vs] } }
  rcases way with ⟨hq, q⟩ | ⟨hq, q⟩
  · obtain ⟨its, rv, pl', hz⟩ := I5.list hq
    have hlen := rv.length
    refine tail_any (ops := [.ref a, .ref s4.heap.objs.size]) pl'.isList.typeIs (PySem.slot_list_getitem.lookup) ?_ (by with_unfolding_all rfl)
    refine wpAny_getItem_list_slice pl'.isList slAt pl pu ps (by decide) ?_ (by rw [List.size_toArray]; omega)
    rw [PySem.W.krv_pick]
    refine ⟨.ref _, _, I5.laid (t' := s4.toks) (o := .lst xs.reverse) (fun _ _ z => Heap.get?_push_of_some _ z) (Nat.le_refl _) ?_, rfl, q _ (I5.hok.fresh (Nat.le_refl _))⟩
    exact ⟨by simpa using hz, _, 0, rv.reverse, Heap.get?_push_size _ rfl⟩
  · obtain ⟨its, rv, pt, hz⟩ := I5.tuple hq
    have hlen := rv.length
    refine tail_any (ops := [.ref a, .ref s4.heap.objs.size]) pt.typeIs (PyProof.Rows.slot_tuple_getitem.lookup) ?_ (by with_unfolding_all rfl)
    refine tuple_back pt slAt pl pu ps (by rw [List.size_toArray]; omega) ?_
    refine ⟨.ref _, _, I5.laid (t' := s4.toks) (o := .frz { cls := .type "tuple", data := .seq its.toArray.toList.reverse.toArray } (.tup xs.reverse)) (fun _ _ z => Heap.get?_push_of_some _ z) (Nat.le_refl _) ?_, rfl, q _ _ rfl (I5.hok.fresh (Nat.le_refl _))⟩
    exact ⟨Heap.get?_push_size _ rfl, by simpa using hz, its.reverse, rv.reverse, ⟨_, Heap.get?_push_size _ rfl, rfl, _, rfl⟩⟩
theorem Dns.rev {K : PySem.W.Frag} {C : Hp} {pu : Addr} : ∀ {ds : List D} {xs : List V}, Dns K C pu ds xs → Dns K C pu ds.reverse xs.reverse
  | [], xs, h => by rw [dns_nil.mp h]; exact dns_nil.mpr rfl
  | d :: ds, xs, h => by
    obtain ⟨v, r, rfl, e2, e3⟩ := dns_cons.mp h
    rw [List.reverse_cons, List.reverse_cons]
    exact (Dns.rev e3).app (Dns.one e2)
def backD : D → Option D
  | .lst ds => some (.lst ds.reverse)
  | .tup ds => some (.tup ds.reverse)
  | _ => none
def mBack (m : ME) : ME := fun env Q => m env fun d => ∃ u, backD d = some u ∧ Q u
theorem pd_back {e : Expr} {m : ME} {k : Nat} {p1 p2 p3 pos : Pos} (h : PD X e m) : PD X (.Subscript e (.Slice none none (some (.UnaryOp .USub (.Constant (.int 1) k p1) p2)) p3) pos) (mBack m) := by
  refine ⟨pe_imp (pe_back h.run) fun σ H Q q => ?_, fun env Q Q' i q => h.mono _ _ _ (fun d ⟨u, a, q⟩ => ⟨u, a, i _ q⟩) q⟩
  obtain ⟨z, C, env, o, r, q⟩ := q
  refine lift_use h.mono o r q fun d v C' H' ⟨u, g, p⟩ t dn => ?_
  cases d with
  | lst ds =>
    cases g
    obtain ⟨a, xs, e1, e2, e3⟩ := dn_lst.mp dn
    exact ⟨a, xs, e1, .inl ⟨ex_l t.ok.ex (sq_of e2), fun l hl => p _ _ _ (t.trans (Tr.put t.ok hl)) (dn_new_lst e3.rev (fresh_back t.ok.ex hl))⟩⟩
  | tup ds =>
    cases g
    obtain ⟨a, xs, e1, e2, e3⟩ := dn_tup dn
    exact ⟨a, xs, e1, .inr ⟨ex_t t.ok.ex e2, fun l ob hd hl => p _ _ _ (t.trans (Tr.put t.ok hl)) (dn_new_tup e3.rev (fresh_back t.ok.ex hl) hd)⟩⟩
  | _ => cases g
end
end BV

/-! Sets of words: adding, sorting. -/
namespace BV
open PySem PySem.Spec PyProof.Rows L2 Evl

/-- at a stands a set of the words l, which can be walked -/
def SetS (P : Program) (w : World) (h : Heap) (a : Addr) (l : List Str) : Prop :=
  ∃ D : Froz.SD, h.get? a = some (Froz.sObj "set" D) ∧ Froz.TxOk P w D l ∧ l.Nodup ∧ l.length < scanBound ∧ Ris D.2.2.place.toList ∧ (w.params.followText "set-order" = true ∨ D.2.2.led = true)
section
variable {P : Program} {w : World} {A : Around} {E : Value → Shared → Prop} {s : Shared} {a : Addr} {l : List Str}
theorem SetS.at {h h' : Heap} (R : SetS P w h a l) (k : ∀ o, h.get? a = some o → h'.get? a = some o) : SetS P w h' a l := by
  obtain ⟨D, e, r⟩ := R
  exact ⟨D, k _ e, r⟩
theorem place_off (t : SetTable) (h1 : Ris t.place.toList) : Ris (if t.plain = true then { t with plain := false } else t).place.toList := by
  split <;> exact h1
theorem led_off (t : SetTable) : (if t.plain = true then { t with plain := false } else t).led = t.led := by
  split <;> rfl
theorem add_walks {D : Froz.SD} {h : Int} {v : Value} (r : Ris D.2.2.place.toList) (hl : w.params.followText "set-order" = true ∨ D.2.2.led = true) :
    Ris (Froz.addTx h v D).2.2.place.toList ∧ (w.params.followText "set-order" = true ∨ (Froz.addTx h v D).2.2.led = true) := by
  have r1 := layNew_ris D.2.2 D.1 h v r
  have l1 := layNew_led D.2.2 D.1 h v
  unfold Froz.addTx Froz.tailTx
  generalize layNew D.2.2 D.1 h v = Z at r1 l1 ⊢
  obtain ⟨es1, t1, wasDummy, gave⟩ := Z
  dsimp only at r1 l1 ⊢
  have r2 := place_off t1 r1
  have l2 := led_off t1
  generalize (if t1.plain = true then { t1 with plain := false } else t1) = t2 at r2 l2 ⊢
  split
  · exact ⟨relayAll_ris _ _ _, hl.imp id fun z => by rw [relayAll_led, l2, l1]; exact z⟩
  · exact ⟨r2, hl.imp id fun z => by show t2.led = true; rw [l2, l1]; exact z⟩
theorem setS_add {x : Str} {tk : Tok} {Q : Value → Shared → Prop} (R : SetS P w s.heap a l) (room : l.length + 1 < scanBound)
    (hQ : ∀ h', (∀ b o, b ≠ a → s.heap.get? b = some o → h'.get? b = some o) → SetS P w h' a (if x ∈ l then l else x :: l) → Q .none { s with heap := h', toks := s.toks + 1 }) :
    wpAny (model P w) A (call (.builtin "set.add") [.ref a, .str x tk]) Q E s := by
  obtain ⟨⟨es, ep, t⟩, ho, F, nd, hb, r, hl⟩ := R
  have isSet : s.TypeIs (.ref a) "set" := ⟨_, ho, rfl⟩
  have isX := Froz.is_str (P := P) (w := w) x tk
  refine wpAny_call_entry PySem.F.slot_set_add isSet PySem.F.entry_set_add ?_ (PySem.F.args_set_add_2 _ _)
  unfold Builtin.«set.add» Builtin.Frozenset.oneOther
  simp only [List.isEmpty_nil, bind_assoc]
  unfold Builtin.Frozenset.addrOf setAdd
  refine wpAny_bind (wpAny_pure ?_)
  try dsimp only
  refine wpAny_bind (wpAny_pure ?_)
  try dsimp only
  refine wpAny_bind (wpAny_holding (wpAny_bind ((strKind P w).pyHash isX ?_)))
  by_cases hx : x ∈ l
  · -- it is there
    obtain ⟨e, he, his⟩ := (F.mem x).mp hx
    unfold setAddHashed setAddHashedIn
    refine wpAny_holding (wpAny_bind (wpAny_setState_of (s := { s with toks := s.toks + 1 }) ho rfl F.fit ?_))
    dsimp only
    rw [byScan_of rfl (by have hs : es.size = l.length := F.sz; rw [hs]; exact hb) F.el]
    simp only [↓reduceIte]
    unfold setAddByScan
    refine wpAny_bind (wpAny_bind (wpAny_rule (wpAny_bind (wpAny_setScan_of (knd := strKind P w) (k := x) isX ho rfl F.fit F.el ?_))))
    cases hf : List.findIdx? (fun e => (strKind P w).is x e.2) es.toList with
    | none => exact absurd his (by have := List.findIdx?_eq_none_iff.mp hf e he; simpa using this)
    | some j =>
      dsimp only
      refine wpAny_pure (wpAny_pure ?_)
      have q := hQ s.heap (fun _ _ _ z => z) (by rw [if_pos hx]; exact ⟨(es, ep, t), ho, F, nd, hb, r, hl⟩)
      exact wpAny_pure ⟨_, rfl, q⟩
  · show wpAny _ _ (setAddHashed a (.str x tk) (hashStr w x)) _ _ _
    refine Froz.add_x (s := { s with toks := s.toks + 1 }) ho F hx room ?_
    obtain ⟨r2, l2⟩ := add_walks (h := hashStr w x) (v := .str x tk) r hl
    have q := hQ (s.heap.update a fun _ => Froz.sObj "set" (Froz.addTx (hashStr w x) (.str x tk) (es, ep, t))) (fun b o hb z => by exact PySem.Heap.get?_update_of_ne _ (Ne.symm hb) z) (by
      rw [if_neg hx]
      exact ⟨_, Froz.get_upd _ ho rfl, Froz.add_ok tk F, List.nodup_cons.mpr ⟨hx, nd⟩, room, r2, l2⟩)
    exact wpAny_pure ⟨_, rfl, q⟩
theorem strs_of : ∀ (vs : List Value) (f : Value → Str), (∀ v ∈ vs, ∃ tk, v = .str (f v) tk) → StrsAre vs (vs.map f)
  | [], f, _ => .nil
  | v :: vs, f, h => by
    obtain ⟨tk, e⟩ := h v (by simp)
    have r := strs_of vs f fun u hu => h u (by simp [hu])
    rw [List.map_cons]
    generalize f v = x at e ⊢
    rw [e]
    exact .cons x tk r
theorem perm_of_sub : ∀ {l m : List Str}, l.Nodup → (∀ x ∈ l, x ∈ m) → m.length ≤ l.length → l.Perm m
  | [], m, _, _, h => by
    have : m = [] := List.eq_nil_of_length_eq_zero (by simpa using h)
    rw [this]
  | a :: l, m, nd, sub, h => by
    obtain ⟨na, nd'⟩ := List.nodup_cons.mp nd
    have ha := sub a (by simp)
    have p := List.perm_cons_erase ha
    refine (List.Perm.cons a (perm_of_sub nd' (fun x hx => ?_) ?_)).trans p.symm
    · exact (List.mem_erase_of_ne (fun e => na (by rw [← e]; exact hx))).mpr (sub x (by simp [hx]))
    · have := p.length_eq
      simp only [List.length_cons] at this h
      omega
def wordV : Value → Str
  | .str x _ => x
  | _ => Str.empty
theorem is_word {P : Program} {w : World} {k : Str} {v : Value} (h : (PySem.strKind P w).is k v = true) : ∃ tk, v = .str k tk := by
  have h : Value.isStrOf k v = true := h
  cases v with
  | str y t =>
    have e : y = k := by simpa [Value.isStrOf] using h
    exact ⟨t, by rw [e]⟩
  | _ => exact absurd h Bool.false_ne_true
/-- sorted of a set of words -/
theorem sorted_setS {Q : Value → Shared → Prop} (R : SetS P w s.heap a l) (hh : A.handled = none) (h64 : l.length < 64)
    (hQ : ∀ s' p (out : Array Value) (c : Nat) (ys : List Str), (∀ b o, s.heap.get? b = some o → s'.heap.get? b = some o) → s'.gens = s.gens → s'.os = s.os → s.heap.objs.size ≤ p →
      s'.heap.get? p = some (seqObj "list" out c) → StrsAre out.toList ys → ys.Perm l → sortedS ys = true → Q (.ref p) s') :
    wpAny (model P w) A (call (.builtin "sorted") [.ref a]) Q E s := by
  obtain ⟨⟨es, ep, t⟩, ho, F, nd, hb, r, hl⟩ := R
  have szl : es.size = l.length := F.sz
  refine Calls.call_function_entry kind_sorted plain_sorted entry_sorted (args_sorted1 _) ?_
  unfold Builtin.«sorted»
  refine wpAny_bind (m := checkCount "sorted" 1 1 _) (wpAny_pure ?_)
  refine wpAny_bind (collect_set (A := A.in1) (es := es) (ep := ep) (t := t) hh ⟨_, ho, rfl, rfl⟩ F.fit (by rw [szl]; exact hb) r hl fun s1 vs k1 hz g1 o1 pm => ?_)
  have len : vs.length = l.length := by rw [pm.length_eq, List.length_map, Array.length_toList, szl]
  have shape : ∀ e ∈ es.toList, ∃ tk, e.2 = .str (wordV e.2) tk := fun e he => by
    obtain ⟨⟨k, hk, _⟩, _⟩ := F.el e he
    obtain ⟨tk, e1⟩ := is_word hk
    exact ⟨tk, by rw [e1]; rfl⟩
  have words : StrsAre vs (vs.map wordV) := strs_of vs wordV fun v hv => by
    obtain ⟨e, he, rfl⟩ := List.mem_map.mp (pm.mem_iff.mp hv)
    exact shape e he
  have pw : l.Perm (vs.map wordV) := perm_of_sub nd (fun x hx => by
    obtain ⟨e, he, hk⟩ := (F.mem x).mp hx
    obtain ⟨tk, e1⟩ := is_word hk
    refine List.mem_map.mpr ⟨e.2, pm.mem_iff.mpr (List.mem_map.mpr ⟨e, he, rfl⟩), by rw [e1]; rfl⟩) (by rw [List.length_map, len]; exact Nat.le_refl _)
  refine wpAny_bind (wpAny_newList ?_ (by rw [len, sizeLine_eq]; omega))
  have lstAt : (s1.heap.push (seqObj "list" vs.toArray 0)).get? s1.heap.objs.size = some (seqObj "list" vs.toArray 0) := Heap.get?_push_size _ rfl
  refine wpAny_bind (wpAny_holding (wpAny_call_entry slot_list_sort ⟨_, lstAt, rfl⟩ entry_list_sort (list_sort_treeK strKind_oneLt lstAt words.keysOf (fun v₁ v₂ rest e => keyKind_strs (by rw [← e]; exact words)) (by rw [len]; exact h64) fun st' a1 a2 => ⟨_, rfl, ?_⟩) (args_list_sort _)))
  obtain ⟨ys, b1, b2, b3⟩ := sorted_out_str words a1 a2
  obtain ⟨c, hc⟩ := sortedHeap_at (vs := vs) (out := (arrOf st').map (·.2)) lstAt
  refine wpAny_pure ⟨_, rfl, hQ _ s1.heap.objs.size _ c ys (fun b u e => ?_) g1 o1 hz hc b1 (b2.trans pw.symm) b3⟩
  have old := k1 b u e
  have lt := Heap.lt_size old
  show (sortedHeap (s1.heap.push (seqObj "list" vs.toArray 0)) s1.heap.objs.size vs ((arrOf st').map (·.2))).get? b = some u
  rw [sortedHeap_old (Nat.ne_of_lt lt) (by rw [size_push']; exact Nat.lt_succ_of_lt lt)]
  exact Heap.get?_push_of_some _ old
end
/-! ### on the tracked heap -/
def SetSO (P : Program) (w : World) (a : Addr) (l : List Str) : HO := .ext fun h => SetS P w h a l
theorem setSO_new {P : Program} {w : World} {H : Hp} {h : Heap} {a : Addr} {l : List Str} (R : SetS P w h a l) : ObjOk P w H h a (SetSO P w a l) := by
  have ⟨D, e, _⟩ := R
  exact ⟨R, ⟨_, e⟩, fun h1 h2 p k => SetS.at p k⟩
section
variable {X : Cx}
def rSortedSS (P : Program) (w : World) : List V → Hp → VK → Prop := fun vs H Q => ∃ (a : Addr) (l : List Str), vs = [V.ref a] ∧ H a = some (SetSO P w a l) ∧ l.length < 64 ∧
  ∀ (ys : List Str) (p : Addr), ys.Perm l → sortedS ys = true → H p = none → Q (.ref p) (upd H p (.lst (ys.map V.str)))
theorem cr_sortedSS (hc : X.calm = true) : CallR X (.builtin "sorted") (rSortedSS X.prog X.w) := by
  intro pins s σ H vs us Q I r h
  obtain ⟨a, l, rfl, ha, h64, q⟩ := h
  have R : SetS X.prog X.w s.heap a l := (I.hok a _ ha).1
  rw [Vals.ref1 r]
  refine sorted_setS R (I.ok.hd hc) h64 fun s' p out c ys k g o hp hg hi hs hm => ?_
  have hlen : (ys.map V.str).length ≤ sizeLine := by rw [List.length_map, hs.length_eq, sizeLine_eq]; omega
  have fresh : H p = none := I.hok.fresh hp
  have J : Inv X pins σ (upd H p (.lst (ys.map V.str))) { s with heap := s'.heap, gens := s'.gens, drawn := s'.drawn, toks := s'.toks } :=
    I.call (ch := []) (Un.laid k hp fresh) (I.hok.laid k hp ⟨hlen, out.toList, c, vals_of_strs hi, hg⟩) (by rw [g]; exact I.bare) (fun _ z => nomatch z)
  have same : s' = { s with heap := s'.heap, gens := s'.gens, drawn := s'.drawn, toks := s'.toks } := by
    cases s'
    cases s
    cases o
    rfl
  rw [same]
  exact ⟨.ref p, _, J, rfl, q ys p hs hm fresh⟩
end
end BV

/-! {e for x in xs if t} of words. -/
namespace BV
open PySem PySem.Spec PyProof.Rows L2 Evl PpSet

section
variable {X : Cx}
theorem setSO_get {pins : List (Addr × Obj)} {σ : L2.St} {H : Hp} {s : Shared} {a : Addr} {l : List Str} (I : Inv X pins σ H s) (ha : H a = some (SetSO X.prog X.w a l)) : SetS X.prog X.w s.heap a l := (I.hok a _ ha).1
theorem add_word {pins : List (Addr × Obj)} {σ : L2.St} {H : Hp} {s : Shared} {E : Value → Shared → Prop} {D : Addr} {l : List Str} {y : Str} {tk : Tok} {Q : Value → Shared → Prop} (I : Inv X pins σ H s) (hD : H D = some (SetSO X.prog X.w D l)) (room : l.length + 1 < scanBound)
    (h : ∀ s', Inv X pins σ (upd H D (SetSO X.prog X.w D (if y ∈ l then l else y :: l))) s' → Q .none s') : wpAny (model X.prog X.w) X.A (call (.builtin "set.add") [.ref D, .str y tk]) Q E s :=
  setS_add (setSO_get I hD) room fun h' kp new => h _ (I.write (e := D) (t' := s.toks + 1) (by rw [hD]; trivial) (.inl rfl) (fun b u hb hu => kp b u hb hu) (let ⟨_, e, _⟩ := new; ⟨_, e⟩) (setSO_new new))
theorem empty_set {P : Program} {w : World} {h : Heap} {D : Addr} (e : h.get? D = some { cls := .type "set", dict := none, data := .set #[] 0 (.fresh 0 0 (!w.params.followText "set-order")) }) : SetS P w h D [] := by
  refine ⟨(#[], 0, .fresh 0 0 (!w.params.followText "set-order")), e, Froz.TxOk.nil (by rfl), List.nodup_nil, by decide, List.Pairwise.nil, ?_⟩
  show _ ∨ (!w.params.followText "set-order") = true
  cases w.params.followText "set-order"
  · exact .inr rfl
  · exact .inl rfl
/-- {elt for target in iter if ..}, elt a word; D the new set -/
def tSw (P : Program) (w : World) (wi : TI) (g : TG) (tt : TT) (te : TE) (vs : List Nat) : TE := fun σ H Q => wi σ H fun J H1 => ∀ D, H1 D = none → ∃ W : Nat → Nat → Hp → Prop, (∃ m, W 0 m (upd H1 D (SetSO P w D []))) ∧ ∀ i m H, W i m H →
  (J.stop i H ∧ Q (.ref D) H) ∨ (J.go i H ∧ ∃ Nx : Hp → Prop, (∀ H', Nx H' → ∃ m', m' < m ∧ W (i + 1) m' H') ∧ ∀ x H', J.yld i H x H' → g x (L2.wipe σ vs) H' fun σ2 H2 => L2.wipe σ2 vs = L2.wipe σ vs ∧ tt σ2 H2 fun b H3 =>
    if b = true then te σ2 H3 fun y H4 => ∃ (c : Str) (l : List Str), y = .str c ∧ H4 D = some (SetSO P w D l) ∧ l.length + 1 < scanBound ∧ Nx (upd H4 D (SetSO P w D (if c ∈ l then l else c :: l))) else Nx H3)
theorem pe_sw {elt tg iter : Expr} {ifs : List Expr} {scope : Scope} {own : List (Str × Nat)} {pos : Pos} {wi : TI} {g : TG} {tt : TT} {te : TE} (calm : X.calm = true) (nodup : X.N.Nodup) (over : PI X tg iter wi) (blk : BlkOk X.N X.env.scope scope own)
    (tgt : ∀ (s : Shared) (H : Hp) (C : Addr) (cl : List (Str × Addr)) (fp : List Addr), PG (X.blk s H scope (compEnvC scope cl C X.env) fp) tg g) (tst : ∀ (s : Shared) (H : Hp) (C : Addr) (cl : List (Str × Addr)) (fp : List Addr), PTs (X.blk s H scope (compEnvC scope cl C X.env) fp) ifs tt)
    (val : ∀ (s : Shared) (H : Hp) (C : Addr) (cl : List (Str × Addr)) (fp : List Addr), PE (X.blk s H scope (compEnvC scope cl C X.env) fp) elt te) (plain : ∀ x, foldedSetIterable iter X.env x = pure x := by intro _; rfl) :
    PE X (.SetComp elt [⟨tg, iter, ifs, 0⟩] scope pos) (tSw X.prog X.w wi g tt te (own.map (·.2))) := by
  refine ⟨fun pins s0 σ H0 Q I0 start => ?_⟩
  rw [eval_SetComp]
  have captured : ∀ y ∈ scope.names, y.2 = .free → ∃ c, X.env.cells.lookup y.1 = some c := fun y hy e => (blk.free y hy e).elim (fun k => I0.ok.has _ (.inl k)) fun k => I0.ok.has _ (.inr k)
  refine wpAny_comprehension_free (use := none) rfl plain (closure_ok captured) blk.kind (fun y hy e => by rw [blk.uniq y hy, e])
    (thn (over.run pins s0 σ H0 _ I0 start) fun xv s1 got => thn got fun itv s2 got2 => ?_)
  obtain ⟨it, fp, tn, J, H2, e, I2, T, at0, away, q⟩ := got2
  subst e
  refine newSet_ok (newEnv_comp ?_)
  -- the new set at D
  generalize atD : s2.heap.objs.size = D
  obtain ⟨W, ⟨m0, w0⟩, turn⟩ := q D (I2.hok.fresh (Nat.le_of_eq atD))
  generalize made : ({ s2 with heap := s2.heap.push { cls := .type "set", dict := none, data := .set #[] 0 (.fresh 0 0 (!X.w.params.followText "set-order")) } } : Shared) = s3
  have heap3 : s3.heap = s2.heap.push { cls := .type "set", dict := none, data := .set #[] 0 (.fresh 0 0 (!X.w.params.followText "set-order")) } := by rw [← made]
  have I3 : Inv X pins σ (upd H2 D (SetSO X.prog X.w D [])) s3 := by
    rw [← made]
    refine I2.laid (t' := s2.toks) (fun b o z => Heap.get?_push_of_some _ z) (Nat.le_of_eq atD) (setSO_new (empty_set ?_))
    rw [← atD]
    exact Heap.get?_push_size _ rfl
  have small : ∀ b ∈ fp, b < s2.heap.objs.size := fun b hb => let ⟨_, z, _⟩ := T.obj _ _ at0 b hb; Heap.lt_size z
  have away3 : ∀ b ∈ fp, FpOk X pins (upd H2 D (SetSO X.prog X.w D [])) b ∧ b < s3.heap.objs.size := fun b hb => by
    have lt := small b hb
    refine ⟨⟨?_, (away b hb).2⟩, by rw [heap3, Heap.size_push]; exact Nat.lt_succ_of_lt lt⟩
    rw [upd_ne (by rw [← atD]; exact Nat.ne_of_lt lt)]
    exact (away b hb).1
  have at3 : tn 0 s3.heap := T.keep _ _ _ at0 fun b _ o z => by rw [heap3]; exact Heap.get?_push_of_some _ z
  have I4 := block_start I3 blk nodup away3
  generalize cells : cellsFrom (s3.heap.objs.size + 1) scope.names (cloFrom X.env.cells scope.names []) = cl at I4 ⊢
  have tg' := tgt s3 (upd H2 D (SetSO X.prog X.w D [])) s3.heap.objs.size cl fp
  have ts' := tst s3 (upd H2 D (SetSO X.prog X.w D [])) s3.heap.objs.size cl fp
  have va' := val s3 (upd H2 D (SetSO X.prog X.w D [])) s3.heap.objs.size cl fp
  show codeAny _ _ (.compStart (.SetComp elt [⟨tg, iter, ifs, 0⟩] scope pos) 0 (.ref it) (.ref D) (compEnvC scope cl s3.heap.objs.size X.env)) (compPost (model X.prog X.w) X.A X.xe none (EP X pins σ Q) (.ref D) s3.heap.objs.size) { s3 with heap := pushCells (s3.heap.push { cls := .type "dict", data := .dict #[] }) scope.names }
  have none3 : ∀ b ∈ fp, (upd H2 D (SetSO X.prog X.w D [])) b = none := fun b hb => (away3 b hb).1.1
  generalize inner : compEnvC scope cl s3.heap.objs.size X.env = ce at I4 tg' ts' va' ⊢
  have itsLoc : ce.locals = s3.heap.objs.size := by subst inner; rfl
  generalize upd H2 D (SetSO X.prog X.w D []) = H3 at I3 I4 tg' ts' va' w0 none3 away3
  generalize opened : ({ s3 with heap := pushCells (s3.heap.push { cls := .type "dict", data := .dict #[] }) scope.names } : Shared) = s4 at I4 ⊢
  have at4 : tn 0 s4.heap := T.keep _ _ _ at3 fun b _ o z => by rw [← opened]; exact pushCells_keeps _ _ _ _ (Heap.get?_push_of_some _ z)
  have frames : ∀ {σ' : L2.St} {H' : Hp} {s' : Shared}, Inv (X.blk s3 H3 scope ce fp) [] σ' H' s' → (∀ b ∈ fp, H' b = none) → ∀ b ∈ fp, FpOk (X.blk s3 H3 scope ce fp) [] H' b := fun {σ' H' s'} J' hn b hb =>
    ⟨hn b hb, (J'.ok.exf b hb).1, J'.ok.exfs b hb, .inl hb, fun x c z => (J'.ok.exf b hb).2 x c z, fun p hp => absurd (show p ∈ ([] : List (Addr × Obj)) ++ [] from hp) (by simp)⟩
  have loop : codeAny (model X.prog X.w) X.A (.compLoop (.SetComp elt [⟨tg, iter, ifs, 0⟩] scope pos) 0 (.ref it) (.ref D) ce) (compPost (model X.prog X.w) X.A X.xe none (EP X pins σ Q) (.ref D) s3.heap.objs.size) s4 := by
    refine compLoopS_any (fun n s' => ∃ i H', Inv (X.blk s3 H3 scope ce fp) [] (L2.wipe σ (own.map (·.2))) H' s' ∧ tn i s'.heap ∧ (∀ b ∈ fp, H' b = none) ∧ W i n H') (fun n s5 ⟨i, H5, I5, at5, none5, w5⟩ => ?_) m0 ⟨0, H3, I4, at4, none3, w0⟩
    rcases turn i n H5 w5 with ⟨stop, result⟩ | ⟨go, Nx, less, step⟩
    · -- the end: back in the def
      refine thnF (T.done (X.blk s3 H3 scope ce fp) rfl rfl rfl calm i [] s5 _ H5 (fun _ _ => False) I5 (frames I5 none5) at5 stop) fun r s6 ⟨hr, I6⟩ => ?_
      subst hr
      have back : Inv X pins σ H5 s6 := I3.call' (ch := fp) I6.os I6.base I6.hok I6.bare fun b hb => ⟨(away3 b hb).1.2.2.2.1, (away3 b hb).1.2.1, (away3 b hb).1.2.2.2.2.1, (away3 b hb).1.2.2.2.2.2⟩
      have noLoc : H5 s3.heap.objs.size = none := itsLoc ▸ I6.free
      obtain ⟨m, names, _⟩ := I6.loc
      have names : s6.heap.Ns s3.heap.objs.size m := itsLoc ▸ (show s6.heap.Ns ce.locals m from names)
      obtain ⟨f0, f1, f2, f3, f4, f5⟩ := I3.fpOk (Nat.le_refl _) noLoc
      exact ⟨m, names, fun h'' sb => ⟨.ref D, H5, back.turned (t' := s6.toks) (fun b o hb z => (sb.2 b hb).trans z) f0 f1 f3 f4 f5, rfl, result⟩⟩
    · refine thnF (T.item (X.blk s3 H3 scope ce fp) rfl rfl rfl calm i [] s5 _ H5 (fun _ _ => False) I5 (frames I5 none5) at5 go) fun r s6 ⟨u, hr, got6⟩ => ?_
      subst hr
      refine thnF got6 fun _ s7 ⟨x, H7, I7, r7, y7, at7, none7⟩ => ?_
      refine thnF (tg'.run _ s7 _ H7 x u _ (I7.pinned (frames I7 none7) (T.obj _ _ at7)) r7 (step x H7 y7)) fun _ s8 ⟨σ8, H8, I8, same8, q8⟩ => thnF (ts'.run _ s8 σ8 H8 _ I8 q8) fun b s9 ⟨H9, I9, q9⟩ => ?_
      have turned : ∀ {s' : Shared} {H' : Hp}, Inv (X.blk s3 H3 scope ce fp) ([] ++ pinsAt fp s7.heap) σ8 H' s' → Nx H' → ∃ m, m < n ∧ ∃ i H', Inv (X.blk s3 H3 scope ce fp) [] (L2.wipe σ (own.map (·.2))) H' s' ∧ tn i s'.heap ∧ (∀ b ∈ fp, H' b = none) ∧ W i m H' := fun {s' H'} J' nx => by
        obtain ⟨m', lt, w'⟩ := less H' nx
        have pinned : ∀ b ∈ fp, ∀ o, s7.heap.get? b = some o → s'.heap.get? b = some o ∧ H' b = none := fun b hb o z =>
          let k := J'.pin (b, o) (List.mem_append_right _ (List.mem_append_right _ (mem_pinsAt hb z)))
          ⟨k.1, k.2.1⟩
        refine ⟨m', lt, i + 1, H', (J'.unpinned (pins := [])).weak (by rw [← same8, wipe_length]) (fun j v z => (wipe_some (same8 ▸ z)).1), T.keep _ _ _ at7 fun b hb o z => (pinned b hb o z).1, fun b hb => ?_, w'⟩
        obtain ⟨o, z, _⟩ := T.obj _ _ at7 b hb
        exact (pinned b hb o z).2
      cases b with
      | false =>
        simp only [Bool.false_eq_true, if_false] at q9 ⊢
        exact turned I9 q9
      | true =>
        simp only [if_true] at q9 ⊢
        refine thnF (va'.run _ s9 σ8 H9 _ I9 q9) fun v s10 ⟨yv, H10, I10, r10, c, l, ey, hD10, room, nx⟩ => ?_
        subst ey
        obtain ⟨tk, rfl⟩ := r10
        exact add_word (X := X.blk s3 H3 scope ce fp) I10 hD10 room fun s11 I11 => turned I11 nx
  exact PpSet.codeAny_compStart_set loop (T.self X.A 0 _ _ _ at4 loop)
end
end BV

/-! sorted({e for x in xs if t}) of words, by value. -/
namespace BV
open PySem PySem.Spec PyProof.Rows L2 Evl

def swGo (t : Tgt) (mt : MT) (me : ME) (env : Env) : List D → List Str → (List Str → Prop) → Prop
  | [], acc, Q => Q acc
  | x :: xs, acc, Q => ∃ env1, t.put idD x env = some env1 ∧ mt env1 fun b => if b = true then me env1 fun y => ∃ c, y = .str c ∧ swGo t mt me env xs (if c ∈ acc then acc else c :: acc) Q else swGo t mt me env xs acc Q
theorem swGo_mono {t : Tgt} {mt : MT} {me : ME} (h1 : MonoT mt) (h2 : Mono me) {env : Env} {Q Q' : List Str → Prop} (i : ∀ l, Q l → Q' l) : ∀ (xs : List D) (acc : List Str), swGo t mt me env xs acc Q → swGo t mt me env xs acc Q'
  | [], acc, h => i _ h
  | x :: xs, acc, ⟨env1, e, h⟩ => ⟨env1, e, h1 _ _ _ (fun b h => by
      cases b with
      | true => exact h2 _ _ _ (fun y ⟨c, hy, h⟩ => ⟨c, hy, swGo_mono h1 h2 i xs _ h⟩) h
      | false => exact swGo_mono h1 h2 i xs _ h) h⟩
/-- the words that are met, sorted -/
def mSortSet (vs : List Nat) (mi : MI) (t : Tgt) (mt : MT) (me : ME) : MA := fun env Q => mi env fun items => items.length < 60 ∧ swGo t mt me (wipeE env vs) items [] fun l => ∀ ys, ys.Perm l → sortedS ys = true → Q (ys.map D.str)
theorem dns_words {K : PySem.W.Frag} {C : Hp} {pu : Addr} : ∀ ys : List Str, Dns K C pu (ys.map D.str) (ys.map V.str)
  | [] => dns_nil.mpr rfl
  | y :: ys => dns_cons.mpr ⟨_, _, rfl, dn_str.mpr rfl, dns_words ys⟩
section
variable {X : Cx} {elt tg iter : Expr} {ifs : List Expr} {scope : Scope} {own : List (Str × Nat)} {pos p2 p3 : Pos} {mi : MI} {t : Tgt} {mt : MT} {me : ME}
theorem sw_core {K : PySem.W.Frag} {P0 : Program} {w0 : World} {z : Pz} {C H : Hp} {env : Env} {σ : L2.St} {J : It} {items : List D} {vs : List Nat} {P : List Str → Prop} {Q : VK} (o : Ok z C H) (r : EnvR K z C env σ) (it : ItD K z J items C) (h1 : MonoT mt) (h2 : Mono me) (ht : ∀ i ∈ t.sl, i ∈ vs)
    (hz : items.length < 60) (q : swGo t mt me (wipeE env vs) items [] P) (k : ∀ l N C' H', P l → l.length < 60 → Tr z C H C' H' → H' N = some (SetSO P0 w0 N l) → Q (.ref N) H') :
    ∀ N, H N = none → ∃ W : Nat → Nat → Hp → Prop, (∃ m, W 0 m (upd H N (SetSO P0 w0 N []))) ∧ ∀ i m H, W i m H →
      (J.stop i H ∧ Q (.ref N) H) ∨ (J.go i H ∧ ∃ Nx : Hp → Prop, (∀ H', Nx H' → ∃ m', m' < m ∧ W (i + 1) m' H') ∧ ∀ x H', J.yld i H x H' → t.g K x (L2.wipe σ vs) H' fun σ2 H2 => L2.wipe σ2 vs = L2.wipe σ vs ∧ liftT K mt σ2 H2 fun b H3 =>
        if b = true then lift K me σ2 H3 fun y H4 => ∃ (c : Str) (l : List Str), y = .str c ∧ H4 N = some (SetSO P0 w0 N l) ∧ l.length + 1 < scanBound ∧ Nx (upd H4 N (SetSO P0 w0 N (if c ∈ l then l else c :: l))) else Nx H3) := by
  intro N hN
  obtain ⟨G, Y, w, hG, hY⟩ := it.ex
  have hCN : C N = none := fresh_back o.ex hN
  have nNp : N ≠ z.p := fun e => o.pur.pn (by rw [← e]; exact hN)
  have nNg : N ≠ z.g := fun e => o.pur.gn (by rw [← e]; exact hN)
  let Pv : Nat → Hp → Prop := fun i Hc => ∃ C' l, Tr z C H C' Hc ∧ C' N = none ∧ Hc N = some (SetSO P0 w0 N l) ∧ l.length ≤ i ∧ swGo t mt me (wipeE env vs) (items.drop i) l P
  have begin_ : Pv 0 (upd H N (SetSO P0 w0 N [])) := ⟨C, [], Tr.ext o (Ex.new hN), hCN, upd_same, Nat.le_refl _, by simpa using q⟩
  refine ⟨fun i m Hc => m = items.length - i ∧ i ≤ items.length ∧ Pv i Hc, ⟨items.length, by simp, Nat.zero_le _, begin_⟩, ?_⟩
  rintro i m Hc ⟨rfl, hi, C', l, t1, c1, c2, c4, q'⟩
  have held := hG Hc (t1.cc.trans t1.ok.ex)
  by_cases hlt : i < items.length
  · refine .inr ⟨w.goes i Hc hlt held, Pv (i + 1), fun H' p' => ⟨items.length - (i + 1), by omega, rfl, hlt, p'⟩, fun x Hd hy => ?_⟩
    obtain ⟨d, C2, g1, g2, g3⟩ := hY i Hc x Hd hlt (w.yields i Hc x Hd hlt held hy) C' t1.cc t1.ok
    have hd : items.drop i = d :: items.drop (i + 1) := by
      rw [List.drop_eq_getElem_cons hlt]
      congr 1
      rw [List.getElem?_eq_getElem hlt] at g1
      exact Option.some.inj g1
    rw [hd] at q'
    obtain ⟨env1, e1, q1⟩ := q'
    have t2 := t1.trans g2
    have hnn : Hc N ≠ none := by rw [c2]; exact fun q => nomatch q
    refine EnvR.put ((r.mono t2.cc).wipe vs) g2.ok.ex ht g3 e1 fun σ2 s2 w2 => ⟨w2, z, C2, env1, g2.ok, s2, h1 _ _ _ (fun b q2 C3 H3 t3 => ?_) q1⟩
    have t23 := g2.trans t3
    have hN3 : H3 N = some (SetSO P0 w0 N l) := t23.keep N _ c2 nNp nNg
    have hC3 : C3 N = none := (t23.new N hnn).trans c1
    cases b with
    | false => exact ⟨C3, l, t1.trans t23, hC3, hN3, Nat.le_succ_of_le c4, q2⟩
    | true =>
      show lift K me σ2 H3 _
      refine ⟨z, C3, env1, t3.ok, s2.mono t3.cc, h2 _ _ _ (fun d2 ⟨c, hc, q3⟩ v C4 H4 t4 dn4 => ?_) q2⟩
      subst hc
      have t24 := t23.trans t4
      have hN4 : H4 N = some (SetSO P0 w0 N l) := t24.keep N _ c2 nNp nNg
      have hC4 : C4 N = none := (t24.new N hnn).trans c1
      refine ⟨c, l, dn_str.mp dn4, hN4, ?_, C4, _, Tr.mut o (t1.trans t24) hN hC4, hC4, upd_same, ?_, q3⟩
      · exact Nat.lt_of_lt_of_le (by omega : l.length + 1 < 100) (by decide)
      · split
        · omega
        · simp only [List.length_cons]; omega
  · have e : i = items.length := by omega
    subst e
    rw [List.drop_of_length_le (Nat.le_refl _)] at q'
    exact .inl ⟨w.stops Hc held, k l N C' Hc q' (by omega) t1 c2⟩
theorem pd_sortSet {x : Str} (hc : X.calm = true) (hN : X.N.Nodup) (hm : X.mg "sorted" = none) (hi : PDI X tg iter mi) (ok : BlkOk X.N X.env.scope scope own) (ht : ∀ i ∈ t.sl, i ∈ own.map (·.2))
    (hg : ∀ (s : Shared) (H : Hp) (C : Addr) (cl : List (Str × Addr)) (fp : List Addr), PG (X.blk s H scope (compEnvC scope cl C X.env) fp) tg (t.g X.K)) (hts : ∀ (s : Shared) (H : Hp) (C : Addr) (cl : List (Str × Addr)) (fp : List Addr), PDTs (X.blk s H scope (compEnvC scope cl C X.env) fp) ifs mt)
    (he : ∀ (s : Shared) (H : Hp) (C : Addr) (cl : List (Str × Addr)) (fp : List Addr), PD (X.blk s H scope (compEnvC scope cl C X.env) fp) elt me) (hs : ∀ x, foldedSetIterable iter X.env x = pure x := by intro _; rfl)
    (hgl : Gl X "sorted" := by rfl) (h4 : starEach [Expr.SetComp elt [⟨tg, iter, ifs, 0⟩] scope pos] X.env = (false, eval (.SetComp elt [⟨tg, iter, ifs, 0⟩] scope pos) X.env) :: starEach [] X.env := by rfl) (hpl : (backTo p3 (starEach [] X.env)).any (·.1) = false := by rfl) :
    PDO X (.Call (.Name "sorted" p2) [.SetComp elt [⟨tg, iter, ifs, 0⟩] scope pos] [] p3) (mSortSet (own.map (·.2)) mi t mt me) := by
  have h1 := (hts X.s_0 X.H_0 0 [] []).mono
  have h2 := (he X.s_0 X.H_0 0 [] []).mono
  refine ⟨pe_imp (pe_callB (cr_sortedSS hc) hgl hm boot_sorted (pa_cons (pe_sw (tt := liftT X.K mt) (te := lift X.K me) hc hN hi.run ok hg (fun s H C cl fp => (hts s H C cl fp).run) (fun s H C cl fp => (he s H C cl fp).run) hs) pa_nil h4) (by decide) (by decide) h4 hpl) fun σ H Q q => ?_,
    fun env Q Q' i q => hi.mono _ _ _ (fun items ⟨a, q⟩ => ⟨a, swGo_mono h1 h2 (fun l f ys p s => i _ (f ys p s)) _ _ q⟩) q⟩
  obtain ⟨z, C, env, o, r, q⟩ := q
  refine ⟨z, C, env, o, r, hi.mono _ _ _ (fun items ⟨hz, q⟩ J C' H' t1 it => ?_) q⟩
  refine sw_core (P0 := X.prog) (w0 := X.w) (Q := fun x H1 => rSortedSS X.prog X.w [x] H1 Q) t1.ok (r.mono t1.cc) it h1 h2 ht hz q fun l N C2 H2 p hl t2 hN2 => ?_
  refine ⟨N, l, rfl, hN2, by omega, fun ys pp hp hs hf => ?_⟩
  have t := t1.trans t2
  exact p ys hp hs pp _ C2 _ (t.trans (Tr.ext t.ok (Ex.new hf))) (t.free hf) (fresh_back t.ok.ex hf) upd_same (dns_words ys)
end
end BV

/-! Two keywords in the other order. -/
namespace BV
open PySem PySem.Spec PyProof.Rows L2 Evl
def sw2 {α : Type} : List α → List α
  | [a, b] => [b, a]
  | l => l
theorem Fun.kwbS {K : PySem.W.Frag} {x qual : Str} {st : Stmt} {f : Addr} {fd : FuncData} {ps ks : List Str} (F : Fun K x qual st f fd) (h2 : ks.length = 2)
    (h : ∀ (kV doc pm : Value) (an : Option Addr) (cdv ct : Value) (v u : Value), bindArgs (PySem.W.fnOf x qual (defArgs st) (defBody st) (defScope st) .none kV doc pm an cdv ct) ⟨[], ks.zip [v, u]⟩ = pure (ps.zip [u, v])) : KwB K fd ps ks sw2 sw2 := by
  obtain ⟨oc, od, kV, doc, pm, an, cdv, ct, osl, rfl, lk, hcd⟩ := F.ex
  refine ⟨fun s ws _ hl _ => ?_, fun {zs ws} r => ?_⟩
  · rw [h2] at hl
    match ws, hl with
    | [v, u], _ => exact .of_eq (h kV doc pm an cdv ct v u)
  · match zs, ws, r with
    | _, _, .nil => exact .nil
    | _, _, .cons a .nil => exact .cons a .nil
    | _, _, .cons a (.cons b .nil) => exact .cons b (.cons a .nil)
    | _, _, .cons a (.cons b (.cons c r)) => exact .cons a (.cons b (.cons c r))
structure KnS (P : Program) (w : World) (K : PySem.W.Frag) (mg : Str → Option Value) (base : Heap) (x : Str) (k : Nat) (ps ks : List Str) (sp : SpD) : Prop where
  ex : ∃ (f : Addr) (fd : FuncData), FnD P w K mg base k f fd ps sp ∧ PySem.W.keepIn K (.ref f) = true ∧ mg x = some (.ref f) ∧ KwB K fd ps ks sw2 sw2
theorem KnS.says {P : Program} {w : World} {K : PySem.W.Frag} {mg : Str → Option Value} {base : Heap} {x : Str} {k : Nat} {ps ks : List Str} {sp sp' : SpD} (F : KnS P w K mg base x k ps ks sp) (h : ∀ ds T, sp' ds T → sp ds T) : KnS P w K mg base x k ps ks sp' := by
  obtain ⟨f, fd, a, b⟩ := F.ex
  exact ⟨f, fd, a.says h, b⟩
section
variable {X : Cx} {pos : Pos}
def mCallS (sp : SpD) (m : MA) : ME := fun env Q => m env fun ds => ds.length = 2 ∧ ∃ T : D → Prop, sp (sw2 ds) T ∧ ∀ d, T d → Q d
theorem pd_callNS {j k : Nat} {ps ks : List Str} {sp : SpD} {x : Str} {p : Pos} {kws : List Keyword} {m : MA} (G : KnS X.prog X.w X.K X.mg X.base x j ps ks sp) (hr : Room k X.A) (hj : j ≤ k) (hgd : X.A.guards = some []) (h : PDK X kws m) (h2 : ks.length = 2 := by rfl)
    (hall : (backToKw pos (keywordEach kws X.env)).all (·.1.isSome) = true := by rfl) (hks : (backToKw pos (keywordEach kws X.env)).filterMap (·.1) = ks := by rfl) (hg : Gl X x := by rfl) (hdb : (x == ("__debug__" : Str)) = false := by decide)
    (hpl : ((backTo pos (starEach [] X.env)).any (·.1) || (backToKw pos (keywordEach kws X.env)).any (·.1.isNone)) = false := by rfl) : PD X (.Call (.Name x p) [] kws pos) (mCallS sp m) := by
  obtain ⟨f, fd, F, kp, gm, kb⟩ := G.ex
  refine ⟨pe_imp (pe_callGK F (hr.mono hj) hgd hg gm kp kb pass0 h.run hall hks hdb hpl) fun σ H Q q => ?_, fun env Q Q' i q => h.mono env _ _ (fun ds ⟨a, T, q, k⟩ => ⟨a, T, q, fun d hT => i d (k d hT)⟩) q⟩
  obtain ⟨z, C, env, o, r, q⟩ := q
  refine liftA_use h.mono o r q fun ds vs C' H' ⟨hl, p⟩ t dn => ?_
  match ds, hl with
  | [d, e], _ =>
    obtain ⟨v, w, e1, e2, e3⟩ := dns2 dn
    subst e1
    refine ⟨by rw [h2]; rfl, ?_⟩
    show liftF X.K sp [w, v] H' Q E0
    exact call_use t (dns_cons.mpr ⟨w, [v], rfl, e3, Dns.one e2⟩) p
theorem pds_p2OO (rs : List Nat) (i j : Nat) {x y : Str} {a b : Expr} {m1 m2 : MA} {px py pt pt2 : Pos} {kt k2 : Nat} (hc : X.calm = true) (hN : X.N.Nodup) (h1 : PDO X a m1) (h2 : PDO X b m2) (hi : X.N[i]? = some x := by rfl) (hj : X.N[j]? = some y := by rfl) (hij : i ≠ j := by decide)
    (hx : X.env.scope.names.lookup x = some .local := by rfl) (hy : X.env.scope.names.lookup y = some .local := by rfl) (hw : swappedStores [.Tuple [.Name x px, .Name y py] kt pt] (.Tuple [a, b] k2 pt2) X.env = pure (some [x, y]) := by rfl)
    (hs : swapsWithSole [.Tuple [.Name x px, .Name y py] kt pt] (.Tuple [a, b] k2 pt2) pos.line X.env = pure false := by rfl) (sa : starEach [a, b] X.env = (false, eval a X.env) :: starEach [b] X.env := by rfl) (sb : starEach [b] X.env = (false, eval b X.env) :: starEach [] X.env := by rfl) :
    PDS X (.Assign [.Tuple [.Name x px, .Name y py] kt pt] (.Tuple [a, b] k2 pt2) pos) (mPar2OO rs i j m1 m2) :=
  pds_par2OO rs h1 h2 (ps_par hc hN hi hj hij hx hy (pa_cons h1.run (pa_cons h2.run pa_nil sb) sa) hw hs)
theorem pds_p2OV (rs : List Nat) (i j : Nat) {x y : Str} {a b : Expr} {m1 : MA} {m2 : ME} {px py pt pt2 : Pos} {kt k2 : Nat} (hc : X.calm = true) (hN : X.N.Nodup) (h1 : PDO X a m1) (h2 : PD X b m2) (hi : X.N[i]? = some x := by rfl) (hj : X.N[j]? = some y := by rfl) (hij : i ≠ j := by decide)
    (hx : X.env.scope.names.lookup x = some .local := by rfl) (hy : X.env.scope.names.lookup y = some .local := by rfl) (hw : swappedStores [.Tuple [.Name x px, .Name y py] kt pt] (.Tuple [a, b] k2 pt2) X.env = pure (some [x, y]) := by rfl)
    (hs : swapsWithSole [.Tuple [.Name x px, .Name y py] kt pt] (.Tuple [a, b] k2 pt2) pos.line X.env = pure false := by rfl) (sa : starEach [a, b] X.env = (false, eval a X.env) :: starEach [b] X.env := by rfl) (sb : starEach [b] X.env = (false, eval b X.env) :: starEach [] X.env := by rfl) :
    PDS X (.Assign [.Tuple [.Name x px, .Name y py] kt pt] (.Tuple [a, b] k2 pt2) pos) (mPar2OV rs i j m1 m2) :=
  pds_par2OV rs h1 h2 (ps_par hc hN hi hj hij hx hy (pa_cons h1.run (pa_cons h2.run pa_nil sb) sa) hw hs)
theorem aftL_own {rs : List Nat} {ds : List D} {env : SEnv} {l : Nat} {e : D} (h : (aftL rs ds env)[l]? = some (some (true, e))) : env[l]? = some (some (true, e)) := by
  unfold aftL at h
  split at h
  · exact h
  · exact (frz_own h).1
/-- x, y = e1, e2 by way of a tuple: x shared, y a list of one's own -/
def mTt2VO (rs : List Nat) (i j : Nat) (m1 : ME) (m2 : MA) : MS := fun E env => m1 (view rs 0 env) fun d => m2 (view rs 0 env) fun es => E.nx (((aftL rs (d :: es) env).set i (some (false, d))).set j (some (true, .lst es)))
theorem pds_ttVO (rs : List Nat) (i j : Nat) {a b tg : Expr} {m1 : ME} {m2 : MA} {pt2 : Pos} {k2 : Nat} (h1 : PD X a m1) (h2 : PDO X b m2) (hg : PG X tg ((Tgt.tp [i, j]).g X.K)) (hs : swapsWithSole [tg] (.Tuple [a, b] k2 pt2) pos.line X.env = pure false := by rfl)
    (hw : swappedStores [tg] (.Tuple [a, b] k2 pt2) X.env = pure none := by rfl) (h3 : (assignEach [tg] X.env).map (·.2) = [assign tg X.env] := by rfl) (sa : starEach [a, b] X.env = (false, eval a X.env) :: starEach [b] X.env := by rfl) (sb : starEach [b] X.env = (false, eval b X.env) :: starEach [] X.env := by rfl) :
    PDS X (.Assign [tg] (.Tuple [a, b] k2 pt2) pos) (mTt2VO rs i j m1 m2) := by
  refine ⟨fun z C0 H0 Cb => ps_imp (ps_asg (pe_tup (pa_cons h1.run (pa_cons h2.run pa_nil sb) sa)) hg hs hw h3) fun N σ H ⟨C, env, s, q⟩ => ?_, fun E E' env l q => h1.mono _ _ _ (fun ds q => h2.mono _ _ _ (fun es q => l.nx _ q) q) q⟩
  refine ⟨z, _, _, s.okP rs, s.envP rs, h1.mono _ _ _ (fun d q v C1 H1 t1 dn => ⟨z, C1, _, t1.ok, (s.envP rs).mono t1.cc, h2.mono _ _ _ (fun es p b ys C2 H2 t2 k1 k2 k3 dn2 => ?_) q⟩) q⟩
  have hb : H b = none := t1.free k1
  obtain ⟨C3, s3, dns, hc⟩ := s.after rs (t1.trans t2) (dns_cons.mpr ⟨v, ys, rfl, dn.mono t2.cc, dn2⟩ : Dns X.K C2 z.p (d :: es) (v :: ys))
  obtain ⟨v', r', e1, d1, d2⟩ := dns_cons.mp dns
  cases e1
  refine ⟨by rw [sizeLine_eq]; show 2 ≤ _; decide, fun tp htp => ?_⟩
  have nb : b ≠ tp := fun e => by rw [e] at k3; rw [k3] at htp; cases htp
  have s4 := s3.next (Tr.ext s3.tr.ok (Ex.new htp) : Tr z C3 H2 C3 (upd H2 tp (.tup [v, .ref b])))
  refine ⟨tp, [v, .ref b], rfl, st_of upd_same, rfl, v, [.ref b], rfl, .ref b, [], rfl, rfl, ?_⟩
  refine p _ C3 _ ((s4.set i d1).setOwn j (hc b k2) (by rw [upd_ne nb]; exact k3) d2 (s.tr.free hb) fun l e g1 g2 => ?_)
  by_cases hl : l = i
  · subst hl
    have := (List.getElem?_eq_some_iff.mp g1).1
    rw [List.getElem?_set_self (by simpa using this)] at g1
    cases g1
  · rw [List.getElem?_set_ne (Ne.symm hl)] at g1 g2
    exact s.fresh hb l e (aftL_own g1) g2
end
theorem u65 {k : Nat} {A : Around} (r : Room k A) : A.units + 65 < cLine := by have := r.un; omega
end BV

/-! Sorting of tuples whose first items are words, or tuples; sorted(xs, key=f). -/
namespace BV
open PySem PySem.Spec PyProof.Rows L2 Evl

def keyFirst (b : Bool) : D → Bool
  | .tup (.str _ :: _) => b
  | .tup (.tup _ :: _) => !b
  | _ => false
def okKey (b : Bool) (d : D) : Bool := keyFirst b d && okEq d && decide (d.py.depth ≤ 50) && d.np
theorem okKey_of {b : Bool} {d : D} (h : okKey b d = true) : keyFirst b d = true ∧ okEq d = true ∧ d.py.depth ≤ 50 ∧ d.np = true := by
  simp only [okKey, Bool.and_eq_true, decide_eq_true_eq] at h
  exact ⟨h.1.1.1, h.1.1.2, h.1.2, h.2⟩
theorem lex_later {prog : Program} {w : World} {A : Around} {s : Shared} {z b : Bool} {Q : Bool → Shared → Prop} (q : Q b s) : ∀ {vs ws : List Value}, LexR A s z vs ws b → ∀ i, PySem.W.KatLex prog w A.in1 true z Q (vs.zip ws) (i + 1) s
  | _, _, .nil, i => by rw [List.zip_nil_left]; exact PySem.W.kat_nil q
  | _, _, .nil2, i => by rw [List.zip_nil_right]; exact PySem.W.kat_nil q
  | _, _, .eq he hr, i => by
    rw [List.zip_cons_cons]
    exact PySem.W.kat_cons (he prog w _ _ (PySem.W.kat_yes (lex_later q hr (i + 1))))
  | _, _, .ne he hr, i => by
    rw [List.zip_cons_cons]
    exact PySem.W.kat_cons (he prog w _ _ (PySem.W.kat_no (PySem.W.kat_one _ _ (hr prog w _ _ q))))
section
variable {prog : Program} {w : World} {A : Around} {s : Shared} {z b : Bool} {Q : Bool → Shared → Prop}
theorem lex_words {x y : Str} {ds es : List D} {vs us : List Value} {as bs : List Addr} (r1 : ReadsAll s.heap vs (D.pys (.str x :: ds)) as) (r2 : ReadsAll s.heap us (D.pys (.str y :: es)) bs) (c1 : PyData.canLayAll0 (D.pys (.str x :: ds)) = true) (c2 : PyData.canLayAll0 (D.pys (.str y :: es)) = true)
    (h : ltOs (.str x :: ds) (.str y :: es) = some b) (hu : A.units + PyData.depthAll (D.pys (.str x :: ds)) + 2 < cLine) (hz : z = decide (ds.length < es.length)) (q : Q b s) : PySem.W.KatLex prog w A.in1 true z Q (vs.zip us) 0 s := by
  simp only [D.pys] at r1 r2
  cases r1 with
  | cons h1 h2 =>
    cases r2 with
    | cons k1 k2 =>
      have c1' : (D.str x).py.canLay0 = true ∧ PyData.canLayAll0 (D.pys ds) = true := by simpa [D.pys, PyData.canLayAll0] using c1
      have c2' : (D.str y).py.canLay0 = true ∧ PyData.canLayAll0 (D.pys es) = true := by simpa [D.pys, PyData.canLayAll0] using c2
      have hd : A.units + max (D.str x).py.depth (PyData.depthAll (D.pys ds)) + 2 < cLine := by simpa [D.pys, PyData.depthAll] using hu
      have heq := PySem.SeqAt.eqAt_reads (D.str x).py (D.str y).py A.in1 s _ _ _ _ h1 k1 c1'.1 c2'.1 (by show A.units + 1 + _ < _; omega)
      simp only [ltOs] at h
      rw [List.zip_cons_cons]
      refine PySem.W.kat_cons (heq prog w _ _ ?_)
      by_cases hq : PyData.eqv (D.str x).py (D.str y).py = true
      · rw [if_pos hq] at h
        rw [hq]
        exact PySem.W.kat_yes (lex_later q (lts_reads ds es b A z _ _ _ _ h2 k2 c1'.2 c2'.2 h (by omega) hz) 0)
      · rw [if_neg hq] at h
        rw [Bool.not_eq_true] at hq
        rw [hq]
        simp only [ltO, Option.some.injEq] at h
        subst h
        simp only [D.py] at h1 k1
        cases h1
        cases k1
        exact PySem.W.kat_no (PyProof.Rows.oneLt_str q)
end
/-- the first items -/
theorem kat_heads {h : Heap} {b : Bool} : ∀ {us : List Value} {ds : List D}, Paired (fun u d => (∃ as, Reads h u (D.py d) as) ∧ keyFirst b d = true) us ds → ∃ fs, PySem.W.KatTups h us fs ∧ fs.length = us.length ∧ ∀ f ∈ fs, (b = true ∧ ∃ x t, f = .str x t) ∨ (b = false ∧ ∃ (a : Addr) (o : Obj), f = .ref a ∧ h.get? a = some o ∧ o.cls = .type "tuple")
  | _, _, .nil => ⟨[], PySem.W.KatTups.nil, rfl, fun f m => (nomatch m)⟩
  | u :: us, d :: ds, .cons ⟨⟨as, r⟩, t⟩ hr => by
    obtain ⟨fs, h1, h2, h3⟩ := kat_heads hr
    match d, t, r with
    | .tup (.tup es :: ds'), t, r =>
      simp only [D.py, D.pys] at r
      cases r with
      | tuple k1 k2 k3 k4 =>
        rename_i a o vs n
        obtain ⟨l⟩ := vs
        have k4' : ReadsAll h l (PyData.tuple (D.pys es) :: D.pys ds') _ := k4
        cases k4' with
        | cons m1 m2 =>
          cases m1 with
          | tuple g1 g2 g3 g4 =>
            rename_i a2 o2 vs2 n2
            refine ⟨.ref a2 :: fs, PySem.W.KatTups.cons k1 k2 k3 (by simp) h1, by simp [h2], fun f m => ?_⟩
            rcases List.mem_cons.mp m with e | m
            · exact .inr ⟨by simpa [keyFirst] using t, _, _, e, g1, g2⟩
            · exact h3 f m
    | .tup (.str x :: ds'), t, r =>
      simp only [D.py, D.pys] at r
      cases r with
      | tuple k1 k2 k3 k4 =>
        rename_i a o vs n
        obtain ⟨l⟩ := vs
        have k4' : ReadsAll h l (PyData.str x :: D.pys ds') _ := k4
        cases k4' with
        | cons m1 m2 =>
          cases m1
          rename_i tk
          refine ⟨.str x tk :: fs, PySem.W.KatTups.cons k1 k2 k3 (by simp) h1, by simp [h2], fun f m => ?_⟩
          rcases List.mem_cons.mp m with e | m
          · exact .inl ⟨by simpa [keyFirst] using t, _, _, e⟩
          · exact h3 f m
theorem kind_at {P : Program} {w : World} {A : Around} {s : Shared} {b : Bool} {us : List Value} {ds : List D} {Q : SortKind → Shared → Prop} {E : Value → Shared → Prop} (hp : Paired (fun u d => (∃ as, Reads s.heap u (D.py d) as) ∧ keyFirst b d = true) us ds) (hne : 0 < us.length) (hq : Q (tuples' b) s) :
    wpAny (model P w) A (keyKind' us.toArray) Q E s := by
  obtain ⟨fs, f1, f2, f3⟩ := kat_heads hp
  cases b with
  | true =>
    refine PySem.W.kat_kind (T := .type "str") f1 (by omega) (fun f hf => ?_) (by rfl) ?_
    · rcases f3 f hf with ⟨_, x, t, rfl⟩ | ⟨e, _⟩
      · exact PySem.W.Looks.now
      · cases e
    · have e : (Value.type "str" != Value.type "tuple") = true := by first | decide +kernel | rfl | decide
      rw [e]
      exact hq
  | false =>
    refine PySem.W.kat_kind (T := .type "tuple") f1 (by omega) (fun f hf => ?_) (by rfl) ?_
    · rcases f3 f hf with ⟨e, _⟩ | ⟨_, a, ob, rfl, g1, g2⟩
      · cases e
      · have : PySem.W.Looks (model P w) s.heap (typeOf (.ref a)) ob.cls := (PySem.W.Looks.ld g1).andThen .now
        rw [g2] at this
        exact this
    · exact hq
/-- two such keys are compared -/
theorem keys_lt {P : Program} {w : World} {A : Around} {s : Shared} {b : Bool} {u v : Value} {d e : D} {c : Bool} {as bs : List Addr} {Q : Bool → Shared → Prop} {E : Value → Shared → Prop} (hu : A.units + 64 < cLine) (h1 : okKey b d = true) (h2 : okKey b e = true) (r1 : Reads s.heap u d.py as) (r2 : Reads s.heap v e.py bs)
    (h : ltO d e = some c) (q : Q c s) : wpAny (model P w) A.in1 (keyLt' (tuples' b) u v) Q E s := by
  obtain ⟨f1, o1, dp1, _⟩ := okKey_of h1
  obtain ⟨f2, o2, dp2, _⟩ := okKey_of h2
  have c1 := canLay_ok o1
  have c2 := canLay_ok o2
  match d, e, f1, f2, r1, r2, h, c1, c2, dp1 with
  | .tup (.tup xs :: ds), .tup (.tup ys :: es), f1, _, r1, r2, h, c1, c2, dp1 =>
    have hb : b = false := by simpa [keyFirst] using f1
    subst hb
    simp only [D.py] at r1 r2
    cases r1 with
    | tuple k1 k2 k3 k4 =>
      cases r2 with
      | tuple m1 m2 m3 m4 =>
        rename_i o1 v1 n1 a2 ob2 v2 n2
        simp only [ltO] at h
        have g1 := PySem.SeqAt.ReadsAll.length _ _ _ k4
        have g2 := PySem.SeqAt.ReadsAll.length _ _ _ m4
        simp only [D.py, PyData.depth] at dp1
        have lx := lts_reads (s := s) _ _ _ A (decide (v1.size < v2.size)) _ _ _ _ k4 m4 (by simpa [D.py, PyData.canLay0] using c1) (by simpa [D.py, PyData.canLay0] using c2) h (by omega)
          (by rw [← Array.length_toList, ← Array.length_toList, g1, g2, pys_len, pys_len])
        exact PySem.W.kat_lt k1 k3 m1 m3 (lex_kat (Q := Q) q lx 0)
  | .tup (.str x :: ds), .tup (.str y :: es), f1, _, r1, r2, h, c1, c2, dp1 =>
    have hb : b = true := by simpa [keyFirst] using f1
    subst hb
    simp only [D.py] at r1 r2
    cases r1 with
    | tuple k1 k2 k3 k4 =>
      cases r2 with
      | tuple m1 m2 m3 m4 =>
        rename_i o1 v1 n1 a2 ob2 v2 n2
        simp only [ltO] at h
        have g1 := PySem.SeqAt.ReadsAll.length _ _ _ k4
        have g2 := PySem.SeqAt.ReadsAll.length _ _ _ m4
        simp only [D.py, PyData.depth] at dp1
        exact PySem.W.kat_lt k1 k3 m1 m3 (lex_words (Q := Q) k4 m4 (by simpa [D.py, PyData.canLay0] using c1) (by simpa [D.py, PyData.canLay0] using c2) h (by omega)
          (by rw [← Array.length_toList, ← Array.length_toList, g1, g2, pys_len, pys_len]; simp) q)
  | .tup (.tup xs :: ds), .tup (.str y :: es), f1, f2, r1, r2, h, c1, c2, dp1 => cases b <;> simp [keyFirst] at f1 f2
  | .tup (.str xs :: ds), .tup (.tup y :: es), f1, f2, r1, r2, h, c1, c2, dp1 => cases b <;> simp [keyFirst] at f1 f2
end BV

/-! sorted(xs, key=f), f a def that keeps its promise. -/
namespace BV
open PySem PySem.Spec PyProof.Rows L2 Evl

/-- the list that is being sorted: empty, untouched -/
def atD (D : Addr) (e : Nat) : HO := .ext fun h => h.get? D = some (seqObj "list" #[] e)
theorem atD_ok {P : Program} {w : World} {H : Hp} {h : Heap} {D : Addr} {e : Nat} (q : h.get? D = some (seqObj "list" #[] e)) : ObjOk P w H h D (atD D e) := ⟨q, ⟨_, q⟩, fun h1 h2 q1 k => k _ q1⟩
theorem lstOk {P : Program} {w : World} {H : Hp} {h : Heap} {a : Addr} {xs : List V} {its : List Value} {n : Nat} (hz : xs.length ≤ sizeLine) (r : Vals xs its) (e : h.get? a = some (seqObj "list" its.toArray n)) : ObjOk P w H h a (.lst xs) := ⟨hz, its, n, r, e⟩
section
variable {X : Cx} {k : Nat} {f : Addr} {fd : FuncData} {p : Str} {sp : SpD}
theorem key_call (F : FnD X.prog X.w X.K X.mg X.base k f fd [p] sp) (hr : Room k X.A.in1.in1) (hgd : X.A.guards = some []) (hb : Binds X.K fd [p] []) {pins : List (Addr × Obj)} {σ : L2.St} {H : Hp} {s : Shared} (I : Inv X pins σ H s) {x : V} {u : Value} (rv : RelV x u) {Q : VK}
    {E : Value → Shared → Prop} (q : liftF X.K sp [x] H Q E0) : wpAny (model X.prog X.w) X.A.in1.in1 (call (.ref f) [u]) (EP X pins σ Q) E s := by
  have hbt := hb s [u] I.kIn rfl
  have e0 := I.env0
  refine wpAny_call (codeAny_mono (F.go X.A.in1.in1 X.stack s H _ [u] [x] Q E0 hr hgd ⟨e0.frames, e0.mod, e0.bs, e0.bsz, e0.funs, e0.frf, e0.hok, e0.bare⟩ hbt (.cons rv .nil) q) fun r s' z => ?_)
  match r, z with
  | .error _, z => exact z.elim
  | .ok (.ret _), z => exact I.after z
  | .ok .next, z => exact z.elim
  | .ok .brk, z => exact z.elim
  | .ok .cont, z => exact z.elim
/-- what sorted(xs, key=f) leaves -/
def SortK (K : PySem.W.Frag) (z : Pz) (C H : Hp) (ds : List D) (lt : D → D → Bool) (Q : VK) : Prop :=
  ∀ (out : List D) (outv : List V) (p : Addr) (C' H' : Hp), SrtO.Srtd lt out → SrtO.Stb lt out ds → Tr z C H C' H' → H p = none → C' p = none → H' p = some (.lst outv) → Dns K C' z.p out outv → Q (.ref p) H'
theorem sorted_key (hu : X.A.units + 70 < cLine) (F : FnD X.prog X.w X.K X.mg X.base k f fd [p] sp) (hr : Room k X.A.in1.in1) (hgd : X.A.guards = some []) (hb : Binds X.K fd [p] []) {pins : List (Addr × Obj)} {σ : L2.St} {H : Hp} {s : Shared} (I : Inv X pins σ H s)
    {z : Pz} {C : Hp} {a : Addr} {vs : List V} {ds : List D} {kf : D → D} {ltf : D → D → Bool} {b : Bool} (o : Ok z C H) (ha : C a = some (.lst vs)) (dn : Dns X.K C z.p ds vs) (hnp : ∀ d ∈ ds, d.np = true) (hk : ∀ d ∈ ds, sp [d] fun y => y = kf d)
    (hok : ∀ d ∈ ds, okKey b (kf d) = true) (O : SrtO.Swo ltf) (hlt : ∀ d ∈ ds, ∀ e ∈ ds, ltO (kf d) (kf e) = some (ltf (kf d) (kf e))) {Q : VK} (q : SortK X.K z C H ds (fun x y => ltf (kf x) (kf y)) Q) {E : Value → Shared → Prop} :
    wpAny (model X.prog X.w) X.A (call (.builtin "sorted") [.ref a] [(Str.ofString "key", .ref f)]) (EP X pins σ Q) E s := by
  obtain ⟨its, rv, hl, hz⟩ := I.list (sq_of (K := X.K) (o.ex _ _ ha))
  have e1 := rv.length
  have e2 := dn.len
  have hZ : its.length ≤ sizeLine := by rw [← e1]; exact hz
  have known : ∀ i u, its[i]? = some u → ∃ d v, ds[i]? = some d ∧ vs[i]? = some v ∧ RelV v u ∧ Dn X.K C z.p d v := fun i u hi => by
    have hlt' := (List.getElem?_eq_some_iff.mp hi).1
    have hv : vs[i]? = some (vs[i]'(by omega)) := List.getElem?_eq_getElem (by omega)
    obtain ⟨d, h1, h2⟩ := dn.get' hv
    obtain ⟨u', h3, h4⟩ := rv.get hv
    rw [hi] at h3
    cases h3
    exact ⟨d, _, h1, hv, h4, h2⟩
  classical
  let dec : Value → D × V := fun u => if h : ∃ dv : D × V, dv.1 ∈ ds ∧ RelV dv.2 u ∧ Dn X.K C z.p dv.1 dv.2 then h.choose else (.non, .non)
  have decOk : ∀ u, (∃ dv : D × V, dv.1 ∈ ds ∧ RelV dv.2 u ∧ Dn X.K C z.p dv.1 dv.2) → (dec u).1 ∈ ds ∧ RelV (dec u).2 u ∧ Dn X.K C z.p (dec u).1 (dec u).2 := fun u h => by
    have e : dec u = h.choose := dif_pos h
    rw [e]
    exact h.choose_spec
  have decAt : ∀ i u d, its[i]? = some u → ds[i]? = some d → (dec u).1 = d := fun i u d hi hd => by
    obtain ⟨d', v, h1, h2, h3, h4⟩ := known i u hi
    rw [hd] at h1
    cases h1
    obtain ⟨g1, g2, g3⟩ := decOk u ⟨(d, v), List.mem_of_getElem? hd, h3, h4⟩
    rw [h3.inj g2] at h4
    exact Dn.inj I o _ _ _ (hnp _ g1) (hnp _ (List.mem_of_getElem? hd)) g3 h4
  have decMap : its.map (fun u => (dec u).1) = ds := by
    apply List.ext_getElem?
    intro i
    rw [List.getElem?_map]
    cases hi : its[i]? with
    | none =>
      have : ds[i]? = none := by
        rw [List.getElem?_eq_none_iff] at hi ⊢
        omega
      rw [this]
      rfl
    | some u =>
      obtain ⟨d, v, h1, _⟩ := known i u hi
      rw [h1]
      show some (dec u).1 = some d
      rw [decAt i u d hi h1]
  have mem : ∀ u ∈ its, (dec u).1 ∈ ds ∧ RelV (dec u).2 u ∧ Dn X.K C z.p (dec u).1 (dec u).2 := fun u hu => by
    obtain ⟨i, hi⟩ := List.mem_iff_getElem?.mp hu
    obtain ⟨d, v, h1, h2, h3, h4⟩ := known i u hi
    exact decOk u ⟨(d, v), List.mem_of_getElem? h1, h3, h4⟩
  -- the new list is made, emptied; the keys' list
  refine PySem.W.sorted_of_sort hl.isList hZ (ksk_s1 _ _) (fun _ => ksk_l1 _ _) fun E' => ?_
  rw [ksk_t1]
  generalize hD : s.heap.objs.size + 1 = D
  have ho : (PySem.W.copyHeap s.heap its).get? D = some (seqObj "list" its.toArray 0) := by rw [← hD]; exact PySem.W.copyHeap_at s.heap its
  have hDn : H D = none := I.hok.fresh (by rw [← hD]; exact Nat.le_succ _)
  obtain ⟨ep, ho1⟩ : ∃ ep, ((PySem.W.copyHeap s.heap its).update D (Obj.mapSeq fun _ => (#[] : Array Value))).get? D = some (seqObj "list" #[] ep) := ⟨_, get?_update_seq ho fun _ => #[]⟩
  have keepB : ∀ c u, s.heap.get? c = some u → ((PySem.W.copyHeap s.heap its).update D (Obj.mapSeq fun _ => (#[] : Array Value))).get? c = some u := fun c u e => by
    have : c ≠ D := by rw [← hD]; exact Nat.ne_of_lt (Nat.lt_succ_of_lt (Heap.lt_size e))
    rw [Heap.get?_update_ne _ _ _ _ this]
    exact PySem.W.copyHeap_old e
  generalize hhB : (PySem.W.copyHeap s.heap its).update D (Obj.mapSeq fun _ => (#[] : Array Value)) = hB at ho1 keepB
  have IB : Inv X pins σ (upd H D (atD D ep)) { s with heap := hB, toks := s.toks } := I.laid keepB (by rw [← hD]; exact Nat.le_succ _) (atD_ok ho1)
  unfold ksk_tree
  refine wpAny_bind (listItems_at ho rfl ?_)
  refine wpAny_bind (listUpdate_at ho rfl ?_ (by rw [List.size_toArray]; exact hZ) (Nat.zero_le _))
  show wpAny _ _ _ _ _ { s with heap := (PySem.W.copyHeap s.heap its).update D (Obj.mapSeq fun _ => (#[] : Array Value)) }
  rw [hhB]
  refine wpAny_bind (seqEpoch_at ho1 rfl ?_)
  refine wpAny_bind (wpAny_newTuple ?_ (by show its.length ≤ _; exact hZ))
  refine wpAny_bind (wpAny_newList ?_ (Nat.zero_le _))
  refine wpAny_holding ?_
  show wpAny _ _ (ksk_rest D (.ref f) false its.toArray ep (.ref (hB.push (seqObj "tuple" its.toArray 0)).objs.size)) _ _ { s with heap := (hB.push (seqObj "tuple" its.toArray 0)).push (seqObj "list" #[] 0) }
  generalize hS : (hB.push (seqObj "tuple" its.toArray 0)).objs.size = S
  have hSz : hB.objs.size ≤ S := by rw [← hS, Heap.size_push]; exact Nat.le_succ _
  have hSD : S ≠ D := Nat.ne_of_gt (Nat.lt_of_lt_of_le (Heap.lt_size ho1) hSz)
  have hSn' : (upd H D (atD D ep)) S = none := IB.hok.fresh hSz
  have hSn : H S = none := by rw [← upd_ne (H := H) (o := atD D ep) hSD]; exact hSn'
  have IC : Inv X pins σ (upd (upd H D (atD D ep)) S (.lst [])) { s with heap := (hB.push (seqObj "tuple" its.toArray 0)).push (seqObj "list" #[] 0), toks := s.toks } :=
    IB.laid (h' := (hB.push (seqObj "tuple" its.toArray 0)).push (seqObj "list" #[] 0)) (t' := s.toks) (fun c u e => Heap.get?_push_of_some _ (Heap.get?_push_of_some _ e)) hSz (lstOk (its := []) (n := 0) (Nat.zero_le _) .nil (by rw [← hS]; exact Heap.get?_push_size _ rfl))
  have nDp : D ≠ z.p := fun e => o.pur.pn (by rw [← e]; exact hDn)
  have nDg : D ≠ z.g := fun e => o.pur.gn (by rw [← e]; exact hDn)
  have nSp : S ≠ z.p := fun e => o.pur.pn (by rw [← e]; exact hSn)
  have nSg : S ≠ z.g := fun e => o.pur.gn (by rw [← e]; exact hSn)
  have hCD : C D = none := fresh_back o.ex hDn
  have hCS : C S = none := fresh_back o.ex hSn
  have tC : Tr z C H C (upd (upd H D (atD D ep)) S (.lst [])) := Tr.mut o (Tr.mut o (Tr.refl o) hDn hCD) hSn hCS
  generalize hs1 : ({ s with heap := (hB.push (seqObj "tuple" its.toArray 0)).push (seqObj "list" #[] 0) } : Shared) = s1
  have IC' : Inv X pins σ (upd (upd H D (atD D ep)) S (.lst [])) s1 := by rw [← hs1]; exact IC
  unfold ksk_rest
  refine wpAny_bind (wpAny_rule ?_)
  first
    | rw [List.forIn_toArray]
    | (rw [← Array.forIn_toList]; simp only [List.toList_toArray])
    | rw [← Array.forIn_toList]
  refine wpAny_bind (ksk_fold (fun j s' => ∃ Hj Cj kvs, Inv X pins σ Hj s' ∧ Tr z C H Cj Hj ∧ Hj D = some (atD D ep) ∧ Cj D = none ∧ Hj S = some (.lst kvs) ∧ Cj S = none ∧ Dns X.K Cj z.p ((ds.take j).map kf) kvs) its 0 s1
    ⟨_, C, [], IC', tC, by rw [upd_ne hSD.symm]; exact upd_same, hCD, upd_same, hCS, dns_nil.mpr rfl⟩ ?step ?done)
  case step =>
    rintro j u s' hj ⟨Hj, Cj, kvs, Ij, tj, hDj, cDj, hSj, cSj, dk⟩
    simp only [Nat.zero_add] at dk ⊢
    obtain ⟨d, v, h1, h2, h3, h4⟩ := known j u hj
    have hdm := List.mem_of_getElem? h1
    refine wpAny_bind (wpAny_attempt (wpAny_mono (key_call (E := fun _ _ => False) (Q := fun kv H' => ∃ C', Tr z Cj Hj C' H' ∧ Dn X.K C' z.p (kf d) kv) F hr hgd hb Ij h3
      ⟨z, Cj, [d], _, tj.ok, (Dns.one (h4.mono tj.cc)), hk d hdm, fun y kv C' H' hy t' dy => ⟨C', t', by rw [← hy]; exact dy⟩⟩) (fun kr s'' he => ?_) fun _ _ hF => hF.elim))
    obtain ⟨kv, H', I', rk, C', t', dk'⟩ := he
    try dsimp only
    have nnS : Hj S ≠ none := by rw [hSj]; exact fun q => nomatch q
    have nnD : Hj D ≠ none := by rw [hDj]; exact fun q => nomatch q
    have hS' : H' S = some (.lst kvs) := t'.keep S _ hSj nSp nSg
    have hD' : H' D = some (atD D ep) := t'.keep D _ hDj nDp nDg
    have cS' : C' S = none := (t'.new S nnS).trans cSj
    have cD' : C' D = none := (t'.new D nnD).trans cDj
    obtain ⟨kz, kA, n, rkA, eA⟩ := I'.hok S _ hS'
    have lk : kvs.length ≤ its.length := by
      rw [dk.len, List.length_map, List.length_take]
      omega
    have lt1 : kvs.length < its.length := by
      rw [dk.len, List.length_map, List.length_take]
      have := (List.getElem?_eq_some_iff.mp hj).1
      omega
    have eA' : s''.heap.get? S = some (seqObj "list" kA.toArray n) := eA
    have lkA : kA.length = kvs.length := rkA.length.symm
    obtain ⟨c2, hc2⟩ : ∃ c2, (s''.heap.update S (Obj.mapSeq (·.push kr))).get? S = some (seqObj "list" (kA.toArray.push kr) c2) := ⟨_, get?_update_seq eA' (·.push kr)⟩
    refine wpAny_bind (listUpdate_at eA' rfl ?_ (by rw [List.size_toArray, lkA]; exact kz) (by rw [Array.size_push, List.size_toArray, lkA]; omega))
    refine wpAny_pure ⟨rfl, upd H' S (.lst (kvs ++ [kv])), C', kvs ++ [kv], ?_, Tr.mut o (tj.trans t') hSn cS', by rw [upd_ne hSD.symm]; exact hD', cD', upd_same, cS', ?_⟩
    · refine I'.write (e := S) (t' := s''.toks) (by rw [hS']; trivial) (.inl rfl) (fun c u hc e => (Heap.get?_update_ne _ _ _ _ hc).trans e) ⟨_, hc2⟩ (lstOk (its := kA ++ [kr]) (n := c2) (by rw [List.length_append, List.length_singleton]; omega) (rkA.snoc rk) (by simpa using hc2))
    · have : (ds.take (j + 1)).map kf = (ds.take j).map kf ++ [kf d] := by
        rw [List.take_succ, h1]
        simp
      rw [this]
      exact (dk.mono t'.cc).app (Dns.one dk')
  case done =>
    rintro s' ⟨Hn, Cn, kvs, In, tn, hDn', cDn, hSn2, cSn, dk⟩
    have e3 : ds.take (0 + its.length) = ds := List.take_of_length_le (by omega)
    rw [e3] at dk
    obtain ⟨kz, kA, n, rkA, eA⟩ := In.hok S _ hSn2
    have eA' : s'.heap.get? S = some (seqObj "list" kA.toArray n) := eA
    have lkA : kA.length = its.length := by rw [← rkA.length, dk.len, List.length_map]; omega
    have eD : s'.heap.get? D = some (seqObj "list" #[] ep) := (In.hok D _ hDn').1
    try dsimp only
    refine wpAny_bind (listItems_at eA' rfl ?_)
    -- the pairs of a key and an item
    have kat : ∀ i ku, kA[i]? = some ku → ∃ d, ds[i]? = some d ∧ ∃ as, Reads s'.heap ku (kf d).py as := fun i ku hi => by
      have hi' := (List.getElem?_eq_some_iff.mp hi).1
      obtain ⟨d, hd⟩ : ∃ d, ds[i]? = some d := ⟨_, List.getElem?_eq_getElem (by omega)⟩
      obtain ⟨kv, g1, g2⟩ := dk.get (i := i) (d := kf d) (by rw [List.getElem?_map, hd]; rfl)
      obtain ⟨ku', g3, g4⟩ := rkA.get g1
      rw [hi] at g3
      cases g3
      have hdm := List.mem_of_getElem? hd
      exact ⟨d, hd, Dp.reads In _ kv ku (g2.dp tn.ok.ex _ kv (okEq_of (okKey_of (hok d hdm)).2.1).1) g4⟩
    have zat : ∀ pr ∈ kA.zip its, (dec pr.2).1 ∈ ds ∧ ∃ as, Reads s'.heap pr.1 (kf (dec pr.2).1).py as := fun pr hp => by
      obtain ⟨i, hi⟩ := List.mem_iff_getElem?.mp hp
      rw [List.getElem?_zip_eq_some] at hi
      obtain ⟨d, hd, r⟩ := kat i _ hi.1
      have := decAt i _ d hi.2 hd
      rw [this]
      exact ⟨List.mem_of_getElem? hd, r⟩
    have zl : (kA.toArray.zip its.toArray).toList = kA.zip its := ksk_zip kA.toArray its
    let lp : Keyed → Keyed → Bool := fun x y => ltf (kf (dec x.2).1) (kf (dec y.2).1)
    have Op : SrtO.Swo lp := ⟨fun x y => O.asym _ _, fun x y z => O.tr _ _ _⟩
    have fin : ∀ st' : SortSt, SrtO.Srtd lp (arrOf st').toList → SrtO.Stb lp (arrOf st').toList (kA.zip its) → failedOf st' = none →
        wpAny (model X.prog X.w) X.A.in1.in1 (ksk_tail D false ep (.ref S) st') (fun f s' => f = .done (.ret .none) ∧ EP X pins σ Q (.ref D) s') E' s' := by
      intro st' h1 h2 h3
      have sub : ∀ pr ∈ (arrOf st').toList, pr ∈ kA.zip its := fun pr hp => h2.perm.mem_iff.mp hp
      have len : (arrOf st').size = its.length := by
        rw [← Array.length_toList, h2.len, List.length_zip, lkA, Nat.min_self]
      obtain ⟨c1, hc1⟩ : ∃ c1, (s'.heap.update S (Obj.mapSeq fun _ => (#[] : Array Value))).get? S = some (seqObj "list" #[] c1) := ⟨_, get?_update_seq eA' fun _ => #[]⟩
      have J1 : Inv X pins σ (upd Hn S (.lst [])) { s' with heap := s'.heap.update S (Obj.mapSeq fun _ => (#[] : Array Value)), toks := s'.toks } :=
        In.write (e := S) (t' := s'.toks) (by rw [hSn2]; trivial) (.inl rfl) (fun c u hc e => (Heap.get?_update_ne _ _ _ _ hc).trans e) ⟨_, hc1⟩ (lstOk (its := []) (n := c1) (Nat.zero_le _) .nil hc1)
      have eD1 : (s'.heap.update S (Obj.mapSeq fun _ => (#[] : Array Value))).get? D = some (seqObj "list" #[] ep) := (Heap.get?_update_ne _ _ _ _ hSD.symm).trans eD
      obtain ⟨outL, hout⟩ : ∃ outL, ((arrOf st').map (·.2)) = outL.toArray ∧ outL = (arrOf st').toList.map (·.2) := ⟨_, by apply Array.toList_inj.mp; simp, rfl⟩
      obtain ⟨c2, hc2⟩ : ∃ c2, ((s'.heap.update S (Obj.mapSeq fun _ => (#[] : Array Value))).update D (Obj.mapSeq fun _ => outL.toArray)).get? D = some (seqObj "list" outL.toArray c2) := ⟨_, get?_update_seq eD1 fun _ => outL.toArray⟩
      have outm : ∀ u ∈ outL, u ∈ its := fun u hu => by
        rw [hout.2] at hu
        obtain ⟨pr, hp, rfl⟩ := List.mem_map.mp hu
        exact (List.of_mem_zip (sub pr hp)).2
      have outlen : outL.length = its.length := by rw [hout.2, List.length_map, Array.length_toList, len]
      have rout : ∀ l : List Value, (∀ u ∈ l, u ∈ its) → Vals (l.map fun u => (dec u).2) l := by
        intro l
        induction l with
        | nil => intro _; exact .nil
        | cons u l ih => intro hl; exact .cons (mem u (hl u (by simp))).2.1 (ih fun w hw => hl w (by simp [hw]))
      have dout : ∀ l : List Value, (∀ u ∈ l, u ∈ its) → Dns X.K Cn z.p (l.map fun u => (dec u).1) (l.map fun u => (dec u).2) := by
        intro l
        induction l with
        | nil => intro _; exact dns_nil.mpr rfl
        | cons u l ih => intro hl; exact dns_cons.mpr ⟨_, _, rfl, (mem u (hl u (by simp))).2.2.mono tn.cc, ih fun w hw => hl w (by simp [hw])⟩
      have J2 : Inv X pins σ (upd (upd Hn S (.lst [])) D (.lst (outL.map fun u => (dec u).2))) { s' with heap := (s'.heap.update S (Obj.mapSeq fun _ => (#[] : Array Value))).update D (Obj.mapSeq fun _ => outL.toArray), toks := s'.toks } :=
        J1.write (e := D) (t' := s'.toks) (by rw [upd_ne hSD.symm, hDn']; trivial) (.inl rfl) (fun c u hc e => (Heap.get?_update_ne _ _ _ _ hc).trans e) ⟨_, hc2⟩ (lstOk (its := outL) (n := c2) (by rw [List.length_map, outlen]; exact hZ) (rout outL outm) hc2)
      unfold ksk_tail
      try dsimp only
      simp only [Bool.false_eq_true, if_false]
      refine wpAny_bind (listUpdate_at eA' rfl ?_ (by rw [List.size_toArray, lkA]; exact hZ) (Nat.zero_le _))
      refine wpAny_bind (wpAny_letGo ?_)
      refine wpAny_bind (seqEpoch_at eD1 rfl ?_)
      rw [hout.1]
      refine wpAny_bind (listUpdate_at eD1 rfl ?_ (Nat.zero_le _) (by rw [List.size_toArray, outlen]; exact Nat.le_succ_of_le hZ))
      rw [h3]
      simp only [bne_self_eq_false, Bool.false_eq_true, if_false]
      refine wpAny_pure ⟨rfl, .ref D, _, J2, rfl, q (outL.map fun u => (dec u).1) _ D Cn _ ?_ ?_ (Tr.mut o (Tr.mut o tn hSn cSn) hDn cDn) hDn cDn upd_same (dout outL outm)⟩
      · rw [hout.2, List.map_map]
        exact SrtO.srtd_map h1
      · have hm := SrtO.Stb.map (lt := fun x y => ltf (kf x) (kf y)) ⟨fun x y => O.asym _ _, fun x y z => O.tr _ _ _⟩ (fun pr : Keyed => (dec pr.2).1) h2
        have hz2 : (kA.zip its).map (fun pr : Keyed => (dec pr.2).1) = ds := by
          have : (kA.zip its).map (fun pr : Keyed => (dec pr.2).1) = ((kA.zip its).map Prod.snd).map fun u => (dec u).1 := by rw [List.map_map]; rfl
          rw [this, List.map_snd_zip (by omega), decMap]
        rw [hz2] at hm
        rw [hout.2, List.map_map]
        exact hm
    unfold ksk_end
    try dsimp only
    simp only [Bool.false_eq_true, if_false]
    have hsz : (kA.toArray.zip its.toArray).size = its.length := by rw [← Array.length_toList, zl, List.length_zip, lkA, Nat.min_self]
    by_cases h2 : its.toArray.size < 2
    · rw [if_pos h2, if_pos h2]
      refine wpAny_bind (wpAny_pure ?_)
      rw [StateT.run_pure]
      refine wpAny_bind (wpAny_pure ?_)
      try dsimp only
      refine fin (SortSt.mk' general' (kA.toArray.zip its.toArray) #[] 7 none) ?_ ?_ rfl
      · show SrtO.Srtd lp (kA.toArray.zip its.toArray).toList
        rw [zl]
        have : (kA.zip its).length < 2 := by rw [List.length_zip, lkA, Nat.min_self]; simpa using h2
        match kA.zip its, this with
        | [], _ => exact List.Pairwise.nil
        | [x], _ => exact List.pairwise_singleton _ _
        | _ :: _ :: l, h => exact absurd h (by rw [List.length_cons, List.length_cons]; omega)
      · show SrtO.Stb lp (kA.toArray.zip its.toArray).toList _
        rw [zl]
        exact SrtO.Stb.refl _
    · rw [if_neg h2, if_neg h2]
      rw [List.size_toArray] at h2
      refine wpAny_bind (kind_at (b := b) (us := kA) (ds := ds.map kf) (paired_get (by rw [List.length_map]; omega) fun i u d' g1 g2 => ?_) (by omega) ?_)
      · obtain ⟨d, hd, r⟩ := kat i u g1
        rw [List.getElem?_map, hd] at g2
        cases g2
        exact ⟨r, (okKey_of (hok d (List.mem_of_getElem? hd))).1⟩
      · have hT : SrtO.Cmp X.prog X.w X.A.in1.in1 s' (tuples' b) (fun pr => pr ∈ kA.zip its) lp := by
          intro x y hx hy
          obtain ⟨m1, as, r1⟩ := zat x hx
          obtain ⟨m2, bs, r2⟩ := zat y hy
          exact keys_lt (A := X.A.in1) (by show X.A.units + 1 + 64 < _; omega) (hok _ m1) (hok _ m2) r1 r2 (hlt _ m1 _ m2) ⟨rfl, rfl⟩
        refine wpAny_bind (wpAny_mono (SrtO.wpS_sortO (st0 := SortSt.mk' (tuples' b) (kA.toArray.zip its.toArray) #[] 7 none)
          (Q := fun _ st' => SrtO.Srtd lp (arrOf st').toList ∧ SrtO.Stb lp (arrOf st').toList (kA.zip its) ∧ failedOf st' = none) Op hT rfl (fun pr hp => by
            have hp' : pr ∈ (kA.toArray.zip its.toArray).toList := hp
            rwa [zl] at hp') rfl rfl fun st' a1 a2 a3 => ⟨a1, by
            have a2' : SrtO.Stb lp (arrOf st').toList (kA.toArray.zip its.toArray).toList := a2
            rwa [zl] at a2', a3⟩) ?_ fun _ _ e => e)
        rintro ⟨⟨⟩, st'⟩ s2 ⟨rfl, hp1, hp2, hf⟩
        try dsimp only
        exact fin st' hp1 hp2 hf
end
end BV

/-! sorted with a key, by value; sorted of words; x.append(y.pop(e)). -/
namespace BV
open PySem PySem.Spec PyProof.Rows L2 Evl

theorem Room.in2 {k : Nat} {A : Around} (r : Room (k + 1) A) : Room k A.in1.in1 :=
  ⟨r.hd, by have := r.dp; show A.depth + 3 * k + 5 < _; omega, by have := r.un; show A.units + 1 + 1 + 16 * k + 200 < _; omega⟩
theorem u70 {k : Nat} {A : Around} (r : Room k A) : A.units + 70 < cLine := by have := r.un; omega
def rSortK (K : PySem.W.Frag) (sp : SpD) (f : Addr) : List V → List V → Hp → VK → Prop := fun vs zs H Q => ∃ (z : Pz) (C : Hp) (a : Addr) (xs : List V) (ds : List D) (kf : D → D) (ltf : D → D → Bool) (b : Bool), vs = [V.ref a] ∧ zs = [V.ref f] ∧ Ok z C H ∧ C a = some (.lst xs) ∧ Dns K C z.p ds xs ∧ (∀ d ∈ ds, d.np = true) ∧
  (∀ d ∈ ds, sp [d] fun y => y = kf d) ∧ (∀ d ∈ ds, okKey b (kf d) = true) ∧ SrtO.Swo ltf ∧ (∀ d ∈ ds, ∀ e ∈ ds, ltO (kf d) (kf e) = some (ltf (kf d) (kf e))) ∧ SortK K z C H ds (fun x y => ltf (kf x) (kf y)) Q
def moSortK (sp : SpD) (me : ME) : MA := fun env Q => me env fun d => ∃ (xs : List D) (kf : D → D) (ltf : D → D → Bool) (b : Bool), d = .lst xs ∧ (∀ d ∈ xs, d.np = true) ∧ (∀ d ∈ xs, sp [d] fun y => y = kf d) ∧ (∀ d ∈ xs, okKey b (kf d) = true) ∧ SrtO.Swo ltf ∧
  (∀ d ∈ xs, ∀ e ∈ xs, ltO (kf d) (kf e) = some (ltf (kf d) (kf e))) ∧ ∀ out, SrtO.Srtd (fun x y => ltf (kf x) (kf y)) out → SrtO.Stb (fun x y => ltf (kf x) (kf y)) out xs → Q out
section
variable {X : Cx}
theorem cr_sortK {k : Nat} {f : Addr} {fd : FuncData} {p : Str} {sp : SpD} (hu : X.A.units + 70 < cLine) (F : FnD X.prog X.w X.K X.mg X.base k f fd [p] sp) (hr : Room k X.A.in1.in1) (hgd : X.A.guards = some []) (hb : Binds X.K fd [p] []) :
    CallRK X (.builtin "sorted") [Str.ofString "key"] (rSortK X.K sp f) := by
  intro pins s σ H xs zs us ws Q I r1 r2 h
  obtain ⟨z, C, a, vs, ds, kf, ltf, b, rfl, rfl, o, ha, dn, h1, h2, h3, h4, h5, q⟩ := h
  obtain ⟨u, rfl, ru⟩ := vals1 r1
  obtain rfl : u = Value.ref a := ru
  obtain ⟨w1, rfl, rw1⟩ := vals1 r2
  obtain rfl : w1 = Value.ref f := rw1
  exact sorted_key hu F hr hgd hb I o ha dn h1 h2 h3 h4 h5 q
theorem pdo_sortK {x fn : Str} {e : Expr} {p pn kp pos : Pos} {me : ME} {j k : Nat} {ps : Str} {sp : SpD} (G : Kn X.prog X.w X.K X.mg X.base fn j [ps] sp) (hr : Room k X.A) (hj : j + 1 ≤ k) (hgd : X.A.guards = some []) (hm : X.mg x = none) (hv : bootBuiltins x = some (.builtin "sorted")) (h : PD X e me)
    (hg : Gl X x := by rfl) (hgf : Gl X fn := by rfl) (hn : x ≠ "__name__" := by decide) (hdb : (x == ("__debug__" : Str)) = false := by decide) (hdf : (fn == ("__debug__" : Str)) = false := by decide)
    (he0 : starEach [e] X.env = (false, eval e X.env) :: starEach [] X.env := by rfl)
    (he : backTo pos (starEach [e] X.env) = (false, eval e X.env) :: backTo pos (starEach [] X.env) := by rfl) (hpl : (backTo pos (starEach [e] X.env)).any (·.1) = false := by rfl)
    (hall : (backToKw pos (keywordEach [⟨some (Str.ofString "key"), .Name fn pn, kp⟩] X.env)).all (·.1.isSome) = true := by rfl) (hnone : (backToKw pos (keywordEach [⟨some (Str.ofString "key"), .Name fn pn, kp⟩] X.env)).any (·.1.isNone) = false := by rfl) (hks : (backToKw pos (keywordEach [⟨some (Str.ofString "key"), .Name fn pn, kp⟩] X.env)).filterMap (·.1) = [Str.ofString "key"] := by rfl) :
    PDO X (.Call (.Name x p) [e] [⟨some (Str.ofString "key"), .Name fn pn, kp⟩] pos) (moSortK sp me) := by
  obtain ⟨f, fd, F, hb, hkp, gm⟩ := G.ex
  have hr' : Room j X.A.in1.in1 := Room.in2 (hr.mono hj)
  refine ⟨pe_imp (pe_callBK (cr_sortK (u70 hr) F hr' hgd hb) hg hm hv (pa_cons h.run pa_nil he0) (pk_cons (pe_glob hgf gm (show RelV (.ref f) (.ref f) from rfl) hdf) pk_nil) hn hdb he hpl hall hnone hks) fun σ H Q q => ?_,
    fun env Q Q' i q => h.mono env _ _ (fun d ⟨xs, kf, ltf, b, e, h1, h2, h3, h4, h5, q⟩ => ⟨xs, kf, ltf, b, e, h1, h2, h3, h4, h5, fun out a c => i _ (q out a c)⟩) q⟩
  obtain ⟨z, C, env, o, r, q⟩ := q
  refine lift_use h.mono o r q fun d v C' H' ⟨xs, kf, ltf, b, e, h1, h2, h3, h4, h5, q⟩ t dn => ?_
  subst e
  obtain ⟨a, vs, rfl, ha, dns⟩ := dn_lst.mp dn
  exact ⟨z, C', a, vs, xs, kf, ltf, b, rfl, rfl, t.ok, ha, dns, h1, h2, h3, h4, h5, fun out outv p C2 H2 s1 s2 t2 g1 g2 g3 g4 => q out s1 s2 p outv C2 H2 (t.trans t2) (t.free g1) g2 g3 g4⟩
/-- sorted(a list of words) -/
def sortedW (ds : List D) (T : D → Prop) : Prop := ∃ xs : List Str, ds = [.lst (xs.map D.str)] ∧ xs.length < 64 ∧ ∀ ys : List Str, ys.Perm xs → sortedS ys = true → T (.lst (ys.map D.str))
theorem dns_strs {K : PySem.W.Frag} {C : Hp} {pu : Addr} : ∀ {ys : List Str} {xs : List V}, Dns K C pu (ys.map D.str) xs → xs = ys.map V.str
  | [], xs, h => dns_nil.mp h
  | y :: ys, xs, h => by
    obtain ⟨v, r, e, h1, h2⟩ := dns_cons.mp h
    rw [e, dn_str.mp h1, dns_strs h2]
    rfl
theorem cp_sortedW : CallP X (.builtin "sorted") sortedW := by
  refine ⟨⟨_, cr_sortedS, fun z C H ds T xs Q o dn ⟨ys, e, h1, h2⟩ k => ?_⟩, fun ds T T' i ⟨ys, e, h1, h2⟩ => ⟨ys, e, h1, fun zs a b => i _ (h2 zs a b)⟩⟩
  subst e
  obtain ⟨v, rfl, e2⟩ := dns1 dn
  obtain ⟨a, vs, rfl, ha, dns⟩ := dn_lst.mp e2
  obtain rfl := dns_strs dns
  exact ⟨a, ys, rfl, sq_of (o.ex _ _ ha), h1, fun zs p pm so hp => k _ _ _ _ (h2 zs pm so) (Tr.put o hp) (dn_new_lst (dns_words zs) (fresh_back o.ex hp))⟩
/-- x.append(y.pop(e)), both of one's own -/
def mAppPop (rs : List Nat) (i j : Nat) (me : ME) : MS := fun E env => (∃ ds0, env[i]? = some (some (true, .lst ds0))) ∧ (∃ ds1, env[j]? = some (some (true, .lst ds1))) ∧ j ≠ i ∧ me (view rs 0 env) fun d => ∃ n ds es y, d = .int n ∧ (aft rs d env)[j]? = some (some (true, .lst es)) ∧ (aft rs d env)[i]? = some (some (true, .lst ds)) ∧
  0 ≤ n ∧ n ≤ 4000000 ∧ es[n.toNat]? = some y ∧ szOk (ds.length + 1) = true ∧ E.nx (((aft rs d env).set j (some (true, .lst (es.eraseIdx n.toNat)))).set i (some (true, .lst (ds ++ [y]))))
theorem pds_appPop (rs : List Nat) {i j : Nat} {o y e : Expr} {apos cpos bpos dpos pos : Pos} {me : ME} (ho : PE X o (tVar i)) (hy : PE X y (tVar j)) (h : PD X e me)
    (g1 : attributeBase y "pop" X.env (eval y X.env) = eval y X.env := by rfl)
    (g2 : ((((backTo dpos (starEach [e] X.env)).all fun x => !x.1) && ((backToKw dpos (keywordEach [] X.env)).all fun x => x.1.isSome) && decide (([e] : List Expr).length + ([] : List Keyword).length + (if ([] : List Keyword).isEmpty = true then 0 else 1) < 30)) = true) := by rfl)
    (g3 : (bpos.endLine == dpos.line) = true := by rfl) (g4 : starEach [e] X.env = (false, eval e X.env) :: starEach [] X.env := by rfl) (g5 : ((backTo dpos (starEach [] X.env)).any fun x => x.1) = false := by rfl)
    (h1 : attributeBase o "append" X.env (eval o X.env) = eval o X.env := by rfl)
    (h2 : ((((backTo cpos (starEach [.Call (.Attribute y "pop" bpos) [e] [] dpos] X.env)).all fun x => !x.1) && ((backToKw cpos (keywordEach [] X.env)).all fun x => x.1.isSome) && decide (([.Call (.Attribute y "pop" bpos) [e] [] dpos] : List Expr).length + ([] : List Keyword).length + (if ([] : List Keyword).isEmpty = true then 0 else 1) < 30)) = true) := by rfl)
    (h3 : (apos.endLine == cpos.line) = true := by rfl) (h4 : starEach [.Call (.Attribute y "pop" bpos) [e] [] dpos] X.env = (false, eval (.Call (.Attribute y "pop" bpos) [e] [] dpos) X.env) :: starEach [] X.env := by rfl) (h5 : ((backTo cpos (starEach [] X.env)).any fun x => x.1) = false := by rfl)
    (hs : swapsWith (.Call (.Attribute o "append" apos) [.Call (.Attribute y "pop" bpos) [e] [] dpos] [] cpos) none pos.line X.env = pure false := by rfl) : PDS X (.Expr (.Call (.Attribute o "append" apos) [.Call (.Attribute y "pop" bpos) [e] [] dpos] [] cpos) pos) (mAppPop rs i j me) := by
  refine ⟨fun z C0 H0 Cb => ps_imp (ps_expr (pe_bm PySem.F.plainAttrs_list PySem.F.slot_list_append PySem.F.type_list_append mt_append ho (pa_cons (pe_bm PySem.F.plainAttrs_list PySem.F.slot_list_pop PySem.F.type_list_pop mt_popAt hy (pa_cons h.run pa_nil g4) g1 g2 g3 g4 g5) pa_nil h4) h1 h2 h3 h4 h5) hs) fun N σ H ⟨C, env, s, q⟩ => ?_,
    fun E E' env l ⟨q0, q1, qn, q⟩ => ⟨q0, q1, qn, h.mono _ _ _ (fun d ⟨n, ds, es, y, e1, e2, e3, e4, e5, e6, e7, q⟩ => ⟨n, ds, es, y, e1, e2, e3, e4, e5, e6, e7, l.nx _ q⟩) q⟩⟩
  obtain ⟨⟨ds0, i0⟩, ⟨ds1, j0⟩, hne, q⟩ := q
  obtain ⟨a, _, xs, _, ea, _, eH, _⟩ := s.ownL i _ i0
  obtain ⟨b, _, ys, _, eb, _, eB, _⟩ := s.ownL j _ j0
  refine ⟨.ref a, ea, .inl ⟨rfl, xs, sq_of eH⟩, .ref b, eb, .inl ⟨rfl, ys, sq_of eB⟩, ?_⟩
  refine s.use rs h.mono q fun d v C' H' ⟨n, ds, es, w, e1, e2, e3, e4, e5, e6, e7, p⟩ s' dn => ?_
  subst e1
  obtain ⟨b', es', zs, f1, f2, f3, f4, f5, f6⟩ := s'.ownL j _ e2
  rw [eb] at f2
  cases f2
  cases f1
  obtain ⟨w', k1, k2⟩ := f5.get e6
  have hw := (List.getElem?_eq_some_iff.mp k1).1
  refine ⟨b, zs, n, n.toNat, w', rfl, by rw [dn_int.mp dn], f4, by omega, by omega, ?_, k1, ?_⟩
  · unfold seqIndex?
    rw [if_neg (show ¬ n < 0 by omega)]
    simp only [Bool.and_eq_true, decide_eq_true_eq]
    rw [if_pos ⟨e4, by omega⟩]
  · have s2 := s'.write e2 eb (f5.erase n.toNat)
    have e3' : ((aft rs (.int n) env).set j (some (true, .lst (es.eraseIdx n.toNat))))[i]? = some (some (true, .lst ds)) := by rw [List.getElem?_set_ne hne]; exact e3
    obtain ⟨a', ds', xs', l1, l2, l3, l4, l5, l6⟩ := s2.ownL i _ e3'
    rw [ea] at l2
    cases l2
    cases l1
    have hl := l5.len
    refine ⟨a, xs', w', rfl, rfl, l4, sz_lt (by unfold szOk at e7 ⊢; rw [hl]; simp at e7 ⊢; omega), ?_⟩
    exact p σ C' _ (s2.write e3' ea (l5.app (Dns.one k2)))
end
end BV

/-! zip of two lists or tuples, its pairs kept: one next. -/
namespace BV
open PySem PySem.Spec PySem.W PySem.Calls PyProof.Rows

section
variable {prog : Program} {w : World} {A : Around} {E : Value → Shared → Prop} {s : Shared} {z TI TO i1 i2 : Addr} {fp1 fp2 : List Addr} {n1 n2 i : Nat} {P1 P2 : Nat → Value → Prop} {St1 St2 : Nat → Heap → Prop}
/-- the zip's own cells: nothing is out, or the last pair still is -/
def ZCell (z TI TO : Addr) (h : Heap) : Prop := (IsZip h z TI TO .none ∧ ∃ a1 a2, IsTupOf2 h TO a1 a2) ∨ ∃ T f oT, IsZipHeld h z TI TO T f ∧ h.get? T = some oT
theorem held_next {T : Addr} {f : Bool} {oT : Obj} {Q : Value → Shared → Prop} (S : ZipSep2 z TI TO i1 i2 fp1 fp2) (D1 : Draws prog w A i1 fp1 n1 P1 St1) (D2 : Draws prog w A i2 fp2 n2 P2 St2) (hz : IsZipHeld s.heap z TI TO T f) (hT : s.heap.get? T = some oT)
    (hTI : IsTupOf2 s.heap TI (.ref i1) (.ref i2)) (st1 : St1 i s.heap) (st2 : St2 i s.heap) (lt1 : i < n1) (lt2 : i < n2)
    (hQ : ∀ x1 x2 h' tk, P1 i x1 → P2 i x2 → IsZipHeld h' z TI TO T true → St1 (i + 1) h' → St2 (i + 1) h' → IsTupOf2 h' s.heap.objs.size x1 x2 → h'.objs.size = s.heap.objs.size + 1 →
      (∀ c o, c ≠ z → c ≠ i1 → c ≠ i2 → s.heap.get? c = some o → h'.get? c = some o) → Q (.ref s.heap.objs.size) { s with heap := h', toks := tk }) :
    wpAny (model prog w) A (Builtin.«zip.__next__» ⟨[.ref z], []⟩) (fun fin s' => ∃ v, fin = .done (.ret v) ∧ Q v s') E s := by
  obtain ⟨hp, g, d, tk0, os⟩ := s
  show wpAny _ _ (field (.ref z) 2 >>= _) _ _ _
  refine wpAny_bind (wpAny_field hz rfl (x := .bool false) rfl ?_)
  show wpAny _ _ (field (.ref z) 3 >>= _) _ _ _
  refine wpAny_bind (wpAny_field hz rfl (x := .ref TI) rfl ?_)
  refine wpAny_bind (wpAny_seqItems hTI rfl ?_)
  show wpAny _ _ (Builtin.SmallTypes.ownedTupleIsFree (.ref z) >>= _) _ _ _
  refine wpAny_bind (wpAny_tupleHeld_zip hz hT fun g0 hz0 hs0 => ?_)
  replace hs0 : Heap.SameBut z hp g0 := hs0
  simp only [Bool.false_eq_true, if_false]
  refine wpAny_bind ?_
  rw [← Array.forIn_toList]
  simp only [List.forIn_cons, List.forIn_nil]
  refine wpAny_bind (wpAny_bind (wpAny_holding ?_))
  show wpAny _ _ (Builtin.SmallTypes.nextOf (.ref i1) >>= _) _ _ ⟨g0, g, d, tk0, os⟩
  refine wpAny_bind (D1.item i _ _ _ lt1 (D1.over st1 hs0 S.zf1) fun x1 p1 tk1 hx1 sn1 hp1 => wpAny_pure ?_)
  replace hp1 : Heap.SameBut i1 g0 p1 := hp1
  refine wpAny_pure ?_
  refine wpAny_bind (wpAny_bind (wpAny_holding ?_))
  show wpAny _ _ (Builtin.SmallTypes.nextOf (.ref i2) >>= _) _ _ ⟨p1, g, d, tk1, os⟩
  refine wpAny_bind (D2.item i _ _ _ lt2 (D2.over (D2.over st2 hs0 S.zf2) hp1 S.sep1_2) fun x2 p2 tk2 hx2 sn2 hp2 => wpAny_pure ?_)
  replace hp2 : Heap.SameBut i2 p1 p2 := hp2
  refine wpAny_pure (wpAny_pure ?_)
  show wpAny _ _ (newTuple [x1, x2] >>= _) _ _ _
  refine wpAny_bind (wpAny_newTuple ?_)
  have size2 : p2.objs.size = hp.objs.size := by rw [hp2.1, hp1.1, hs0.1]
  have zip2 : IsZipHeld p2 z TI TO T true := hp2.extBut _ _ S.zi2 (hp1.extBut _ _ S.zi1 hz0)
  have old2 : ∀ c o, c ≠ z → c ≠ i1 → c ≠ i2 → hp.get? c = some o → p2.get? c = some o := fun c o c1 c2 c3 e => hp2.extBut _ _ c3 (hp1.extBut _ _ c2 (hs0.extBut _ _ c1 e))
  have fst2 : St1 (i + 1) p2 := D1.over sn1 hp2 S.sep2_1
  refine wpAny_pure ⟨_, rfl, ?_⟩
  show Q (.ref p2.objs.size) ⟨p2.push { cls := .type "tuple", data := .seq #[x1, x2] }, g, d, tk2, os⟩
  have pairAt : IsTupOf2 (p2.push { cls := .type "tuple", data := .seq #[x1, x2] }) p2.objs.size x1 x2 := Heap.get?_push_size _ rfl
  have size3 : (p2.push { cls := .type "tuple", data := .seq #[x1, x2] }).objs.size = p2.objs.size + 1 := Heap.size_push ..
  rw [size2] at pairAt size3 ⊢
  exact hQ x1 x2 _ tk2 hx1 hx2 (Heap.get?_push_of_some _ zip2) (D1.frame _ _ _ fst2 fun b _ o e => Heap.get?_push_of_some _ e) (D2.frame _ _ _ sn2 fun b _ o e => Heap.get?_push_of_some _ e) pairAt size3 fun c o c1 c2 c3 e => Heap.get?_push_of_some _ (old2 c o c1 c2 c3 e)
theorem held_end {T : Addr} {f : Bool} {oT : Obj} {Q : Fin → Shared → Prop} (S : ZipSep2 z TI TO i1 i2 fp1 fp2) (D1 : Draws prog w A i1 fp1 n1 P1 St1) (D2 : Draws prog w A i2 fp2 n2 P2 St2) (hz : IsZipHeld s.heap z TI TO T f) (hT : s.heap.get? T = some oT)
    (hTI : IsTupOf2 s.heap TI (.ref i1) (.ref i2)) (st1 : St1 i s.heap) (st2 : St2 i s.heap) (le1 : i ≤ n1) (le2 : i ≤ n2) (fin : i = n1 ∨ i = n2)
    (hE : ∀ h' tk e, (∀ c o, c ≠ z → c ≠ i1 → c ≠ i2 → s.heap.get? c = some o → h'.get? c = some o) → (∃ o, h'.get? e = some o ∧ o.cls = .type "StopIteration") → E (.ref e) { s with heap := h', toks := tk }) :
    wpAny (model prog w) A (Builtin.«zip.__next__» ⟨[.ref z], []⟩) Q E s := by
  obtain ⟨hp, g, d, tk0, os⟩ := s
  show wpAny _ _ (field (.ref z) 2 >>= _) _ _ _
  refine wpAny_bind (wpAny_field hz rfl (x := .bool false) rfl ?_)
  show wpAny _ _ (field (.ref z) 3 >>= _) _ _ _
  refine wpAny_bind (wpAny_field hz rfl (x := .ref TI) rfl ?_)
  refine wpAny_bind (wpAny_seqItems hTI rfl ?_)
  show wpAny _ _ (Builtin.SmallTypes.ownedTupleIsFree (.ref z) >>= _) _ _ _
  refine wpAny_bind (wpAny_tupleHeld_zip hz hT fun g0 hz0 hs0 => ?_)
  replace hs0 : Heap.SameBut z hp g0 := hs0
  simp only [Bool.false_eq_true, if_false]
  refine wpAny_bind ?_
  rw [← Array.forIn_toList]
  simp only [List.forIn_cons, List.forIn_nil]
  refine wpAny_bind (wpAny_bind (wpAny_holding ?_))
  show wpAny _ _ (Builtin.SmallTypes.nextOf (.ref i1) >>= _) _ _ ⟨g0, g, d, tk0, os⟩
  by_cases e1 : i = n1
  · subst e1
    refine wpAny_bind (D1.done _ _ _ (D1.over st1 hs0 S.zf1) fun h2 e hx he => ?_)
    exact hE h2 tk0 e (fun c o c1 c2 _ x => hx _ _ c2 (hs0.extBut _ _ c1 x)) he
  · have e2 : i = n2 := fin.resolve_left e1
    subst e2
    refine wpAny_bind (D1.item i _ _ _ (by omega) (D1.over st1 hs0 S.zf1) fun x1 p1 tk1 hx1 sn1 hp1 => wpAny_pure ?_)
    replace hp1 : Heap.SameBut i1 g0 p1 := hp1
    refine wpAny_pure ?_
    refine wpAny_bind (wpAny_bind (wpAny_holding ?_))
    show wpAny _ _ (Builtin.SmallTypes.nextOf (.ref i2) >>= _) _ _ ⟨p1, g, d, tk1, os⟩
    refine wpAny_bind (D2.done _ _ _ (D2.over (D2.over st2 hs0 S.zf2) hp1 S.sep1_2) fun h2 e hx he => ?_)
    exact hE h2 tk1 e (fun c o c1 c2 c3 x => hx _ _ c3 (hp1.extBut _ _ c2 (hs0.extBut _ _ c1 x))) he
/-- one next, whatever is out -/
theorem zip_turn {Q : Option Value → Shared → Prop} (S : ZipSep2 z TI TO i1 i2 fp1 fp2) (D1 : Draws prog w A.in1 i1 fp1 n1 P1 St1) (D2 : Draws prog w A.in1 i2 fp2 n2 P2 St2) (hz : ZCell z TI TO s.heap) (hTI : IsTupOf2 s.heap TI (.ref i1) (.ref i2)) (st1 : St1 i s.heap) (st2 : St2 i s.heap) (lt1 : i < n1) (lt2 : i < n2)
    (hQ : ∀ x1 x2 h' tk, P1 i x1 → P2 i x2 → ZCell z TI TO h' → St1 (i + 1) h' → St2 (i + 1) h' → IsTupOf2 h' s.heap.objs.size x1 x2 → h'.objs.size = s.heap.objs.size + 1 →
      (∀ c o, c ≠ z → c ≠ TO → c ≠ i1 → c ≠ i2 → s.heap.get? c = some o → h'.get? c = some o) → Q (some (.ref s.heap.objs.size)) { s with heap := h', toks := tk }) :
    wpAny (model prog w) A (pyNext (.ref z)) Q E s := by
  rcases hz with ⟨hz, a1, a2, hTO⟩ | ⟨T, f, oT, hz, hT⟩
  · exact wpAny_pyNext_zipD2_item S D1 D2 hz hTI hTO st1 st2 lt1 lt2 fun x1 x2 h' tk p1 p2 b1 b2 s1 s2 b3 b4 b5 => hQ x1 x2 h' tk p1 p2 (.inr ⟨_, false, _, b1, b3⟩) s1 s2 b3 b4 b5
  · have isZ : s.TypeIs (.ref z) "zip" := ⟨_, hz, rfl⟩
    unfold pyNext
    refine wpAny_bind (wpAny_attempt (wpAny_callSpecial?_slot (name := Str.ofString "__next__") isZ F.slot_zip_next (wpAny_call_entry F.slot_zip_next isZ F.entry_zip_next (held_next S D1 D2 hz hT hTI st1 st2 lt1 lt2 fun x1 x2 h' tk p1 p2 b1 s1 s2 b3 b4 b5 => ?_) (F.args_zip_next_1 _))))
    refine wpAny_pure (hQ x1 x2 h' tk p1 p2 ?_ s1 s2 b3 b4 fun c o c1 _ c2 c3 e => b5 c o c1 c2 c3 e)
    refine .inr ⟨T, true, ?_⟩
    by_cases hTz : T = z
    · exact ⟨_, b1, by rw [hTz]; exact b1⟩
    · by_cases h1 : T = i1
      · obtain ⟨o, ho⟩ := D1.live _ _ s1
        exact ⟨o, b1, by rw [h1]; exact ho⟩
      · by_cases h2 : T = i2
        · obtain ⟨o, ho⟩ := D2.live _ _ s2
          exact ⟨o, b1, by rw [h2]; exact ho⟩
        · exact ⟨oT, b1, b5 T oT hTz h1 h2 hT⟩
theorem zip_stop {Q : Option Value → Shared → Prop} (S : ZipSep2 z TI TO i1 i2 fp1 fp2) (D1 : Draws prog w A.in1 i1 fp1 n1 P1 St1) (D2 : Draws prog w A.in1 i2 fp2 n2 P2 St2) (hz : ZCell z TI TO s.heap) (hTI : IsTupOf2 s.heap TI (.ref i1) (.ref i2)) (st1 : St1 i s.heap) (st2 : St2 i s.heap) (le1 : i ≤ n1) (le2 : i ≤ n2) (fin : i = n1 ∨ i = n2)
    (hQ : ∀ h' tk, (∀ c o, c ≠ z → c ≠ TO → c ≠ i1 → c ≠ i2 → s.heap.get? c = some o → h'.get? c = some o) → Q none { s with heap := h', toks := tk }) : wpAny (model prog w) A (pyNext (.ref z)) Q E s := by
  rcases hz with ⟨hz, a1, a2, hTO⟩ | ⟨T, f, oT, hz, hT⟩
  · exact wpAny_pyNext_zipD2_end S D1 D2 hz hTI hTO st1 st2 le1 le2 fin hQ
  · have isZ : s.TypeIs (.ref z) "zip" := ⟨_, hz, rfl⟩
    unfold pyNext
    refine wpAny_bind (wpAny_attempt (wpAny_callSpecial?_slot (name := Str.ofString "__next__") isZ F.slot_zip_next (wpAny_call_entry F.slot_zip_next isZ F.entry_zip_next (held_end S D1 D2 hz hT hTI st1 st2 le1 le2 fin fun h' tk e hk he => ?_) (F.args_zip_next_1 _))))
    obtain ⟨o, ho, hc⟩ := he
    refine wpAny_bind (wpAny_isInstance (T := "StopIteration") (b := true) ⟨o, ho, hc⟩ isSubtype_stop ?_)
    exact wpAny_pure (hQ _ _ fun c o c1 _ c2 c3 e => hk c o c1 c2 c3 e)
end
end BV

/-! tuple(zip(a, b)), list(zip(a, b)): the pairs are gathered. -/
namespace BV
open PySem PySem.Spec PySem.W PySem.Calls PyProof.Rows

/-- the pairs gathered so far stand at the addresses as, all of them from b0 on -/
structure Got (P1 P2 : Nat → Value → Prop) (b0 : Nat) (as : List Addr) (h : Heap) : Prop where
  rise : as.Pairwise (· < ·)
  low : ∀ a ∈ as, b0 ≤ a
  at_ : ∀ (j : Nat) (a : Addr), as[j]? = some a → ∃ x1 x2, P1 j x1 ∧ P2 j x2 ∧ IsTupOf2 h a x1 x2
section
variable {P1 P2 : Nat → Value → Prop} {b0 : Nat} {as : List Addr} {h h' : Heap}
theorem Got.keeps (g : Got P1 P2 b0 as h) (k : ∀ c o, b0 ≤ c → h.get? c = some o → h'.get? c = some o) : Got P1 P2 b0 as h' := ⟨g.rise, g.low, fun j a e =>
  let ⟨x1, x2, p1, p2, q⟩ := g.at_ j a e
  ⟨x1, x2, p1, p2, k a _ (g.low a (List.mem_of_getElem? e)) q⟩⟩
theorem Got.more (g : Got P1 P2 b0 as h) {a : Addr} {x1 x2 : Value} (p1 : P1 as.length x1) (p2 : P2 as.length x2) (q : IsTupOf2 h a x1 x2) (hb : b0 ≤ a) (ha : ∀ c ∈ as, c < a) : Got P1 P2 b0 (as ++ [a]) h := by
  refine ⟨List.pairwise_append.mpr ⟨g.rise, List.pairwise_singleton _ _, fun c hc d hd => by rw [List.mem_singleton.mp hd]; exact ha c hc⟩, fun c hc => ?_, fun j c e => ?_⟩
  · rcases List.mem_append.mp hc with hc | hc
    · exact g.low c hc
    · rw [List.mem_singleton.mp hc]; exact hb
  · rcases Nat.lt_trichotomy j as.length with hj | hj | hj
    · rw [List.getElem?_append_left hj] at e
      exact g.at_ j c e
    · subst hj
      have : a = c := by simpa using e
      subst this
      exact ⟨x1, x2, p1, p2, q⟩
    · rw [List.getElem?_eq_none (by rw [List.length_append, List.length_singleton]; omega)] at e
      cases e
theorem Got.there (g : Got P1 P2 b0 as h) {a : Addr} (ha : a ∈ as) : a < h.objs.size := by
  obtain ⟨j, hj⟩ := List.mem_iff_getElem?.mp ha
  obtain ⟨_, _, _, _, e⟩ := g.at_ j a hj
  exact Heap.lt_size e
end
abbrev lstO (acc : Array Value) (c : Nat) : Obj := { cls := .type "list", dict := none, data := .seq acc c, slots := #[] }
section
variable {prog : Program} {w : World} {A : Around} {s : Shared} {R : Result → Shared → Prop} {z TI TO i1 i2 L : Addr} {fp1 fp2 : List Addr} {n1 n2 : Nat} {P1 P2 : Nat → Value → Prop} {St1 St2 : Nat → Heap → Prop} {b0 : Nat}
/-- the list that gathers lies apart -/
structure Apart (z TI TO i1 i2 L : Addr) (fp1 fp2 : List Addr) (b0 : Nat) : Prop where
  z0 : z < b0
  T0 : TO < b0
  i10 : i1 < b0
  i20 : i2 < b0
  L0 : L < b0
  f1 : L ∉ fp1
  f2 : L ∉ fp2
  Lz : L ≠ z
  LT : L ≠ TO
  LI : L ≠ TI
  L1 : L ≠ i1
  L2 : L ≠ i2
theorem ZCell.up (g : ZCell z TI TO h) {h' : Heap} (hLz : L ≠ z) (hLT : L ≠ TO) (k : ∀ c o, c ≠ L → h.get? c = some o → h'.get? c = some o) (kL : ∀ o, h.get? L = some o → ∃ o', h'.get? L = some o') : ZCell z TI TO h' := by
  rcases g with ⟨g1, a1, a2, g2⟩ | ⟨T, f, oT, g1, g2⟩
  · exact .inl ⟨k _ _ hLz.symm g1, a1, a2, k _ _ hLT.symm g2⟩
  · by_cases hT : T = L
    · subst hT
      obtain ⟨o', e⟩ := kL _ g2
      exact .inr ⟨T, f, o', k _ _ hLz.symm g1, e⟩
    · exact .inr ⟨T, f, oT, k _ _ hLz.symm g1, k _ _ hT g2⟩
theorem zip_loop (SP : ZipSep2 z TI TO i1 i2 fp1 fp2) (D1 : Draws prog w A.in1.in1 i1 fp1 n1 P1 St1) (D2 : Draws prog w A.in1.in1 i2 fp2 n2 P2 St2) (Ap : Apart z TI TO i1 i2 L fp1 fp2 b0) (hn : min n1 n2 ≤ sizeLine) (res : Value) {h₁ : Heap}
    (hR : ∀ h' tk acc c as, (∀ b o, b ≠ L → b ≠ z → b ≠ TO → b ≠ i1 → b ≠ i2 → h₁.get? b = some o → h'.get? b = some o) → h'.get? L = some (lstO acc c) → as.length = min n1 n2 → Got P1 P2 b0 as h' → acc.toList = as.map Value.ref → R (.ok (.ret res)) { s with heap := h', toks := tk }) :
    ∀ (k i : Nat) (h : Heap) (tk c : Nat) (acc : Array Value) (as : List Addr), min n1 n2 - i = k → i ≤ min n1 n2 → ZCell z TI TO h → IsTupOf2 h TI (.ref i1) (.ref i2) → St1 i h → St2 i h → (∀ b o, b ≠ L → b ≠ z → b ≠ TO → b ≠ i1 → b ≠ i2 → h₁.get? b = some o → h.get? b = some o) →
      h.get? L = some (lstO acc c) → acc.toList = as.map Value.ref → as.length = i → Got P1 P2 b0 as h → b0 ≤ h.objs.size →
      codeAny (model prog w) A (.builtin "list.extend.loop" ⟨[.ref L, .ref z, res], []⟩) R { s with heap := h, toks := tk } := by
  intro k
  induction k with
  | zero =>
    intro i h tk c acc as hk hi hz hTI s1 s2 keep hL hacc hal hG hb
    refine codeAny_builtin PySem.F.entry_extend_loop ?_
    rw [Around.under_plainId PySem.F.plain_extend_loop _]
    show wpAny _ A.in1 (pyNext (.ref z) >>= _) _ _ _
    refine wpAny_bind (zip_stop (s := { s with heap := h, toks := tk }) SP D1 D2 hz hTI s1 s2 (by omega) (by omega) (by omega) fun h' tk' hk' => ?_)
    exact wpAny_pure (hR h' tk' acc c as (fun b o a1 a2 a3 a4 a5 e => hk' b o a2 a3 a4 a5 (keep b o a1 a2 a3 a4 a5 e)) (hk' L _ Ap.Lz Ap.LT Ap.L1 Ap.L2 hL) (by omega)
      (hG.keeps fun c o hc e => hk' c o (Nat.ne_of_gt (Nat.lt_of_lt_of_le Ap.z0 hc)) (Nat.ne_of_gt (Nat.lt_of_lt_of_le Ap.T0 hc)) (Nat.ne_of_gt (Nat.lt_of_lt_of_le Ap.i10 hc)) (Nat.ne_of_gt (Nat.lt_of_lt_of_le Ap.i20 hc)) e) hacc)
  | succ k ih =>
    intro i h tk c acc as hk hi hz hTI s1 s2 keep hL hacc hal hG hb
    have hsz : acc.size = i := by rw [← Array.length_toList, hacc, List.length_map, hal]
    refine codeAny_builtin PySem.F.entry_extend_loop ?_
    rw [Around.under_plainId PySem.F.plain_extend_loop _]
    show wpAny _ A.in1 (pyNext (.ref z) >>= _) _ _ _
    refine wpAny_bind (zip_turn (s := { s with heap := h, toks := tk }) SP D1 D2 hz hTI s1 s2 (by omega) (by omega) fun x1 x2 h' tk' p1 p2 hz' t1 t2 pr hsize kp => ?_)
    dsimp only at pr hsize kp ⊢
    have hL' := kp L _ Ap.Lz Ap.LT Ap.L1 Ap.L2 hL
    have up : ∀ b o, b ≠ L → h'.get? b = some o → (h'.update L (Obj.mapSeq (·.push (Value.ref h.objs.size)))).get? b = some o := fun b o hne e => (Heap.get?_update_other _ _ (Ne.symm hne)).trans e
    have hLl : L < h.objs.size := Heap.lt_size hL
    have newL := Heap.get?_update_self (Obj.mapSeq (·.push (Value.ref h.objs.size))) hL' rfl
    have far : ∀ c o, b0 ≤ c → h.get? c = some o → (h'.update L (Obj.mapSeq (·.push (Value.ref h.objs.size)))).get? c = some o := fun c o hc e =>
      up c o (Nat.ne_of_gt (Nat.lt_of_lt_of_le Ap.L0 hc)) (kp c o (Nat.ne_of_gt (Nat.lt_of_lt_of_le Ap.z0 hc)) (Nat.ne_of_gt (Nat.lt_of_lt_of_le Ap.T0 hc)) (Nat.ne_of_gt (Nat.lt_of_lt_of_le Ap.i10 hc)) (Nat.ne_of_gt (Nat.lt_of_lt_of_le Ap.i20 hc)) e)
    have pr' : IsTupOf2 (h'.update L (Obj.mapSeq (·.push (Value.ref h.objs.size)))) h.objs.size x1 x2 := up _ _ (Nat.ne_of_gt hLl) pr
    show wpAny _ A.in1 (updateSeq L (·.push (Value.ref h.objs.size)) >>= _) _ _ _
    refine wpAny_bind ?_
    refine wpAny_updateSeq hL' rfl (wpAny_pure ⟨plainId_quiet PySem.F.plain_extend_loop _, ih (i + 1) _ tk' _ (acc.push (Value.ref h.objs.size)) (as ++ [h.objs.size]) (by omega) (by omega)
      (hz'.up Ap.Lz Ap.LT up fun o _ => ⟨_, newL⟩) (up _ _ Ap.LI.symm (kp _ _ SP.TIz SP.TITO SP.TIi1 SP.TIi2 hTI)) (D1.frame _ _ _ t1 fun b hb' o e => up b o (fun q => Ap.f1 (q ▸ hb')) e) (D2.frame _ _ _ t2 fun b hb' o e => up b o (fun q => Ap.f2 (q ▸ hb')) e)
      (fun b o a1 a2 a3 a4 a5 e => up b o a1 (kp b o a2 a3 a4 a5 (keep b o a1 a2 a3 a4 a5 e))) newL (by rw [Array.toList_push, hacc, List.map_append]; rfl) (by rw [List.length_append, hal]; rfl)
      ((hG.keeps far).more (by rw [hal]; exact p1) (by rw [hal]; exact p2) pr' hb fun c hc => hG.there hc) (Nat.le_trans hb (Nat.le_of_lt (Heap.lt_size pr')))⟩) (by rw [hsz]; omega) (by show (acc.push _).size ≤ _; rw [Array.size_push, hsz]; omega)
theorem zip_nolen : typeLookup (.type "zip") "__len__" = pure none := am_miss_of_fast (by decide +kernel)
theorem zip_nohint : typeLookup (.type "zip") "__length_hint__" = pure none := am_miss_of_fast (by decide +kernel)
theorem zip_extend (SP : ZipSep2 z TI TO i1 i2 fp1 fp2) (D1 : Draws prog w A.in1.in1 i1 fp1 n1 P1 St1) (D2 : Draws prog w A.in1.in1 i2 fp2 n2 P2 St2) (Ap : Apart z TI TO i1 i2 L fp1 fp2 b0) (hn : min n1 n2 ≤ sizeLine) (res : Value) {c0 : Nat}
    (hz : IsZip s.heap z TI TO .none) (hTI : IsTupOf2 s.heap TI (.ref i1) (.ref i2)) (hTO : ∃ a1 a2, IsTupOf2 s.heap TO a1 a2) (s1 : St1 0 s.heap) (s2 : St2 0 s.heap) (hL : s.heap.get? L = some (lstO #[] c0)) (hb : b0 ≤ s.heap.objs.size)
    (hR : ∀ h' tk acc c as, (∀ b o, b ≠ L → b ≠ z → b ≠ TO → b ≠ i1 → b ≠ i2 → s.heap.get? b = some o → h'.get? b = some o) → h'.get? L = some (lstO acc c) → as.length = min n1 n2 → Got P1 P2 b0 as h' → acc.toList = as.map Value.ref → R (.ok (.ret res)) { s with heap := h', toks := tk }) :
    wpAny (model prog w) A.in1 (Builtin.List.listExtendWith (.ref L) (.ref z) res)
      (fun fin s' => match fin with | .done f => R (.ok f) s' | .again c' => c'.quiet = true ∧ codeAny (model prog w) A c' R s') (fun e s' => R (.error e) s') s := by
  have isZ : ∀ {h : Heap} {tk : Nat}, IsZip h z TI TO .none → Shared.TypeIs { s with heap := h, toks := tk } (.ref z) "zip" := fun q => ⟨_, q, rfl⟩
  unfold Builtin.List.listExtendWith
  refine wpAny_bind (wpAny_typeOf (T := "zip") (isZ hz) ?_)
  have h1 : Builtin.List.listSameRef (.ref L) (.ref z) = false := by simp [Builtin.List.listSameRef, Ap.Lz]
  have h2 : (Value.type "zip" == Value.type "list") = false := by decide
  have h3 : (Value.type "zip" == Value.type "tuple") = false := by decide
  simp only [h1, h2, h3, Bool.or_false, Bool.false_eq_true, if_false]
  refine wpAny_bind (wpAny_pyIter_zip hz ?_)
  refine wpAny_bind (wpAny_holding ?_)
  unfold Builtin.List.listLengthHint
  refine wpAny_bind (wpAny_specialOf (isZ hz) zip_nolen ?_)
  show wpAny _ A.in1 (specialOf (Value.ref z) (Str.ofString "__length_hint__") >>= _) _ _ _
  refine wpAny_bind (wpAny_specialOf (isZ hz) zip_nohint ?_)
  refine wpAny_pure ?_
  show wpAny _ A.in1 (rule "list.extend.makes-room" >>= fun _ => Builtin.List.listTouch (.ref L) >>= fun _ => again (.builtin "list.extend.loop" ⟨[.ref L, .ref z, res], []⟩)) _ _ _
  refine wpAny_bind (wpAny_rule ?_)
  refine wpAny_bind ?_
  show wpAny _ A.in1 (updateSeq L (·.push .none) >>= fun _ => updateSeq L (·.pop)) _ _ _
  refine wpAny_bind (wpAny_updateSeq hL rfl ?_)
  have hL2 := Heap.get?_update_self (Obj.mapSeq (·.push Value.none)) hL rfl
  refine wpAny_updateSeq hL2 rfl ?_
  have hL3 := Heap.get?_update_self (Obj.mapSeq (·.pop)) hL2 rfl
  have up : ∀ b o, b ≠ L → s.heap.get? b = some o → ((s.heap.update L (Obj.mapSeq (·.push Value.none))).update L (Obj.mapSeq (·.pop))).get? b = some o :=
    fun b o hne e => (Heap.get?_update_other _ _ (Ne.symm hne)).trans ((Heap.get?_update_other _ _ (Ne.symm hne)).trans e)
  refine wpAny_pure ⟨plainId_quiet PySem.F.plain_extend_loop _, ?_⟩
  obtain ⟨a1, a2, hTO⟩ := hTO
  exact zip_loop SP D1 D2 Ap hn res (h₁ := s.heap) hR (min n1 n2) 0 _ _ _ #[] [] (Nat.sub_zero _) (Nat.zero_le _) (.inl ⟨up _ _ Ap.Lz.symm hz, a1, a2, up _ _ Ap.LT.symm hTO⟩) (up _ _ Ap.LI.symm hTI)
    (D1.frame _ _ _ s1 fun b hb' o e => up b o (fun q => Ap.f1 (q ▸ hb')) e) (D2.frame _ _ _ s2 fun b hb' o e => up b o (fun q => Ap.f2 (q ▸ hb')) e) (fun b o a1 _ _ _ _ e => up b o a1 e) hL3 rfl rfl
    ⟨List.Pairwise.nil, (fun _ m => nomatch m), fun j a e => by simp at e⟩ (by rw [Heap.size_update, Heap.size_update]; exact hb)
end
end BV

/-! tuple(zip(a, b)), list(zip(a, b)): the calls. -/
namespace BV
open PySem PySem.Spec PySem.W PySem.Calls PyProof.Rows

/-- what stands at l, a list or a tuple of the items, can be gone through -/
structure Src (prog : Program) (w : World) (l : Addr) (items : Array Value) (o : Obj) (H : Heap → Prop) (St : Addr → Nat → Heap → Prop) : Prop where
  begins : Begins (.ref l) o H
  draws : ∀ (A : Around) (it : Addr), A.handled = none → l ≠ it → Draws prog w A it [it, l] items.size (fun i x => items[i]? = some x) (St it)
  start : ∀ (h : Heap) (it : Addr), H h → h.get? it = some o → St it 0 h
theorem src_list {prog : Program} {w : World} (l : Addr) (items : Array Value) : Src prog w l items { cls := .type "list_iterator", data := .fields #[.ref l, .int 0 0] } (fun h => h.IsList l items) fun it i h => h.IsListIter it l i ∧ h.IsList l items :=
  ⟨begins_list l items, fun A it hh hne => Draws.list hh it l hne items, fun h it hl e => ⟨⟨_, e, rfl, rfl⟩, hl⟩⟩
theorem src_tuple {prog : Program} {w : World} (l : Addr) (items : Array Value) : Src prog w l items { cls := .type "tuple_iterator", data := .fields #[.ref l, .int 0 0] } (fun h => h.IsTuple l items) fun it i h => h.IsTupleIter it l i ∧ h.IsTuple l items :=
  ⟨begins_tuple l items, fun A it hh hne => Draws.tuple hh it l hne items, fun h it hl e => ⟨⟨_, e, rfl, rfl⟩, hl⟩⟩
abbrev PairsAt (xs ys : Array Value) (b0 : Nat) (as : List Addr) (h : Heap) : Prop := Got (fun i x => xs[i]? = some x) (fun i x => ys[i]? = some x) b0 as h
theorem apart_new {N : Nat} {l1 l2 : Addr} (h1 : l1 < N) (h2 : l2 < N) : Apart (N + 4) (N + 2) (N + 3) N (N + 1) (N + 5) [N, l1] [N + 1, l2] (N + 6) where
  z0 := show (N + 4 : Nat) < N + 6 by omega
  T0 := show (N + 3 : Nat) < N + 6 by omega
  i10 := show (N : Nat) < N + 6 by omega
  i20 := show (N + 1 : Nat) < N + 6 by omega
  L0 := show (N + 5 : Nat) < N + 6 by omega
  f1 := fun m => by
    rcases List.mem_cons.mp m with e | m
    · exact absurd (show (N + 5 : Nat) = N from e) (by omega)
    · exact absurd (List.mem_singleton.mp m) (Nat.ne_of_gt (Nat.lt_of_lt_of_le h1 (Nat.le_add_right _ _)))
  f2 := fun m => by
    rcases List.mem_cons.mp m with e | m
    · exact absurd (show (N + 5 : Nat) = N + 1 from e) (by omega)
    · exact absurd (List.mem_singleton.mp m) (Nat.ne_of_gt (Nat.lt_of_lt_of_le h2 (Nat.le_add_right _ _)))
  Lz := show (N + 5 : Nat) ≠ N + 4 by omega
  LT := show (N + 5 : Nat) ≠ N + 3 by omega
  LI := show (N + 5 : Nat) ≠ N + 2 by omega
  L1 := show (N + 5 : Nat) ≠ N by omega
  L2 := show (N + 5 : Nat) ≠ N + 1 by omega
section
variable {prog : Program} {w : World} {A : Around} {E : Value → Shared → Prop} {s : Shared} {l1 l2 : Addr} {xs ys : Array Value} {o1 o2 : Obj} {H1 H2 : Heap → Prop} {St1 St2 : Addr → Nat → Heap → Prop} {N : Nat}
/-- a fresh zip over l1 and l2, its cells from N on -/
structure Zipped (N : Nat) (s0 s : Shared) (St1 St2 : Addr → Nat → Heap → Prop) : Prop where
  z : IsZip s.heap (N + 4) (N + 2) (N + 3) .none
  TI : IsTupOf2 s.heap (N + 2) (.ref N) (.ref (N + 1))
  TO : IsTupOf2 s.heap (N + 3) .none .none
  s1 : St1 N 0 s.heap
  s2 : St2 (N + 1) 0 s.heap
  size : s.heap.objs.size = N + 5
  old : ∀ c o, s0.heap.get? c = some o → s.heap.get? c = some o
theorem call_zipS (S1 : Src prog w l1 xs o1 H1 St1) (S2 : Src prog w l2 ys o2 H2 St2) (h1 : H1 s.heap) (h2 : H2 s.heap) {Q : Value → Shared → Prop}
    (q : ∀ h', Zipped s.heap.objs.size s { s with heap := h' } St1 St2 → Q (.ref (s.heap.objs.size + 4)) { s with heap := h' }) : wpAny (model prog w) A (call (.type "zip") [.ref l1, .ref l2]) Q E s :=
  zip_begins2 S1.begins S2.begins h1 h2 fun h' a1 a2 a3 a4 a5 a6 a7 => q h' ⟨a1, a2, a3, S1.start _ _ (S1.begins.keeps _ _ h1 a7) a4, S2.start _ _ (S2.begins.keeps _ _ h2 a7) a5, a6, a7⟩
theorem sep_of (k1 : l1 < N) (k2 : l2 < N) : ZipSep2 (N + 4) (N + 2) (N + 3) N (N + 1) [N, l1] [N + 1, l2] := zip_sep2 (fun b m => by rw [List.mem_singleton.mp m]; exact k1) fun b m => by rw [List.mem_singleton.mp m]; exact k2
theorem zip_gather {R : Result → Shared → Prop} {c0 : Nat} {s0 : Shared} (S1 : Src prog w l1 xs o1 H1 St1) (S2 : Src prog w l2 ys o2 H2 St2) (hh : A.handled = none) (k1 : l1 < N) (k2 : l2 < N) (hn : min xs.size ys.size ≤ sizeLine) (Z : Zipped N s0 s0 St1 St2) (res : Value)
    (up : ∀ b o, s0.heap.get? b = some o → s.heap.get? b = some o) (hL : s.heap.get? (N + 5) = some (lstO #[] c0)) (hb : N + 6 ≤ s.heap.objs.size)
    (hR : ∀ h' tk acc c as, (∀ b o, b < N → s0.heap.get? b = some o → h'.get? b = some o) → h'.get? (N + 5) = some (lstO acc c) → as.length = min xs.size ys.size → PairsAt xs ys (N + 6) as h' → acc.toList = as.map Value.ref → R (.ok (.ret res)) { s with heap := h', toks := tk }) :
    wpAny (model prog w) A.in1 (Builtin.List.listExtendWith (.ref (N + 5)) (.ref (N + 4)) res)
      (fun fin s' => match fin with | .done f => R (.ok f) s' | .again c' => c'.quiet = true ∧ codeAny (model prog w) A c' R s') (fun e s' => R (.error e) s') s := by
  have D1 := S1.draws A.in1.in1 N hh (Nat.ne_of_lt k1)
  have D2 := S2.draws A.in1.in1 (N + 1) hh (Nat.ne_of_lt (Nat.lt_succ_of_lt k2))
  refine zip_extend (b0 := N + 6) (n1 := xs.size) (n2 := ys.size) (sep_of k1 k2) D1 D2 (apart_new k1 k2) hn res (c0 := c0) (up _ _ Z.z) (up _ _ Z.TI) ⟨_, _, up _ _ Z.TO⟩ (D1.frame _ _ _ Z.s1 fun b _ o e => up b o e) (D2.frame _ _ _ Z.s2 fun b _ o e => up b o e) hL hb fun h' tk acc c as a1 a2 a3 a4 a5 => ?_
  refine hR h' tk acc c as (fun b o hb e => a1 b o ?_ ?_ ?_ ?_ ?_ (up b o e)) a2 a3 a4 a5
  · exact Nat.ne_of_lt (Nat.lt_of_lt_of_le hb (Nat.le_add_right _ _))
  · exact Nat.ne_of_lt (Nat.lt_of_lt_of_le hb (Nat.le_add_right _ _))
  · exact Nat.ne_of_lt (Nat.lt_of_lt_of_le hb (Nat.le_add_right _ _))
  · exact Nat.ne_of_lt hb
  · exact Nat.ne_of_lt (Nat.lt_of_lt_of_le hb (Nat.le_add_right _ _))
/-- list(a fresh zip) -/
theorem list_of_zip (S1 : Src prog w l1 xs o1 H1 St1) (S2 : Src prog w l2 ys o2 H2 St2) (hh : A.handled = none) (k1 : l1 < N) (k2 : l2 < N) (hn : min xs.size ys.size ≤ sizeLine) (Z : Zipped N s s St1 St2) {Q : Value → Shared → Prop}
    (q : ∀ h' tk acc c as, (∀ b o, b < N → s.heap.get? b = some o → h'.get? b = some o) → h'.get? (N + 5) = some (lstO acc c) → as.length = min xs.size ys.size → PairsAt xs ys (N + 6) as h' → acc.toList = as.map Value.ref → Q (.ref (N + 5)) { s with heap := h', toks := tk }) :
    wpAny (model prog w) A (call (.type "list") [.ref (N + 4)]) Q E s := by
  refine callType_codes (Q₁ := fun obj s₁ => obj = .ref s.heap.objs.size ∧ s₁ = { s with heap := s.heap.push { cls := .type "list", data := .seq #[] } }) PySem.F.called_list (PySem.F.typeCall_list_1 _) PySem.F.entry_list_init
    (code_list_new _ ⟨rfl, rfl⟩) fun obj s₁ h₁ => ?_
  obtain ⟨rfl, rfl⟩ := h₁
  have hL : (s.heap.push { cls := .type "list", data := .seq #[] }).get? s.heap.objs.size = some (lstO #[] 0) := Heap.get?_push_size _ rfl
  refine ⟨⟨_, hL, rfl⟩, PySem.F.args_list_init_2 _ _, ?_⟩
  show wpAny _ _ (do let old ← Builtin.List.listItems (.ref s.heap.objs.size); Builtin.List.listUpdate (.ref s.heap.objs.size) (fun _ => #[]); letGo old.toList.reverse; Builtin.List.listExtendWith (.ref s.heap.objs.size) (.ref (N + 4)) .none) _ _ _
  refine wpAny_bind ?_
  unfold Builtin.List.listItems
  refine wpAny_bind (wpAny_seqItems hL rfl (wpAny_pure ?_))
  show wpAny _ _ (updateSeq s.heap.objs.size (fun _ => #[]) >>= fun _ => letGo (#[] : Array Value).toList.reverse >>= fun _ => Builtin.List.listExtendWith (.ref s.heap.objs.size) (.ref (N + 4)) .none) _ _ _
  refine wpAny_bind (wpAny_updateSeq hL rfl ?_)
  refine wpAny_bind (wpAny_letGo ?_)
  have hL2 := Heap.get?_update_self (Obj.mapSeq (fun _ => (#[] : Array Value))) hL rfl
  have up : ∀ b o, s.heap.get? b = some o → ((s.heap.push { cls := .type "list", data := .seq #[] }).update s.heap.objs.size (Obj.mapSeq (fun _ => (#[] : Array Value)))).get? b = some o := fun b o e =>
    (Heap.get?_update_other _ _ (Nat.ne_of_gt (Heap.lt_size e))).trans (Heap.get?_push_of_some _ e)
  rw [Z.size] at hL2 up ⊢
  refine zip_gather (s0 := s) (A := A.in1) S1 S2 hh k1 k2 hn Z .none up hL2 ?_ fun h' tk acc c as a1 a2 a3 a4 a5 => ⟨rfl, q h' tk acc c as a1 a2 a3 a4 a5⟩
  rw [Heap.size_update, Heap.size_push, Z.size]
  exact Nat.le_refl _
/-- the pairs of a fresh zip, gathered -/
theorem collect_zip (S1 : Src prog w l1 xs o1 H1 St1) (S2 : Src prog w l2 ys o2 H2 St2) (hh : A.handled = none) (k1 : l1 < N) (k2 : l2 < N) (hn : min xs.size ys.size ≤ sizeLine) (Z : Zipped N s s St1 St2) {Q : List Value → Shared → Prop}
    (q : ∀ h' tk as, (∀ b o, b < N → s.heap.get? b = some o → h'.get? b = some o) → as.length = min xs.size ys.size → PairsAt xs ys (N + 6) as h' → N + 5 < h'.objs.size → Q (as.map Value.ref) { s with heap := h', toks := tk }) :
    wpAny (model prog w) A (collect (.ref (N + 4))) Q E s := by
  unfold collect
  refine wpAny_bind (wpAny_runValue (codeAny_builtin entry_proto_collect' ?_))
  rw [Around.under_plainId PySem.F.plain_proto_collect _]
  show wpAny _ A.in1 (newList [] >>= fun l => again (.builtin "list.__iadd__" ⟨[l, .ref (N + 4)], []⟩)) _ _ s
  refine wpAny_bind (wpAny_newObj_type ?_)
  refine wpAny_pure ⟨plainId_quiet PySem.F.plain_list_iadd _, codeAny_builtin entry_list_iadd' ?_⟩
  rw [Around.under_plainId PySem.F.plain_list_iadd _]
  have hL : (s.heap.push { cls := .type "list", data := .seq ([] : List Value).toArray }).get? s.heap.objs.size = some (lstO #[] 0) := Heap.get?_push_size _ rfl
  show wpAny _ A.in1 (Builtin.List.listExtendWith (.ref s.heap.objs.size) (.ref (N + 4)) (.ref s.heap.objs.size)) _ _ _
  have up : ∀ b o, s.heap.get? b = some o → (s.heap.push { cls := .type "list", data := .seq ([] : List Value).toArray }).get? b = some o := fun b o e => Heap.get?_push_of_some _ e
  have hb : N + 6 ≤ (s.heap.push { cls := .type "list", data := .seq ([] : List Value).toArray }).objs.size := by rw [Heap.size_push, Z.size]; exact Nat.le_refl _
  rw [Z.size] at hL ⊢
  have key := zip_gather (s := { s with heap := s.heap.push { cls := .type "list", data := .seq ([] : List Value).toArray } }) (s0 := s) (A := A) S1 S2 hh k1 k2 hn Z (.ref (N + 5)) up hL hb
    (R := fun (r : Result) (s' : Shared) => ∃ (h' : Heap) (tk : Nat) (acc : Array Value) (c : Nat) (as : List Addr), r = .ok (.ret (.ref (N + 5))) ∧ s' = { s with heap := h', toks := tk } ∧ (∀ b o, b < N → s.heap.get? b = some o → h'.get? b = some o) ∧ h'.get? (N + 5) = some (lstO acc c) ∧
      as.length = min xs.size ys.size ∧ PairsAt xs ys (N + 6) as h' ∧ acc.toList = as.map Value.ref) fun h' tk acc c as a1 a2 a3 a4 a5 => ⟨h', tk, acc, c, as, rfl, rfl, a1, a2, a3, a4, a5⟩
  refine wpAny_mono key (fun fin s' x => ?_) fun e s' x => ?_
  · cases fin with
    | done f =>
      obtain ⟨h', tk, acc, c, as, e, rfl, a1, a2, a3, a4, a5⟩ := x
      cases e
      show wpAny _ A (load (N + 5) >>= _) _ _ _
      refine wpAny_bind (wpAny_load a2 ?_)
      refine wpAny_pure ?_
      show Q acc.toList _
      rw [a5]
      exact q h' tk as a1 a3 a4 (Heap.lt_size a2)
    | again c₁ =>
      refine ⟨x.1, codeAny_mono x.2 fun r s₂ y => ?_⟩
      obtain ⟨h', tk, acc, c, as, rfl, rfl, a1, a2, a3, a4, a5⟩ := y
      show wpAny _ A (load (N + 5) >>= _) _ _ _
      refine wpAny_bind (wpAny_load a2 ?_)
      refine wpAny_pure ?_
      show Q acc.toList _
      rw [a5]
      exact q h' tk as a1 a3 a4 (Heap.lt_size a2)
  · obtain ⟨_, _, _, _, _, e', _⟩ := x
    cases e'
theorem tuple_of_zip (S1 : Src prog w l1 xs o1 H1 St1) (S2 : Src prog w l2 ys o2 H2 St2) (hh : A.handled = none) (k1 : l1 < N) (k2 : l2 < N) (hn : min xs.size ys.size ≤ sizeLine) (Z : Zipped N s s St1 St2) {Q : Value → Shared → Prop}
    (q : ∀ h' tk as, (∀ b o, b < N → s.heap.get? b = some o → h'.get? b = some o) → as.length = min xs.size ys.size → PairsAt xs ys (N + 6) as h' → N + 5 < h'.objs.size → Q (.ref h'.objs.size) { s with heap := h'.push { cls := .type "tuple", data := .seq (as.map Value.ref).toArray }, toks := tk }) :
    wpAny (model prog w) A (call (.type "tuple") [.ref (N + 4)]) Q E s := by
  refine callType_codes (Q₁ := fun obj s₁ => s₁.TypeIs obj "tuple" ∧ Q obj s₁) F.called_tuple (F.typeCall_tuple_1 _) F.entry_object_init ?new fun obj s₁ h₁ => ?_
  case new =>
    refine codeAny_of_tree ?_
    show wpAny _ A.in1.in1 (do checkBuiltinCall "tuple.__new__" ⟨[.type "tuple", .ref (N + 4)], []⟩; again (.builtin "tuple.__new__" ⟨[.type "tuple", .ref (N + 4)], []⟩)) _ _ s
    refine wpAny_bind (wpAny_of_eq (F.newCall_tuple_1 _) (wpAny_pure ⟨plainId_quiet F.plain_tuple_new _, codeAny_builtin F.entry_tuple_new ?_⟩))
    rw [Around.under_plainId F.plain_tuple_new _]
    have hsub := sub_tuple_self
    have hinit := init_tuple_lookup
    have hmh := madeHere_tuple
    have isZ : s.TypeIs (.ref (N + 4)) "zip" := ⟨_, Z.z, rfl⟩
    have hh1 : A.in1.in1.handled = none := hh
    wp_walk using wpAny_typeOf isZ, collect_zip (A := A.in1.in1) S1 S2 hh1 k1 k2 hn Z
    intro h' tk as a1 a2 a3 a4
    show wpAny _ _ (Builtin.Tuple.tupleExact (as.map Value.ref).toArray >>= fun v => ret v) _ _ _
    unfold Builtin.Tuple.tupleExact
    refine wpAny_bind (wpAny_newObj_type ?_ (by show (as.map Value.ref).toArray.size ≤ sizeLine; rw [List.size_toArray, List.length_map, a2]; exact hn))
    refine wpAny_pure ?_
    exact ⟨⟨_, Heap.get?_push_size _ rfl, rfl⟩, q h' tk as a1 a2 a3 a4⟩
  exact ⟨h₁.1, F.args_object_init_2 obj _, object_init_meets F.called_tuple.init.lookup F.called_tuple.made (by decide) prog w A.in1 _ s₁ ⟨h₁.1, rfl, h₁.2⟩⟩
end
end BV

/-! enumerate of a tuple. -/
namespace BV
open PySem PySem.Spec PyProof PyProof.Rows L2 Evl
set_option maxHeartbeats 1000000 in
theorem meets_enumT {v : Value} {o : Obj} {H : Heap → Prop} (B : Begins v o H) :
    Meets (Builtin.«enumerate.__new__» ⟨[.type "enumerate", v], []⟩) (fun _ R s => H s.heap ∧
      R (.ok (.ret (.ref (s.heap.push o).objs.size))) { s with heap := (s.heap.push o).push { cls := .type "enumerate", data := .fields #[.none, .bool false, .ref s.heap.objs.size, rawInt 0, .none, .none] } }) :=
  .of_wp fun prog w A R s h => by
    obtain ⟨hp, g, d, tk, os⟩ := s; obtain ⟨h1, h⟩ := h
    have hsub := sub_enumerate
    have q1 : ∀ {A' : Around} {E : Value → Shared → Prop} {Q : Value → Shared → Prop}, Q (.ref hp.objs.size) ⟨hp.push o, g, d, tk, os⟩ → wpAny (model prog w) A' (pyIter v) Q E ⟨hp, g, d, tk, os⟩ :=
      fun q => B.iter prog w _ _ ⟨hp, g, d, tk, os⟩ _ h1 q
    wp_walk
    refine wpAny_stack_any fun st => wpAny_pure ?_
    split
    · rename_i c _ _ _ _ _
      cases (c == Value.type "enumerate")
      · wp_walk using q1
        exact ⟨_, rfl, h⟩
      · wp_walk using q1
        exact ⟨_, rfl, h⟩
    · wp_walk using q1
      exact ⟨_, rfl, h⟩
section
variable {prog : Program} {w : World} {A : Around} {E : Value → Shared → Prop} {s : Shared}
theorem call_enumT {v : Value} {o : Obj} {H : Heap → Prop} {Q : Value → Shared → Prop} (B : Begins v o H) (h1 : H s.heap)
    (h : ∀ h', IsEnum h' (s.heap.objs.size + 1) s.heap.objs.size 0 .none → h'.get? s.heap.objs.size = some o → h'.objs.size = s.heap.objs.size + 2 →
      (∀ b o, s.heap.get? b = some o → h'.get? b = some o) → Q (.ref (s.heap.objs.size + 1)) { s with heap := h' }) :
    wpAny (model prog w) A (call (.type "enumerate") [v]) Q E s := by
  refine callType_new F.called_enumerate (by decide) (F.typeCall_enumerate_1 _) (F.newCall_enumerate_1 _) (fun obj => F.args_object_init_2 obj _) F.entry_enumerate_new
    (meets_enumT B) ⟨h1, ?_⟩
  have hz : (s.heap.push o).objs.size = s.heap.objs.size + 1 := Heap.size_push ..
  show _ ∧ _
  rw [hz]
  have he : IsEnum ((s.heap.push o).push { cls := .type "enumerate", data := .fields #[.none, .bool false, .ref s.heap.objs.size, rawInt 0, .none, .none] }) (s.heap.objs.size + 1) s.heap.objs.size 0 .none := by
    have := Heap.get?_push_size (s.heap.push o) (o := { cls := .type "enumerate", data := .fields #[.none, .bool false, .ref s.heap.objs.size, rawInt 0, .none, .none] }) rfl
    rw [hz] at this; exact this
  refine ⟨⟨_, he, rfl⟩, h _ he (Heap.get?_push_of_some _ (Heap.get?_push_size _ B.free)) (by rw [Heap.size_push, hz]) fun b o x => Heap.get?_push_of_some _ (Heap.get?_push_of_some _ x)⟩
end
section
variable {prog : Program} {w : World} {A : Around} {E : Value → Shared → Prop} {s : Shared}
theorem pyNext_enumT_end {e it l : Addr} {i : Nat} {items : Array Value} {old : Value} {Q : Option Value → Shared → Prop} (hh : A.handled = none)
    (he : IsEnum s.heap e it i old) (hit : s.heap.IsTupleIter it l i) (hl : s.heap.IsTuple l items) (hx : items[i]? = none)
    (hQ : ∀ h', Heap.ExtBut it s.heap h' → Q none { s with heap := h' }) : wpAny (model prog w) A (pyNext (.ref e)) Q E s := by
  have hT : s.TypeIs (.ref e) "enumerate" := ⟨_, he, rfl⟩
  unfold pyNext
  refine wpAny_bind (wpAny_attempt (wpAny_callSpecial?_slot (name := Str.ofString "__next__") hT F.slot_enumerate_next
    (wpAny_call_entry F.slot_enumerate_next hT F.entry_enumerate_next ?_ (F.args_enumerate_next_1 _))))
  show wpAny _ _ (field (.ref e) 2 >>= _) _ _ _
  refine wpAny_bind (wpAny_field he rfl (x := .ref it) rfl ?_)
  refine wpAny_bind (wpAny_nextOf_tuple_end hh hit hl hx fun h' x he' hx' => ?_)
  obtain ⟨o, ho, hc⟩ := hx'
  refine wpAny_bind (wpAny_isInstance (T := "StopIteration") (b := true) ⟨o, ho, hc⟩ isSubtype_stop ?_)
  exact wpAny_pure (hQ _ he')
end
/-- the tuple at a, each item in a new pair -/
def ItT (K : PySem.W.Frag) (a : Addr) : It :=
  ⟨fun i H => ∃ (xs : List V) (x : V), SqT K H a xs ∧ xs[i]? = some x, fun i H v H' => ∃ T x, v = .ref T ∧ H T = none ∧ H' = upd H T (.tup [.int (i : Nat), x]) ∧ ∀ xs, SqT K H a xs → xs[i]? = some x, fun i H => ∃ xs : List V, SqT K H a xs ∧ xs.length ≤ i⟩
theorem apart_it {h : Heap} {a it : Addr} {its : Array Value} {i : Nat} (p : h.IsTuple a its) (q : h.IsTupleIter it a i) : a ≠ it := fun e => by
  subst e
  obtain ⟨o, ho, hc, _⟩ := p
  obtain ⟨o', ho', hc', _⟩ := q
  rw [ho] at ho'
  cases ho'
  rw [hc] at hc'
  exact absurd hc' (by simp)
theorem apart_en {h : Heap} {a e it : Addr} {its : Array Value} {i : Int} {old : Value} (p : h.IsTuple a its) (q : IsEnum h e it i old) : e ≠ a := fun e' => by
  subst e'
  obtain ⟨o, ho, hc, _⟩ := p
  have q : h.get? e = some _ := q
  rw [ho] at q
  cases q
  exact absurd hc (by simp)
theorem turn_enumT {P : Program} {w : World} {K : PySem.W.Frag} {elts : List Expr} {kk : Nat} {tpos : Pos} (a e it : Addr) :
    Turn P w K (.Tuple elts kk tpos) (ItT K a) [e, it] e (fun i h => (∃ old, IsEnum h e it ((i : Nat) : Int) old) ∧ h.IsTupleIter it a i ∧ e ≠ it) where
  mem := by simp
  obj := fun i h st b hb => by
    obtain ⟨⟨old, he⟩, ⟨o, ho, hc, hd⟩, _⟩ := st
    have e' : b = e ∨ b = it := by simpa using hb
    rcases e' with z | z
    · rw [z]; exact ⟨_, he, fun v q => nomatch q⟩
    · rw [z]; exact ⟨o, ho, fun v q => by rw [hd] at q; cases q⟩
  keep := fun i h h' st k => let ⟨⟨old, he⟩, hi, hne⟩ := st; ⟨⟨old, k e (by simp) _ he⟩, hi.at fun o q => k it (by simp) o q, hne⟩
  item := by
    intro X hP hw hK hc i pins s σ H E I hf st hg
    subst hP hw hK
    obtain ⟨⟨old, he⟩, hit, hne⟩ := st
    obtain ⟨xs, x, hq, hx⟩ := hg
    obtain ⟨its, rv, p, hz⟩ := I.tuple hq
    obtain ⟨u, hu, ru⟩ := rv.get hx
    have hel : e < s.heap.objs.size := Heap.lt_size he
    have hil : it < s.heap.objs.size := by obtain ⟨_, q, _⟩ := hit; exact Heap.lt_size q
    have pT : s.heap.IsTuple a its.toArray := p
    have hh : X.A.in1.handled = none := I.ok.hd hc
    refine wpAny_pyNext_enum_itemD (n := its.toArray.size) (Draws.tuple hh it a (apart_it pT hit) its.toArray) he ⟨hit, pT⟩ ?_ hne ?_ fun x' h' tk hP ho hst hT hsz hk => ?_
    · have := (List.getElem?_eq_some_iff.mp hu).1
      simpa using this
    · simp only [List.mem_cons, List.not_mem_nil, or_false, not_or]
      exact ⟨hne, apart_en pT he⟩
    have hxu : x' = u := by
      have h1 : its.toArray[i]? = some u := by simpa using hu
      rw [h1] at hP
      exact (Option.some.inj hP).symm
    subst hxu
    refine ⟨_, rfl, wpAny_letOwnedTupleGo_enum (s := { s with heap := h', toks := tk + 1 }) ho fun h'' he' sb => ?_⟩
    have hT2 : h''.get? s.heap.objs.size = some { cls := .type "tuple", data := .seq #[.int i tk, x'] } := (sb.2 _ (Nat.ne_of_gt hel)).trans hT
    have new : ObjOk X.prog X.w (upd H s.heap.objs.size (.tup [.int (i : Nat), x])) h'' s.heap.objs.size (.tup [.int (i : Nat), x]) :=
      ⟨by show 2 ≤ sizeLine; decide, [.int i tk, x'], .cons ⟨_, rfl⟩ (.cons ru .nil), ⟨_, hT2, rfl, _, rfl⟩⟩
    have I1 : Inv X pins σ (upd H s.heap.objs.size (.tup [.int (i : Nat), x])) { s with heap := h'', toks := tk + 1 } :=
      I.turnedNew (ch := [e, it]) (fun b ob hb q => (sb.2 b (fun z => hb (by simp [z]))).trans (hk b ob (fun z => hb (by simp [z])) (fun z => hb (by simp [z])) q)) hf (Nat.le_refl _) new
    refine ⟨.ref s.heap.objs.size, _, I1, rfl, ⟨_, x, rfl, I.hok.fresh (Nat.le_refl _), rfl, fun ys hy => by rw [I.tuple_inj hy hq]; exact hx⟩, ⟨⟨x', ?_⟩, hst.1.at fun o q => (sb.2 it (Ne.symm hne)).trans q, hne⟩, fun b hb => ?_⟩
    · have e1 : ((i + 1 : Nat) : Int) = (i : Int) + 1 := by omega
      rw [e1]; exact he'
    · have hb' : b < s.heap.objs.size := by
        have e' : b = e ∨ b = it := by simpa using hb
        rcases e' with z | z
        · rw [z]; exact hel
        · rw [z]; exact hil
      rw [upd_ne (Nat.ne_of_lt hb')]
      exact (hf b hb).1
  done := by
    intro X hP hw hK hc i pins s σ H E I hf st hg
    subst hP hw hK
    obtain ⟨⟨old, he⟩, hit, hne⟩ := st
    obtain ⟨xs, hq, hx⟩ := hg
    obtain ⟨its, rv, p, hz⟩ := I.tuple hq
    obtain ⟨f0, f1, f2, f3, f4, f5⟩ := hf it (by simp)
    have hl := rv.length
    exact pyNext_enumT_end (I.ok.hd hc) he hit (show s.heap.IsTuple a its.toArray from p) (by simp; omega) fun h' eb => ⟨rfl, I.turned (t' := s.toks) (fun b o hb q => eb b o hb q) f0 f1 f3 f4 f5⟩
  self := fun A i s Q E st h => let ⟨⟨_, he⟩, _⟩ := st; wpAny_pyIter_enum he h
def iEnumT (K : PySem.W.Frag) (ta : TA) : TI := fun σ H R => ta σ H fun vs H1 => ∃ a xs, vs = [.ref a] ∧ ((SqL K H1 a xs ∧ R (Ite K a) H1) ∨ (SqT K H1 a xs ∧ R (ItT K a) H1))
theorem pi_enumT {X : Cx} {e : Expr} {ta : TA} {p pos tpos : Pos} {elts : List Expr} {kk : Nat} (hg : Gl X "enumerate") (hm : X.mg "enumerate" = none) (ha : PA X [e] ta) (hs : starEach [e] X.env = [(false, eval e X.env)] := by rfl) :
    PI X (.Tuple elts kk tpos) (.Call (.Name "enumerate" p) [e] [] pos) (iEnumT X.K ta) := by
  refine ⟨fun pins s σ H R I h => ?_⟩
  refine Call_ (ld_blt I hg hm boot_enumerate (PyProof.Rows.callWith_type1 (thn (ha.run pos pins s σ H _ I h) fun us s1 ⟨vs, H1, I1, r1, q1⟩ => ?_) hs rfl))
  obtain ⟨a, xs, ex, hq⟩ := q1
  subst ex
  cases r1 with
  | cons r rr =>
    cases rr
    cases r
    rcases hq with ⟨hq, q⟩ | ⟨hq, q⟩
    · obtain ⟨its, rv, p', hz⟩ := I1.list hq
      refine call_enumerate_list p'.isList fun h' he hit hsz hk => wpAny_pyIter_enum he ?_
      have I2 : Inv X pins σ H1 { s1 with heap := h' } := I1.kept (t' := s1.toks) hk
      refine ⟨s1.heap.objs.size + 1, [s1.heap.objs.size + 1, s1.heap.objs.size], _, _, H1, rfl, I2, turn_enum a (s1.heap.objs.size + 1) s1.heap.objs.size, ⟨⟨.none, he⟩, hit, Nat.succ_ne_self _⟩, fun b hb => ?_, q⟩
      have e' : b = s1.heap.objs.size + 1 ∨ b = s1.heap.objs.size := by simpa using hb
      have hle : s1.heap.objs.size ≤ b := by
        rcases e' with z | z
        · rw [z]; exact Nat.le_add_right _ _
        · rw [z]; exact Nat.le_refl _
      exact I1.fpOk hle (I1.hok.fresh hle)
    · obtain ⟨its, rv, p', hz⟩ := I1.tuple hq
      refine call_enumT (begins_tuple a its.toArray) p' fun h' he hit hsz hk => wpAny_pyIter_enum he ?_
      have I2 : Inv X pins σ H1 { s1 with heap := h' } := I1.kept (t' := s1.toks) hk
      refine ⟨s1.heap.objs.size + 1, [s1.heap.objs.size + 1, s1.heap.objs.size], _, _, H1, rfl, I2, turn_enumT a (s1.heap.objs.size + 1) s1.heap.objs.size, ⟨⟨.none, he⟩, ⟨_, hit, rfl, rfl⟩, Nat.succ_ne_self _⟩, fun b hb => ?_, q⟩
      have e' : b = s1.heap.objs.size + 1 ∨ b = s1.heap.objs.size := by simpa using hb
      have hle : s1.heap.objs.size ≤ b := by
        rcases e' with z | z
        · rw [z]; exact Nat.le_add_right _ _
        · rw [z]; exact Nat.le_refl _
      exact I1.fpOk hle (I1.hok.fresh hle)
end BV

/-! enumerate of a list or a tuple, by value. -/
namespace BV
open PySem PySem.Spec PyProof.Rows L2 Evl

theorem walk_enumT {K : PySem.W.Frag} {a : Addr} {xs : List V} : Walk (ItT K a) xs.length (fun H => SqT K H a xs) (YPair (fun i => some (.int (i : Nat))) (fun i => xs[i]?)) := by
  refine ⟨fun i _ hi q => ⟨xs, xs[i], q, by simp [hi]⟩, fun _ q => ⟨xs, q, Nat.le_refl _⟩, fun i H v H' _ q y => ?_⟩
  obtain ⟨T, x, h1, h2, h3, h4⟩ := y
  exact ⟨T, .int (i : Nat), x, h1, h2, h3, rfl, h4 xs q⟩
section
variable {K : PySem.W.Frag} {C : Hp} {z : Pz}
theorem itd_enumT {a : Addr} {xs : List V} {ds : List D} (h : SqT K C a xs) (dn : Dns K C z.p ds xs) : ItD K z (ItT K a) (enumL ds) C :=
  ⟨_, _, by show Walk _ (ds.mapIdx _).length _ _; rw [List.length_mapIdx, ← dn.len]; exact walk_enumT, fun H' e => ex_t e h, fun i Ha v Hb hi y C1 e o => by
    obtain ⟨T, x, y, rfl, hT, rfl, h1, h2⟩ := y
    obtain ⟨d, h3, h4⟩ := dn.get' h2
    cases h1
    obtain ⟨t, q⟩ := tup_new (d := .int (i : Nat)) o hT (dn_int.mpr rfl) (h4.mono e)
    refine ⟨_, _, ?_, t, q⟩
    unfold enumL
    rw [List.getElem?_mapIdx, h3]
    rfl⟩
end
/-- the items of a list or a tuple -/
def seqD : D → Option (List D)
  | .lst ds => some ds
  | .tup ds => some ds
  | _ => none
def mEnumS (m : MA) : MI := fun env P => m env fun ds => ∃ d items, ds = [d] ∧ seqD d = some items ∧ P (enumL items)
theorem pdi_enumS {X : Cx} {e : Expr} {m : MA} {p pos tpos : Pos} {elts : List Expr} {kk : Nat} (hg : Gl X "enumerate") (hm : X.mg "enumerate" = none) (h : PDA X [e] m) (hs : starEach [e] X.env = [(false, eval e X.env)] := by rfl) :
    PDI X (.Tuple elts kk tpos) (.Call (.Name "enumerate" p) [e] [] pos) (mEnumS m) := by
  refine ⟨pi_imp (pi_enumT hg hm h.run hs) fun σ H R q => ?_, fun env Q Q' i q => h.mono env _ _ (fun d ⟨a, b, c, e, q⟩ => ⟨a, b, c, e, i _ q⟩) q⟩
  obtain ⟨z, C, env, o, r, q⟩ := q
  refine liftA_use h.mono o r q fun ds vs C' H' ⟨d, items, e, he, p⟩ t dn => ?_
  subst e
  obtain ⟨v, e1, e2⟩ := dns1 dn
  cases d with
  | lst ds =>
    cases he
    obtain ⟨a, xs, e3, e4, e5⟩ := dn_lst.mp e2
    rw [e3] at e1
    exact ⟨a, xs, e1, .inl ⟨ex_l t.ok.ex (sq_of e4), p _ C' H' t (itd_enum (sq_of e4) e5)⟩⟩
  | tup ds =>
    cases he
    obtain ⟨a, xs, e3, e4, e5⟩ := dn_tup e2
    rw [e3] at e1
    exact ⟨a, xs, e1, .inr ⟨ex_t t.ok.ex e4, p _ C' H' t (itd_enumT e4 e5)⟩⟩
  | _ => cases he
end BV

/-! tuple(zip(a, b)), list(zip(a, b)), by value. -/
namespace BV
open PySem PySem.Spec PyProof.Rows L2 Evl

/-- many new things are tracked at once -/
theorem Inv.many {X : Cx} {pins : List (Addr × Obj)} {σ : L2.St} {H H' : Hp} {s : Shared} {h' : Heap} {t' : Nat} (I : Inv X pins σ H s) (k : ∀ b u, s.heap.get? b = some u → h'.get? b = some u) (hH : ∀ b u, H b = some u → H' b = some u)
    (new : ∀ b u, H' b = some u → H b = some u ∨ (s.heap.objs.size ≤ b ∧ ObjOk X.prog X.w H' h' b u)) : Inv X pins σ H' { s with heap := h', toks := t' } := by
  refine Inv.un I ⟨fun b o e n _ _ => k b o e, fun b o e n _ _ => ⟨o.slots, k b o e⟩, fun b o e n _ => ?_, fun b o e _ => ⟨o, k b o e⟩, fun b xs e => hH _ _ e, fun b o u e => hH _ _ e, fun b ps e => ⟨#[], by rw [hH _ _ e]; simp⟩⟩ fun b u e => ?_
  · cases q : H' b with
    | none => rfl
    | some u =>
      rcases new b u q with z | ⟨z, _⟩
      · rw [n] at z; cases z
      · exact absurd (Heap.lt_size e) (Nat.not_lt.mpr z)
  · rcases new b u e with z | ⟨_, z⟩
    · exact (I.hok b u z).stay (fun c w _ q => k c w q) (fun c q => hH _ _ q) fun c xs q => hH _ _ q
    · exact z
def addO : List (Addr × HO) → Hp → Hp
  | [], H => H
  | p :: l, H => upd (addO l H) p.1 p.2
theorem addO_out {H : Hp} {b : Addr} : ∀ {l : List (Addr × HO)}, b ∉ l.map (·.1) → addO l H b = H b
  | [], _ => rfl
  | p :: l, h => by
    rw [List.map_cons, List.mem_cons, not_or] at h
    show upd (addO l H) p.1 p.2 b = H b
    rw [upd_ne h.1]
    exact addO_out h.2
theorem addO_in {H : Hp} {b : Addr} {u : HO} : ∀ {l : List (Addr × HO)}, (l.map (·.1)).Nodup → (b, u) ∈ l → addO l H b = some u
  | [], _, h => nomatch h
  | p :: l, nd, h => by
    rw [List.map_cons, List.nodup_cons] at nd
    show upd (addO l H) p.1 p.2 b = some u
    rcases List.mem_cons.mp h with e | h
    · rw [← e]; exact upd_same
    · have : b ≠ p.1 := fun e => nd.1 (by rw [← e]; exact List.mem_map.mpr ⟨_, h, rfl⟩)
      rw [upd_ne this]
      exact addO_in nd.2 h
theorem addO_some {H : Hp} {b : Addr} {u : HO} : ∀ {l : List (Addr × HO)}, addO l H b = some u → H b = some u ∨ (b, u) ∈ l
  | [], h => .inl h
  | p :: l, h => by
    by_cases e : b = p.1
    · subst e
      have : addO (p :: l) H p.1 = some p.2 := upd_same
      rw [this] at h
      cases h
      exact .inr (by simp)
    · have : addO (p :: l) H b = addO l H b := upd_ne e
      rw [this] at h
      rcases addO_some h with h | h
      · exact .inl h
      · exact .inr (by simp [h])
theorem Tr.adds {z : Pz} {C H : Hp} (o : Ok z C H) : ∀ {l : List (Addr × HO)}, (l.map (·.1)).Nodup → (∀ p ∈ l, H p.1 = none) → Tr z C H (addO l C) (addO l H)
  | [], _, _ => Tr.refl o
  | p :: l, nd, h => by
    rw [List.map_cons, List.nodup_cons] at nd
    have t := Tr.adds o nd.2 fun q hq => h q (by simp [hq])
    exact t.trans (Tr.put t.ok (by rw [addO_out nd.1]; exact h p (by simp)))
def pairsD (ds es : List D) : List D := List.zipWith (fun a b => .tup [a, b]) ds es
abbrev pairO (x y : Value) : Obj := { cls := .type "tuple", data := .seq #[x, y] }
def mkL : List Addr → List Value → List Value → List V → List V → List (Addr × HO)
  | a :: as, x :: xs, y :: ys, v :: vs, w :: ws => (a, .frz (pairO x y) (.tup [v, w])) :: mkL as xs ys vs ws
  | _, _, _, _, _ => []
def GotL (h : Heap) : List Addr → List Value → List Value → Prop
  | [], _, _ => True
  | a :: as, x :: xs, y :: ys => h.get? a = some (pairO x y) ∧ GotL h as xs ys
  | _ :: _, _, _ => False
theorem gotL_of {h : Heap} : ∀ {as : List Addr} {xs ys : List Value}, (∀ (j : Nat) (a : Addr), as[j]? = some a → ∃ x1 x2, xs[j]? = some x1 ∧ ys[j]? = some x2 ∧ IsTupOf2 h a x1 x2) → GotL h as xs ys
  | [], _, _, _ => trivial
  | a :: as, [], ys, g => by obtain ⟨_, _, e, _⟩ := g 0 a rfl; cases e
  | a :: as, x :: xs, [], g => by obtain ⟨_, _, _, e, _⟩ := g 0 a rfl; cases e
  | a :: as, x :: xs, y :: ys, g => by
    obtain ⟨x1, x2, e1, e2, q⟩ := g 0 a rfl
    cases e1
    cases e2
    exact ⟨q, gotL_of fun j b e => g (j + 1) b e⟩
theorem mkL_map {h : Heap} : ∀ {as : List Addr} {xs ys : List Value} {vs ws : List V}, GotL h as xs ys → xs.length = vs.length → ys.length = ws.length → (mkL as xs ys vs ws).map (·.1) = as
  | [], xs, ys, vs, ws, _, _, _ => by unfold mkL; rfl
  | a :: as, [], ys, vs, ws, g, _, _ => g.elim
  | a :: as, x :: xs, [], vs, ws, g, _, _ => g.elim
  | a :: as, x :: xs, y :: ys, [], ws, g, e, _ => by cases e
  | a :: as, x :: xs, y :: ys, v :: vs, [], g, _, e => by cases e
  | a :: as, x :: xs, y :: ys, v :: vs, w :: ws, g, e1, e2 => by
    show a :: (mkL as xs ys vs ws).map (·.1) = a :: as
    rw [mkL_map g.2 (by simpa using e1) (by simpa using e2)]
theorem mkL_ok {P : Program} {w0 : World} {H : Hp} {h : Heap} : ∀ {as : List Addr} {xs ys : List Value} {vs ws : List V}, GotL h as xs ys → Vals vs xs → Vals ws ys → ∀ p ∈ mkL as xs ys vs ws, ObjOk P w0 H h p.1 p.2
  | a :: as, x :: xs, y :: ys, v :: vs, w :: ws, g, .cons r1 q1, .cons r2 q2, p, hp => by
    rcases List.mem_cons.mp hp with e | hp
    · subst e
      exact ⟨g.1, by show (2 : Nat) ≤ sizeLine; decide, [x, y], .cons r1 (.cons r2 .nil), _, g.1, rfl, _, rfl⟩
    · exact mkL_ok g.2 q1 q2 p hp
  | [], _, _, _, _, _, _, _, p, hp => by unfold mkL at hp; cases hp
theorem mkL_dn {K : PySem.W.Frag} {C C' : Hp} {pu : Addr} {h : Heap} (ex : Ex C C') : ∀ {as : List Addr} {xs ys : List Value} {vs ws : List V} {ds es : List D}, GotL h as xs ys → Vals vs xs → Vals ws ys → Dns K C pu ds vs → Dns K C pu es ws → as.length = min xs.length ys.length →
    (∀ p ∈ mkL as xs ys vs ws, C' p.1 = some p.2) → Dns K C' pu (pairsD ds es) (as.map V.ref)
  | a :: as, x :: xs, y :: ys, v :: vs, w :: ws, [], es, g, .cons r1 q1, .cons r2 q2, d1, d2, hl, hc => by
    have := dns_nil.mp d1; cases this
  | a :: as, x :: xs, y :: ys, v :: vs, w :: ws, d :: ds, [], g, .cons r1 q1, .cons r2 q2, d1, d2, hl, hc => by
    have := dns_nil.mp d2; cases this
  | a :: as, x :: xs, y :: ys, v :: vs, w :: ws, d :: ds, e :: es, g, .cons r1 q1, .cons r2 q2, d1, d2, hl, hc => by
    obtain ⟨v', r', f1, f2, f3⟩ := dns_cons.mp d1
    obtain ⟨w', s', g1, g2, g3⟩ := dns_cons.mp d2
    cases f1
    cases g1
    refine dns_cons.mpr ⟨_, _, rfl, ?_, mkL_dn ex g.2 q1 q2 f3 g3 (by simp only [List.length_cons] at hl; omega) fun p hp => hc p (by unfold mkL; exact List.mem_cons_of_mem _ hp)⟩
    have h0 := hc (a, .frz (pairO x y) (.tup [v, w])) (by unfold mkL; exact List.mem_cons_self)
    exact dn_tupP.mpr ⟨a, [v, w], rfl, .inl ⟨_, h0, rfl⟩, dns_cons.mpr ⟨v, _, rfl, f2.mono ex, dns_cons.mpr ⟨w, _, rfl, g2.mono ex, dns_nil.mpr rfl⟩⟩⟩
  | [], xs, ys, vs, ws, ds, es, g, q1, q2, d1, d2, hl, hc => by
    have h1 := q1.length
    have h2 := q2.length
    have h3 := d1.len
    have h4 := d2.len
    have : pairsD ds es = [] := by
      unfold pairsD
      apply List.eq_nil_of_length_eq_zero
      rw [List.length_zipWith]
      simp only [List.length_nil] at hl
      omega
    rw [this]
    exact dns_nil.mpr rfl
/-- data that is a list or a tuple is a source -/
theorem src_of {X : Cx} {pins : List (Addr × Obj)} {σ : L2.St} {H C : Hp} {s : Shared} {z : Pz} (I : Inv X pins σ H s) (o : Ok z C H) {d : D} {v : V} {u : Value} {ds : List D} (hd : seqD d = some ds) (dn : Dn X.K C z.p d v) (r : RelV v u) :
    ∃ (l : Addr) (items : List Value) (vs : List V) (ob : Obj) (Hq : Heap → Prop) (St : Addr → Nat → Heap → Prop), u = .ref l ∧ Src X.prog X.w l items.toArray ob Hq St ∧ Hq s.heap ∧ l < s.heap.objs.size ∧ Vals vs items ∧ Dns X.K C z.p ds vs ∧ vs.length ≤ sizeLine := by
  cases d with
  | lst es =>
    cases hd
    obtain ⟨a, xs, rfl, ha, dns⟩ := dn_lst.mp dn
    obtain rfl : u = .ref a := r
    obtain ⟨its, rv, hl, hz⟩ := I.list (sq_of (K := X.K) (o.ex _ _ ha))
    exact ⟨a, its, xs, _, _, _, rfl, src_list a its.toArray, hl.isList, hl.lt, rv, dns, hz⟩
  | tup es =>
    cases hd
    obtain ⟨a, xs, rfl, ha, dns⟩ := dn_tup dn
    obtain rfl : u = .ref a := r
    obtain ⟨its, rv, hl, hz⟩ := I.tuple (ex_t o.ex ha)
    obtain ⟨ob, ho, _⟩ := id hl
    exact ⟨a, its, xs, _, _, _, rfl, src_tuple a its.toArray, hl, Heap.lt_size ho, rv, dns, hz⟩
  | _ => cases hd
section
variable {X : Cx} {e1 e2 : Expr} {m : MA} {p p2 pos pos2 : Pos} {x : Str}
/-- the evaluation of zip(e1, e2), a zip that is handed on -/
theorem eval_zip (hg : Gl X "zip" := by rfl) (hm : X.mg "zip" = none) (ha : PDA X [e1, e2] m) {pins : List (Addr × Obj)} {σ : L2.St} {H : Hp} {s : Shared} {E : Value → Shared → Prop} {Q : Value → Shared → Prop} (I : Inv X pins σ H s) (hE : X.xe = E)
    {z : Pz} {C : Hp} {env : Env} (o : Ok z C H) (r : EnvR X.K z C env σ) {T : List D → List D → Prop} (q : m env fun ds => ∃ d1 d2 xs ys, ds = [d1, d2] ∧ seqD d1 = some xs ∧ seqD d2 = some ys ∧ T xs ys)
    (k : ∀ (s1 s2 : Shared) (C' H' : Hp) (xs ys : List D) (l1 l2 : Addr) (its1 its2 : List Value) (vs ws : List V) (o1 o2 : Obj) (H1 H2 : Heap → Prop) (St1 St2 : Addr → Nat → Heap → Prop), T xs ys → Inv X pins σ H' s1 → Tr z C H C' H' → Src X.prog X.w l1 its1.toArray o1 H1 St1 → Src X.prog X.w l2 its2.toArray o2 H2 St2 →
      l1 < s1.heap.objs.size → l2 < s1.heap.objs.size → Zipped s1.heap.objs.size s1 s2 St1 St2 → (∃ h', s2 = { s1 with heap := h' }) → Vals vs its1 → Vals ws its2 → Dns X.K C' z.p xs vs → Dns X.K C' z.p ys ws → vs.length ≤ sizeLine → Q (.ref (s1.heap.objs.size + 4)) s2)
    (hs : starEach [e1, e2] X.env = (false, eval e1 X.env) :: starEach [e2] X.env := by rfl) (hpl : (backTo pos (starEach [e2] X.env)).any (·.1) = false := by rfl) :
    wpAny (model X.prog X.w) X.A (eval (.Call (.Name "zip" p) [e1, e2] [] pos) X.env) Q E s := by
  subst hE
  refine wpAny_Call_Name_kw (ld_blt I hg hm PyProof.Rows.boot_zip (PyProof.Rows.callWith_type1 (thn (ha.run.run pos pins s σ H (fun vs H' => ∃ C' d1 d2 xs ys, Tr z C H C' H' ∧ Dns X.K C' z.p [d1, d2] vs ∧ seqD d1 = some xs ∧ seqD d2 = some ys ∧ T xs ys) I ⟨z, C, env, o, r, ha.mono _ _ _ (fun ds ⟨d1, d2, xs, ys, e, h1, h2, h3⟩ vs C' H' t dn => ⟨C', d1, d2, xs, ys, t, by rw [← e]; exact dn, h1, h2, h3⟩) q⟩)
    fun us s1 ⟨vs, H1, I1, r1, C', d1, d2, xs, ys, t, dn, h1, h2, h3⟩ => ?_) hs hpl))
  obtain ⟨v, w, rfl, dv, dw⟩ := dns2 dn
  obtain ⟨u1, u2, rfl, q1, q2⟩ := vals2 r1
  obtain ⟨l1, its1, vs, o1, K1, St1, rfl, S1, k1, lt1, rv1, dn1, z1⟩ := src_of I1 t.ok h1 dv q1
  obtain ⟨l2, its2, ws, o2, K2, St2, rfl, S2, k2, lt2, rv2, dn2, z2⟩ := src_of I1 t.ok h2 dw q2
  exact call_zipS S1 S2 k1 k2 fun h' Z => k s1 _ C' H1 xs ys l1 l2 its1 its2 vs ws o1 o2 K1 K2 St1 St2 h3 I1 t S1 S2 lt1 lt2 Z ⟨h', rfl⟩ rv1 rv2 dn1 dn2 z1
end
end BV

/-! tuple(zip(a, b)), list(zip(a, b)) as expressions. -/
namespace BV
open PySem PySem.Spec PyProof.Rows L2 Evl

def mTupZip (m : MA) : ME := fun env Q => m env fun ds => ∃ d1 d2 xs ys, ds = [d1, d2] ∧ seqD d1 = some xs ∧ seqD d2 = some ys ∧ Q (.tup (pairsD xs ys))
def moLstZip (m : MA) : MA := fun env Q => m env fun ds => ∃ d1 d2 xs ys, ds = [d1, d2] ∧ seqD d1 = some xs ∧ seqD d2 = some ys ∧ Q (pairsD xs ys)
theorem vals_refs : ∀ as : List Addr, Vals (as.map V.ref) (as.map Value.ref)
  | [] => .nil
  | a :: as => .cons (show RelV (.ref a) (.ref a) from rfl) (vals_refs as)
theorem nodup_rise {as : List Addr} (h : as.Pairwise (· < ·)) : as.Nodup := h.imp fun e q => absurd e (by rw [q]; exact Nat.lt_irrefl _)
section
variable {X : Cx} {e1 e2 : Expr} {m : MA} {p p0 p2 pos pos2 : Pos} {x : Str}
theorem pd_tupZip (hc : X.calm = true) (hm0 : X.mg x = none) (hv : bootBuiltins x = some (.type "tuple")) (hm : X.mg "zip" = none) (ha : PDA X [e1, e2] m) (hg0 : Gl X x := by rfl) (hg : Gl X "zip" := by rfl) (hn : x ≠ "__name__" := by decide) (hdb : (x == ("__debug__" : Str)) = false := by decide)
    (hs : starEach [e1, e2] X.env = (false, eval e1 X.env) :: starEach [e2] X.env := by rfl) (hpl : (backTo pos2 (starEach [e2] X.env)).any (·.1) = false := by rfl)
    (he : starEach [.Call (.Name "zip" p) [e1, e2] [] pos2] X.env = (false, eval (.Call (.Name "zip" p) [e1, e2] [] pos2) X.env) :: starEach [] X.env := by rfl) (hpl0 : (backTo pos (starEach [] X.env)).any (·.1) = false := by rfl) :
    PD X (.Call (.Name x p0) [.Call (.Name "zip" p) [e1, e2] [] pos2] [] pos) (mTupZip m) := by
  refine ⟨⟨fun pins s σ H Q I q => ?_⟩, fun env Q Q' i q => ha.mono env _ _ (fun ds ⟨d1, d2, xs, ys, e, h1, h2, h3⟩ => ⟨d1, d2, xs, ys, e, h1, h2, i _ h3⟩) q⟩
  obtain ⟨z, C, env, o, r, q⟩ := q
  refine wpAny_Call_Name_kw (ld_blt I hg0 hm0 hv ?_ hn hdb)
  refine PyProof.Rows.callWith_type1 ?_ he hpl0
  rw [he]
  show wpAny _ _ (spliced ((false, eval (.Call (.Name "zip" p) [e1, e2] [] pos2) X.env) :: backTo pos (starEach [] X.env))) _ _ s
  refine Calls.spliced_cons (eval_zip hg hm ha I rfl o r q (fun s1 s2 C' H' xs ys l1 l2 its1 its2 vs ws o1 o2 H1 H2 St1 St2 hT I1 t S1 S2 k1 k2 Z hs2 rv1 rv2 dn1 dn2 hz => ?_) hs hpl)
  refine Calls.spliced_nil ?_
  obtain ⟨h2, rfl⟩ := hs2
  have hh : X.A.handled = none := I1.ok.hd hc
  have e1' := rv1.length
  have hmin : min its1.toArray.size its2.toArray.size ≤ sizeLine := Nat.le_trans (Nat.min_le_left _ _) (by rw [List.size_toArray, ← e1']; exact hz)
  have Z2 : Zipped s1.heap.objs.size { s1 with heap := h2 } { s1 with heap := h2 } St1 St2 := ⟨Z.z, Z.TI, Z.TO, Z.s1, Z.s2, Z.size, fun _ _ e => e⟩
  refine tuple_of_zip S1 S2 hh k1 k2 hmin Z2 fun h' tk as a1 a2 a3 a4 => ?_
  have keep : ∀ b u, s1.heap.get? b = some u → h'.get? b = some u := fun b u e => a1 b u (Heap.lt_size e) (Z.old b u e)
  have far : ∀ a ∈ as, s1.heap.objs.size ≤ a := fun a ha => Nat.le_trans (Nat.le_add_right _ 6) (a3.low a ha)
  have gl : GotL h' as its1 its2 := gotL_of fun j a e => by
    obtain ⟨x1, x2, g1, g2, g3⟩ := a3.at_ j a e
    exact ⟨x1, x2, by simpa using g1, by simpa using g2, g3⟩
  have e2' := rv2.length
  have lm : (mkL as its1 its2 vs ws).map (·.1) = as := mkL_map gl e1'.symm e2'.symm
  have nd : ((mkL as its1 its2 vs ws).map (·.1)).Nodup := by rw [lm]; exact nodup_rise a3.rise
  have fresh : ∀ b, s1.heap.objs.size ≤ b → H' b = none := fun b hb => I1.hok.fresh hb
  have hl : ∀ p ∈ mkL as its1 its2 vs ws, s1.heap.objs.size ≤ p.1 := fun p hp => far _ (by rw [← lm]; exact List.mem_map.mpr ⟨p, hp, rfl⟩)
  have tA := Tr.adds t.ok nd fun p hp => fresh _ (hl p hp)
  have hRz : s1.heap.objs.size ≤ h'.objs.size := Nat.le_trans (Nat.le_add_right _ 5) (Nat.le_of_lt a4)
  generalize hR : h'.objs.size = R at hRz
  have nR : R ∉ (mkL as its1 its2 vs ws).map (·.1) := by
    rw [lm]
    intro hm
    have := a3.there hm
    rw [hR] at this
    exact Nat.lt_irrefl _ this
  have hRn : addO (mkL as its1 its2 vs ws) H' R = none := by rw [addO_out nR]; exact fresh R hRz
  have alen : as.length = min its1.length its2.length := by simpa using a2
  have hlen : (as.map V.ref).length ≤ sizeLine := by rw [List.length_map, alen]; simpa using hmin
  have dns := mkL_dn (K := X.K) (pu := z.p) tA.cc gl rv1 rv2 dn1 dn2 alen fun p hp => addO_in nd hp
  have top : (h'.push { cls := .type "tuple", data := .seq (as.map Value.ref).toArray }).get? R = some { cls := .type "tuple", data := .seq (as.map Value.ref).toArray } := by rw [← hR]; exact Heap.get?_push_size _ rfl
  refine ⟨.ref R, upd (addO (mkL as its1 its2 vs ws) H') R (.frz { cls := .type "tuple", data := .seq (as.map Value.ref).toArray } (.tup (as.map V.ref))), ?_, rfl, ?_⟩
  · refine Inv.many (s := s1) (h' := h'.push { cls := .type "tuple", data := .seq (as.map Value.ref).toArray }) (t' := tk) I1 (fun b u e => Heap.get?_push_of_some _ (keep b u e)) (fun b u e => ?_) fun b u e => ?_
    · have hb : b < s1.heap.objs.size := I1.hok.lt e
      rw [upd_ne (Nat.ne_of_lt (Nat.lt_of_lt_of_le hb hRz)), addO_out fun hm => by
        obtain ⟨p, hp, rfl⟩ := List.mem_map.mp hm
        exact absurd (hl p hp) (Nat.not_le.mpr hb)]
      exact e
    · by_cases hb : b = R
      · subst hb
        rw [upd_same] at e
        cases e
        exact .inr ⟨hRz, top, hlen, as.map Value.ref, vals_refs as, _, top, rfl, _, rfl⟩
      · rw [upd_ne hb] at e
        rcases addO_some e with e | e
        · exact .inl e
        · refine .inr ⟨hl _ e, ?_⟩
          have gl2 : GotL (h'.push { cls := .type "tuple", data := .seq (as.map Value.ref).toArray }) as its1 its2 := gotL_of fun j a e => by
            obtain ⟨x1, x2, g1, g2, g3⟩ := a3.at_ j a e
            exact ⟨x1, x2, by simpa using g1, by simpa using g2, Heap.get?_push_of_some _ g3⟩
          exact mkL_ok gl2 rv1 rv2 _ e
  · exact hT (.ref R) _ _ (t.trans (tA.trans (Tr.put tA.ok hRn))) (dn_new_tup dns (fresh_back tA.ok.ex hRn) rfl)
theorem pdo_lstZip (hc : X.calm = true) (hm0 : X.mg x = none) (hv : bootBuiltins x = some (.type "list")) (hm : X.mg "zip" = none) (ha : PDA X [e1, e2] m) (hg0 : Gl X x := by rfl) (hg : Gl X "zip" := by rfl) (hn : x ≠ "__name__" := by decide) (hdb : (x == ("__debug__" : Str)) = false := by decide)
    (hs : starEach [e1, e2] X.env = (false, eval e1 X.env) :: starEach [e2] X.env := by rfl) (hpl : (backTo pos2 (starEach [e2] X.env)).any (·.1) = false := by rfl)
    (he : starEach [.Call (.Name "zip" p) [e1, e2] [] pos2] X.env = (false, eval (.Call (.Name "zip" p) [e1, e2] [] pos2) X.env) :: starEach [] X.env := by rfl) (hpl0 : (backTo pos (starEach [] X.env)).any (·.1) = false := by rfl) :
    PDO X (.Call (.Name x p0) [.Call (.Name "zip" p) [e1, e2] [] pos2] [] pos) (moLstZip m) := by
  refine ⟨⟨fun pins s σ H Q I q => ?_⟩, fun env Q Q' i q => ha.mono env _ _ (fun ds ⟨d1, d2, xs, ys, e, h1, h2, h3⟩ => ⟨d1, d2, xs, ys, e, h1, h2, i _ h3⟩) q⟩
  obtain ⟨z, C, env, o, r, q⟩ := q
  refine wpAny_Call_Name_kw (ld_blt I hg0 hm0 hv ?_ hn hdb)
  refine PyProof.Rows.callWith_type1 ?_ he hpl0
  rw [he]
  show wpAny _ _ (spliced ((false, eval (.Call (.Name "zip" p) [e1, e2] [] pos2) X.env) :: backTo pos (starEach [] X.env))) _ _ s
  refine Calls.spliced_cons (eval_zip hg hm ha I rfl o r q (fun s1 s2 C' H' xs ys l1 l2 its1 its2 vs ws o1 o2 H1 H2 St1 St2 hT I1 t S1 S2 k1 k2 Z hs2 rv1 rv2 dn1 dn2 hz => ?_) hs hpl)
  refine Calls.spliced_nil ?_
  obtain ⟨h2, rfl⟩ := hs2
  have hh : X.A.handled = none := I1.ok.hd hc
  have e1' := rv1.length
  have hmin : min its1.toArray.size its2.toArray.size ≤ sizeLine := Nat.le_trans (Nat.min_le_left _ _) (by rw [List.size_toArray, ← e1']; exact hz)
  have Z2 : Zipped s1.heap.objs.size { s1 with heap := h2 } { s1 with heap := h2 } St1 St2 := ⟨Z.z, Z.TI, Z.TO, Z.s1, Z.s2, Z.size, fun _ _ e => e⟩
  refine list_of_zip S1 S2 hh k1 k2 hmin Z2 fun h' tk acc c as a1 aL a2 a3 aa => ?_
  have keep : ∀ b u, s1.heap.get? b = some u → h'.get? b = some u := fun b u e => a1 b u (Heap.lt_size e) (Z.old b u e)
  have far : ∀ a ∈ as, s1.heap.objs.size ≤ a := fun a ha => Nat.le_trans (Nat.le_add_right _ 6) (a3.low a ha)
  have gl : GotL h' as its1 its2 := gotL_of fun j a e => by
    obtain ⟨x1, x2, g1, g2, g3⟩ := a3.at_ j a e
    exact ⟨x1, x2, by simpa using g1, by simpa using g2, g3⟩
  have e2' := rv2.length
  have lm : (mkL as its1 its2 vs ws).map (·.1) = as := mkL_map gl e1'.symm e2'.symm
  have nd : ((mkL as its1 its2 vs ws).map (·.1)).Nodup := by rw [lm]; exact nodup_rise a3.rise
  have fresh : ∀ b, s1.heap.objs.size ≤ b → H' b = none := fun b hb => I1.hok.fresh hb
  have hl : ∀ p ∈ mkL as its1 its2 vs ws, s1.heap.objs.size ≤ p.1 := fun p hp => far _ (by rw [← lm]; exact List.mem_map.mpr ⟨p, hp, rfl⟩)
  have tA := Tr.adds t.ok nd fun p hp => fresh _ (hl p hp)
  have hRz : s1.heap.objs.size ≤ s1.heap.objs.size + 5 := Nat.le_add_right _ 5
  have nR : s1.heap.objs.size + 5 ∉ (mkL as its1 its2 vs ws).map (·.1) := by
    rw [lm]
    intro hm
    exact Nat.not_succ_le_self _ (a3.low _ hm)
  generalize s1.heap.objs.size + 5 = R at hRz nR aL ⊢
  have hRn : H' R = none := fresh R hRz
  have hCn : C' R = none := fresh_back t.ok.ex hRn
  have alen : as.length = min its1.length its2.length := by simpa using a2
  have hlen : (as.map V.ref).length ≤ sizeLine := by rw [List.length_map, alen]; simpa using hmin
  have dns := mkL_dn (K := X.K) (pu := z.p) tA.cc gl rv1 rv2 dn1 dn2 alen fun p hp => addO_in nd hp
  have accR : h'.get? R = some { cls := .type "list", data := .seq (as.map Value.ref).toArray c } := by
    have e : acc = (as.map Value.ref).toArray := by apply Array.toList_inj.mp; rw [aa]
    rw [← e]; exact aL
  refine ⟨.ref R, upd (addO (mkL as its1 its2 vs ws) H') R (.lst (as.map V.ref)), ?_, rfl, ?_⟩
  · refine Inv.many (s := s1) (h' := h') (t' := tk) I1 keep (fun b u e => ?_) fun b u e => ?_
    · have hb : b < s1.heap.objs.size := I1.hok.lt e
      rw [upd_ne (Nat.ne_of_lt (Nat.lt_of_lt_of_le hb hRz)), addO_out fun hm => by
        obtain ⟨p, hp, rfl⟩ := List.mem_map.mp hm
        exact absurd (hl p hp) (Nat.not_le.mpr hb)]
      exact e
    · by_cases hb : b = R
      · subst hb
        rw [upd_same] at e
        cases e
        exact .inr ⟨hRz, hlen, as.map Value.ref, c, vals_refs as, accR⟩
      · rw [upd_ne hb] at e
        rcases addO_some e with e | e
        · exact .inl e
        · exact .inr ⟨hl _ e, mkL_ok gl rv1 rv2 _ e⟩
  · have hCa : addO (mkL as its1 its2 vs ws) C' R = none := by rw [addO_out nR]; exact hCn
    exact hT R _ _ _ (t.trans (Tr.mut t.ok tA hRn hCa)) (t.free hRn) hCa upd_same dns
end
end BV

/-! [e for x in xs for y in ys if t], by value. -/
namespace BV
open PySem PySem.Spec PyProof.Rows L2 Evl

def lcGo2 (t : Tgt) (mi1 : MI) (vs1 : List Nat) (t1 : Tgt) (mt1 : MT) (me : ME) (env : Env) : List D → List D → (List D → Prop) → Prop
  | [], acc, Q => Q acc
  | x :: xs, acc, Q => ∃ env1, t.put idD x env = some env1 ∧ mi1 env1 fun items => szOk (acc.length + items.length + 1) = true ∧ lcGo t1 mt1 me (wipeE env1 vs1) items acc fun acc' => lcGo2 t mi1 vs1 t1 mt1 me env xs acc' Q
def moLc2 (vs : List Nat) (mi : MI) (t : Tgt) (mi1 : MI) (vs1 : List Nat) (t1 : Tgt) (mt1 : MT) (me : ME) : MA := fun env Q => mi env fun items => lcGo2 t mi1 vs1 t1 mt1 me (wipeE env vs) items [] Q
theorem lcGo2_mono {t t1 : Tgt} {mi1 : MI} {vs1 : List Nat} {mt1 : MT} {me : ME} (h0 : MonoA mi1) (h1 : MonoT mt1) (h2 : Mono me) {env : Env} {Q Q' : List D → Prop} (i : ∀ ds, Q ds → Q' ds) : ∀ (xs acc : List D), lcGo2 t mi1 vs1 t1 mt1 me env xs acc Q → lcGo2 t mi1 vs1 t1 mt1 me env xs acc Q'
  | [], acc, h => i _ h
  | x :: xs, acc, ⟨env1, e, h⟩ => ⟨env1, e, h0 _ _ _ (fun items ⟨a, h⟩ => ⟨a, lcGo_mono h1 h2 (fun acc' h => lcGo2_mono h0 h1 h2 i xs acc' h) items acc h⟩) h⟩
section
variable {X : Cx} {elt tg iter tg1 iter1 : Expr} {ifs1 : List Expr} {scope : Scope} {own : List (Str × Nat)} {pos : Pos} {mi mi1 : MI} {t t1 : Tgt} {mt1 : MT} {me : ME} {vs1 : List Nat}
theorem lc2_data {K : PySem.W.Frag} {z : Pz} {C H : Hp} {env : Env} {σ : L2.St} {J : It} {items : List D} {vs : List Nat} {P : List D → Prop} {Q : VK} (o : Ok z C H) (r : EnvR K z C env σ) (it : ItD K z J items C) (h0 : MonoA mi1) (h1 : MonoT mt1) (h2 : Mono me) (ht : ∀ i ∈ t.sl, i ∈ vs) (ht1 : ∀ i ∈ t1.sl, i ∈ vs1)
    (q : lcGo2 t mi1 vs1 t1 mt1 me (wipeE env vs) items [] P) (k : ∀ ds xs a C' H', P ds → Tr z C H C' H' → H a = none → C' a = none → H' a = some (.lst xs) → Dns K C' z.p ds xs → Q (.ref a) H') :
    ∀ N, H N = none → ∃ W : Nat → Nat → Hp → Prop, (∃ m, W 0 m (upd H N (.lst []))) ∧ ∀ i m H, W i m H →
      (J.stop i H ∧ Q (.ref N) H) ∨ (J.go i H ∧ ∃ Nx : Hp → Prop, (∀ H', Nx H' → ∃ m', m' < m ∧ W (i + 1) m' H') ∧ ∀ x H', J.yld i H x H' → t.g K x (L2.wipe σ vs) H' fun σ2 H2 => L2.wipe σ2 vs = L2.wipe σ vs ∧ liftT K mYes σ2 H2 fun b H3 =>
        if b = true then liftI K mi1 σ2 H3 fun J1 H4 => ∃ W1 : Nat → Nat → Hp → Prop, (∃ m, W1 0 m H4) ∧ ∀ j k H, W1 j k H →
          (J1.stop j H ∧ Nx H) ∨ (J1.go j H ∧ ∃ Nx1 : Hp → Prop, (∀ H', Nx1 H' → ∃ k', k' < k ∧ W1 (j + 1) k' H') ∧ ∀ x H', J1.yld j H x H' → t1.g K x (L2.wipe σ2 vs1) H' fun σ3 H5 => L2.wipe σ3 vs1 = L2.wipe σ2 vs1 ∧ liftT K mt1 σ3 H5 fun b H6 =>
            if b = true then lift K me σ3 H6 fun y H7 => ∃ acc, H7 N = some (.lst acc) ∧ acc.length < sizeLine ∧ Nx1 (upd H7 N (.lst (acc ++ [y]))) else Nx1 H6)
        else Nx H3) := by
  intro N hN
  obtain ⟨G, Y, w, hG, hY⟩ := it.ex
  have hCN : C N = none := fresh_back o.ex hN
  have nNp : N ≠ z.p := fun e => o.pur.pn (by rw [← e]; exact hN)
  have nNg : N ≠ z.g := fun e => o.pur.gn (by rw [← e]; exact hN)
  let Pv : Nat → Hp → Prop := fun i Hc => ∃ C' acc xs, Tr z C H C' Hc ∧ C' N = none ∧ Hc N = some (.lst xs) ∧ Dns K C' z.p acc xs ∧ lcGo2 t mi1 vs1 t1 mt1 me (wipeE env vs) (items.drop i) acc P
  refine ⟨fun i m Hc => m = items.length - i ∧ i ≤ items.length ∧ Pv i Hc, ⟨items.length, by simp, Nat.zero_le _, C, [], [], Tr.ext o (Ex.new hN), hCN, upd_same, dns_nil.mpr rfl, q⟩, ?_⟩
  rintro i m Hc ⟨rfl, hi, C', acc, xs, t0, c1, c2, c3, q'⟩
  have hg := hG Hc (t0.cc.trans t0.ok.ex)
  by_cases hlt : i < items.length
  · refine .inr ⟨w.goes i Hc hlt hg, Pv (i + 1), fun H' p' => ⟨items.length - (i + 1), by omega, rfl, hlt, p'⟩, fun x Hd y => ?_⟩
    obtain ⟨d, C2, g1, g2, g3⟩ := hY i Hc x Hd hlt (w.yields i Hc x Hd hlt hg y) C' t0.cc t0.ok
    have hd : items.drop i = d :: items.drop (i + 1) := by
      rw [List.drop_eq_getElem_cons hlt]
      congr 1
      rw [List.getElem?_eq_getElem hlt] at g1
      exact Option.some.inj g1
    rw [hd] at q'
    obtain ⟨env1, e1, q1⟩ := q'
    have t2 := t0.trans g2
    have hnn : Hc N ≠ none := by rw [c2]; exact fun q => nomatch q
    refine EnvR.put ((r.mono t2.cc).wipe vs) g2.ok.ex ht g3 e1 fun σ2 s2 w2 => ⟨w2, z, C2, env1, g2.ok, s2, fun C3 H3 t3 => ?_⟩
    dsimp only
    rw [if_pos rfl]
    have t23 := g2.trans t3
    have hN3 : H3 N = some (.lst xs) := t23.keep N _ c2 nNp nNg
    have hC3 : C3 N = none := (t23.new N hnn).trans c1
    refine ⟨z, C3, env1, t3.ok, s2.mono t3.cc, h0 _ _ _ (fun its ⟨hz, q2⟩ J1 C4 H4 t4 it1 => ?_) q1⟩
    obtain ⟨G1, Y1, w1, hG1, hY1⟩ := it1.ex
    have t34 := t23.trans t4
    have hN4 : H4 N = some (.lst xs) := t34.keep N _ c2 nNp nNg
    have hC4 : C4 N = none := (t34.new N hnn).trans c1
    have r4 : EnvR K z C4 env1 σ2 := s2.mono (t3.cc.trans t4.cc)
    have hz' : acc.length + its.length + 1 ≤ 4000000 := by simpa [szOk] using hz
    refine ⟨fun j k Hc => k = its.length - j ∧ j ≤ its.length ∧ ∃ C' acc' xs', Tr z C H C' Hc ∧ Ex C4 C' ∧ C' N = none ∧ Hc N = some (.lst xs') ∧ Dns K C' z.p acc' xs' ∧ acc'.length ≤ acc.length + j ∧ lcGo t1 mt1 me (wipeE env1 vs1) (its.drop j) acc' fun acc' => lcGo2 t mi1 vs1 t1 mt1 me (wipeE env vs) (items.drop (i + 1)) acc' P,
      ⟨its.length, by simp, Nat.zero_le _, C4, acc, xs, t0.trans t34, Ex.refl _, hC4, hN4, c3.mono t34.cc, Nat.le_refl _, q2⟩, ?_⟩
    rintro j k Hj ⟨rfl, hj, C5, acc5, xs5, t5, e5, c51, c52, c53, c54, q5⟩
    have hg1 := hG1 Hj (e5.trans t5.ok.ex)
    by_cases hlt1 : j < its.length
    · refine .inr ⟨w1.goes j Hj hlt1 hg1, fun Hc => ∃ C' acc' xs', Tr z C H C' Hc ∧ Ex C4 C' ∧ C' N = none ∧ Hc N = some (.lst xs') ∧ Dns K C' z.p acc' xs' ∧ acc'.length ≤ acc.length + (j + 1) ∧ lcGo t1 mt1 me (wipeE env1 vs1) (its.drop (j + 1)) acc' fun acc' => lcGo2 t mi1 vs1 t1 mt1 me (wipeE env vs) (items.drop (i + 1)) acc' P,
        fun H' p' => ⟨its.length - (j + 1), by omega, rfl, hlt1, p'⟩, fun x1 Hk y1 => ?_⟩
      obtain ⟨d1, C6, k1, k2, k3⟩ := hY1 j Hj x1 Hk hlt1 (w1.yields j Hj x1 Hk hlt1 hg1 y1) C5 e5 t5.ok
      have hd1 : its.drop j = d1 :: its.drop (j + 1) := by
        rw [List.drop_eq_getElem_cons hlt1]
        congr 1
        rw [List.getElem?_eq_getElem hlt1] at k1
        exact Option.some.inj k1
      rw [hd1] at q5
      obtain ⟨env2, f1, q6⟩ := q5
      have nn5 : Hj N ≠ none := by rw [c52]; exact fun q => nomatch q
      refine EnvR.put ((r4.mono (e5.trans k2.cc)).wipe vs1) k2.ok.ex ht1 k3 f1 fun σ3 s3 w3 => ⟨w3, z, C6, env2, k2.ok, s3, h1 _ _ _ (fun b q7 C7 H7 t7 => ?_) q6⟩
      have t57 := k2.trans t7
      have hN7 : H7 N = some (.lst xs5) := t57.keep N _ c52 nNp nNg
      have hC7 : C7 N = none := (t57.new N nn5).trans c51
      cases b with
      | false => exact ⟨C7, acc5, xs5, t5.trans t57, e5.trans t57.cc, hC7, hN7, c53.mono t57.cc, Nat.le_succ_of_le c54, q7⟩
      | true =>
        show lift K me σ3 H7 _
        refine ⟨z, C7, env2, t7.ok, s3.mono t7.cc, h2 _ _ _ (fun d2 q8 v C8 H8 t8 dn8 => ?_) q7⟩
        have t58 := t57.trans t8
        have hN8 : H8 N = some (.lst xs5) := t58.keep N _ c52 nNp nNg
        have hC8 : C8 N = none := (t58.new N nn5).trans c51
        have hl := c53.len
        refine ⟨xs5, hN8, ?_, C8, acc5 ++ [d2], xs5 ++ [v], Tr.mut o (t5.trans t58) hN hC8, e5.trans t58.cc, hC8, upd_same, (c53.mono t58.cc).app (Dns.one dn8), by simp; omega, q8⟩
        refine sz_lt ?_
        simp only [szOk, decide_eq_true_eq]
        omega
    · have e : j = its.length := by omega
      subst e
      rw [List.drop_of_length_le (Nat.le_refl _)] at q5
      exact .inl ⟨w1.stops Hj hg1, C5, acc5, xs5, t5, c51, c52, c53, q5⟩
  · have e : i = items.length := by omega
    subst e
    rw [List.drop_of_length_le (Nat.le_refl _)] at q'
    exact .inl ⟨w.stops Hc hg, k acc xs N C' Hc q' t0 hN c1 c2 c3⟩
theorem pdo_lc2 (hc : X.calm = true) (hN : X.N.Nodup) (hi : PDI X tg iter mi) (ok : BlkOk X.N X.env.scope scope own) (ht : ∀ i ∈ t.sl, i ∈ own.map (·.2)) (ht1 : ∀ i ∈ t1.sl, i ∈ vs1) (hv : ∀ i ∈ vs1, i ∈ own.map (·.2))
    (hg : ∀ (s : Shared) (H : Hp) (C : Addr) (cl : List (Str × Addr)) (fp : List Addr), PG (X.blk s H scope (compEnvC scope cl C X.env) fp) tg (t.g X.K))
    (hi1 : ∀ (s : Shared) (H : Hp) (C : Addr) (cl : List (Str × Addr)) (fp : List Addr), PDI (X.blk s H scope (compEnvC scope cl C X.env) fp) tg1 iter1 mi1)
    (hg1 : ∀ (s : Shared) (H : Hp) (C : Addr) (cl : List (Str × Addr)) (fp : List Addr), PG (X.blk s H scope (compEnvC scope cl C X.env) fp) tg1 (t1.g X.K)) (hts : ∀ (s : Shared) (H : Hp) (C : Addr) (cl : List (Str × Addr)) (fp : List Addr), PDTs (X.blk s H scope (compEnvC scope cl C X.env) fp) ifs1 mt1)
    (he : ∀ (s : Shared) (H : Hp) (C : Addr) (cl : List (Str × Addr)) (fp : List Addr), PD (X.blk s H scope (compEnvC scope cl C X.env) fp) elt me) (hs : ∀ x, foldedSetIterable iter X.env x = pure x := by intro _; rfl) (hs1 : ∀ env x, foldedSetIterable iter1 env x = pure x := by intro _ _; rfl) :
    PDO X (.ListComp elt [⟨tg, iter, [], 0⟩, ⟨tg1, iter1, ifs1, 0⟩] scope pos) (moLc2 (own.map (·.2)) mi t mi1 vs1 t1 mt1 me) := by
  have h0 := (hi1 X.s_0 X.H_0 0 [] []).mono
  have h1 := (hts X.s_0 X.H_0 0 [] []).mono
  have h2 := (he X.s_0 X.H_0 0 [] []).mono
  refine ⟨pe_imp (pe_lc2 (tt := liftT X.K mYes) (tt1 := liftT X.K mt1) (te := lift X.K me) (wi1 := liftI X.K mi1) hc hN hi.run ok hv hg (fun s H C cl fp => pdts_nil.run) (fun s H C cl fp => (hi1 s H C cl fp).run) hg1 (fun s H C cl fp => (hts s H C cl fp).run) (fun s H C cl fp => (he s H C cl fp).run) hs hs1) fun σ H Q q => ?_,
    fun env Q Q' i q => hi.mono _ _ _ (fun items q => lcGo2_mono h0 h1 h2 i _ _ q) q⟩
  obtain ⟨z, C, env, o, r, q⟩ := q
  refine ⟨z, C, env, o, r, hi.mono _ _ _ (fun items q J C' H' t0 it => ?_) q⟩
  exact lc2_data t0.ok (r.mono t0.cc) it h0 h1 h2 ht ht1 q fun ds xs a C2 H2 p t2 g1 g2 g3 g4 => p a xs C2 H2 (t0.trans t2) (t0.free g1) g2 g3 g4
end
end BV

/-! Dicts whose keys are nested tuples: storing a key. -/
namespace BV
open PySem PySem.Spec PyProof.Rows L2 Evl

mutual
/-- data as a key -/
def nk : D → NestedKey
  | .int i => .num i
  | .str x => .text x
  | .tup ds => .tup (nks ds)
  | .non => .none
  | .bl _ => .none
  | .lst _ => .none
  | .pur => .none
  | .pr _ => .none
  | .dic _ _ => .none
def nks : List D → List NestedKey
  | [] => []
  | d :: ds => nk d :: nks ds
end
mutual
/-- numbers, words, tuples of such -/
def okN : D → Bool
  | .int _ => true
  | .str _ => true
  | .tup ds => okNs ds
  | .non => false
  | .bl _ => false
  | .lst _ => false
  | .pur => false
  | .pr _ => false
  | .dic _ _ => false
def okNs : List D → Bool
  | [] => true
  | d :: ds => okN d && okNs ds
end
mutual
theorem nest_of {h : Heap} : ∀ (d : D) (u : Value) (as : List Addr), okN d = true → Reads h u d.py as → NestedIs h (nk d) u
  | .int i, u, as, o, r => by simp only [D.py] at r; cases r; exact .int _ _
  | .str x, u, as, o, r => by simp only [D.py] at r; cases r; exact .text _ _
  | .tup ds, u, as, o, r => by
    simp only [D.py] at r
    cases r with
    | tuple h1 h2 h3 h4 => exact .tup h1 h2 h3 (nests_of ds _ _ (by simpa [okN] using o) h4)
  | .non, u, as, o, r => by cases o
  | .bl _, u, as, o, r => by cases o
  | .lst _, u, as, o, r => by cases o
  | .pur, u, as, o, r => by cases o
  | .pr _, u, as, o, r => by cases o
  | .dic _ _, u, as, o, r => by cases o
theorem nests_of {h : Heap} : ∀ (ds : List D) (us : List Value) (as : List Addr), okNs ds = true → ReadsAll h us (D.pys ds) as → NestedAll h (nks ds) us
  | [], us, as, o, r => by simp only [D.pys] at r; cases r; exact .nil
  | d :: ds, us, as, o, r => by
    simp only [D.pys] at r
    have o' : okN d = true ∧ okNs ds = true := by simpa [okNs] using o
    cases r with
    | cons h1 h2 => exact .cons (nest_of d _ _ o'.1 h1) (nests_of ds _ _ o'.2 h2)
end
mutual
theorem nk_inj : ∀ (d e : D), okN d = true → okN e = true → nk d = nk e → d = e
  | .int i, e, o, q, h => by
    cases e with
    | int j => simp only [nk, NestedKey.num.injEq] at h; rw [h]
    | str y => simp [nk] at h
    | tup es => simp [nk] at h
    | _ => cases q
  | .str x, e, o, q, h => by
    cases e with
    | int j => simp [nk] at h
    | str y => simp only [nk, NestedKey.text.injEq] at h; rw [h]
    | tup es => simp [nk] at h
    | _ => cases q
  | .tup ds, e, o, q, h => by
    cases e with
    | int j => simp [nk] at h
    | str y => simp [nk] at h
    | tup es =>
      simp only [nk, NestedKey.tup.injEq] at h
      rw [nks_inj ds es (by simpa [okN] using o) (by simpa [okN] using q) h]
    | _ => cases q
  | .non, e, o, q, h => by cases o
  | .bl _, e, o, q, h => by cases o
  | .lst _, e, o, q, h => by cases o
  | .pur, e, o, q, h => by cases o
  | .pr _, e, o, q, h => by cases o
  | .dic _ _, e, o, q, h => by cases o
theorem nks_inj : ∀ (ds es : List D), okNs ds = true → okNs es = true → nks ds = nks es → ds = es
  | [], [], _, _, _ => rfl
  | [], e :: es, _, _, h => by simp [nks] at h
  | d :: ds, [], _, _, h => by simp [nks] at h
  | d :: ds, e :: es, o, q, h => by
    simp only [nks, List.cons.injEq] at h
    have o' : okN d = true ∧ okNs ds = true := by simpa [okNs] using o
    have q' : okN e = true ∧ okNs es = true := by simpa [okNs] using q
    rw [nk_inj d e o'.1 q'.1 h.1, nks_inj ds es o'.2 q'.2 h.2]
end
/-- such a tuple may be a key -/
def okKeyN (d : D) : Bool := okN d && okEq d && decide ((nk d).depth ≤ 8) && (match d with | .tup _ => true | _ => false)
theorem okKeyN_of {d : D} (h : okKeyN d = true) : okN d = true ∧ okEq d = true ∧ (nk d).depth ≤ 8 ∧ ∃ ds, d = .tup ds := by
  simp only [okKeyN, Bool.and_eq_true, decide_eq_true_eq] at h
  refine ⟨h.1.1.1, h.1.1.2, h.1.2, ?_⟩
  cases d with
  | tup ds => exact ⟨ds, rfl⟩
  | _ => exact absurd h.2 (by simp)
abbrev Ent := NestedKey × Addr × Value
/-- at D a dict with these entries -/
def DictN (P : Program) (w : World) (h : Heap) (D : Addr) (xs : List Ent) : Prop :=
  (D == sysModules) = false ∧ xs.length ≤ sizeLine ∧ (xs.map (·.1)).Nodup ∧ ∃ o es ep, h.get? D = some o ∧ o.ExactDict ∧ o.data = .dict es ep ∧ es.toList = xs.map (entryOfKey (nestedKind P w))
def dN (P : Program) (w : World) (D : Addr) (xs : List Ent) : HO := .ext fun h => DictN P w h D xs
theorem dN_ok {P : Program} {w : World} {H : Hp} {h : Heap} {D : Addr} {xs : List Ent} (q : DictN P w h D xs) : ObjOk P w H h D (dN P w D xs) := by
  have ⟨_, _, _, o, es, ep, e, _⟩ := q
  exact ⟨q, ⟨_, e⟩, fun h1 h2 ⟨a, b, c, o, es, ep, e, r⟩ k => ⟨a, b, c, o, es, ep, k _ e, r⟩⟩
/-- what stands at a is the data that makes this key -/
def KeyAt (K : PySem.W.Frag) (H : Hp) (k : NestedKey) (a : Addr) : Prop := ∃ d, okKeyN d = true ∧ nk d = k ∧ Dp K H (.ref a) d.py
theorem KeyAt.is {X : Cx} {pins : List (Addr × Obj)} {σ : L2.St} {H : Hp} {s : Shared} {k : NestedKey} {a : Addr} (I : Inv X pins σ H s) (h : KeyAt X.K H k a) : (nestedKind X.prog X.w).is s.heap k a := by
  obtain ⟨d, h1, rfl, h3⟩ := h
  obtain ⟨o1, o2, o3, _⟩ := okKeyN_of h1
  obtain ⟨as, r⟩ := Dp.reads I _ _ (.ref a) h3 (show RelV (.ref a) (.ref a) from rfl)
  exact ⟨nest_of d _ _ o1 r, o3⟩
theorem storedH_len (xs : List Ent) (k : NestedKey) (a : Addr) (v : Value) : (storedH xs k a v).length ≤ xs.length + 1 := by
  unfold storedH
  split
  · rw [List.length_map]; omega
  · rw [List.length_append]; exact Nat.le_refl _
theorem set_key {X : Cx} {pins : List (Addr × Obj)} {σ : L2.St} {H : Hp} {s : Shared} {E : Value → Shared → Prop} {D a : Addr} {xs : List Ent} {k : NestedKey} {v : Value} {Q : Unit → Shared → Prop} (hu : X.A.units + 8 < cLine) (I : Inv X pins σ H s) (hD : H D = some (dN X.prog X.w D xs)) (room : xs.length < sizeLine)
    (hk : KeyAt X.K H k a) (hks : ∀ x ∈ xs, KeyAt X.K H x.1 x.2.1) (h : ∀ s', Inv X pins σ (upd H D (dN X.prog X.w D (storedH xs k a v))) s' → Q () s') : wpAny (model X.prog X.w) X.A (dictSet D (.ref a) v) Q E s := by
  obtain ⟨g1, g2, g3, o, es, ep, e, hc, hd, he⟩ := (I.hok D _ hD).1
  refine wpAny_dictSet_heap (knd := nestedKind X.prog X.w) (k := k) hu (hk.is I) ⟨o, es, ep, e, hc, hd, he, fun x hx => (hks x hx).is I, g3⟩ (fun h' m hs => h _ ?_) g2
  obtain ⟨o', es', ep', e', hc', hd', he', _, hn'⟩ := m
  exact I.write (e := D) (t' := _) (by rw [hD]; trivial) (.inl rfl) (fun b u hb q => (hs.2 b hb).trans q) ⟨_, e'⟩ (dN_ok ⟨g1, Nat.le_trans (storedH_len xs k a v) room, hn', o', es', ep', e', hc', hd', he'⟩)
theorem empty_dN {P : Program} {w : World} {h : Heap} {D : Addr} (hD : (D == sysModules) = false) (e : h.get? D = some { cls := .type "dict", data := .dict #[] }) : DictN P w h D [] :=
  ⟨hD, Nat.zero_le _, List.nodup_nil, _, #[], 0, e, ⟨rfl, rfl, rfl⟩, rfl, rfl⟩
end BV

/-! {key: a truth value for x in xs if t}, the keys nested tuples; list of such a dict. -/
namespace BV
open PySem PySem.Spec PyProof.Rows L2 Evl

section
variable {X : Cx}
/-- D the new dict -/
def tDn (P : Program) (w : World) (K : PySem.W.Frag) (wi : TI) (g : TG) (tt : TT) (tk tv : TE) (vs : List Nat) : TE := fun σ H Q => wi σ H fun J H1 => ∀ D, H1 D = none → ∃ W : Nat → Nat → Hp → Prop, (∃ m, W 0 m (upd H1 D (dN P w D []))) ∧ ∀ i m H, W i m H →
  (J.stop i H ∧ Q (.ref D) H) ∨ (J.go i H ∧ ∃ Nx : Hp → Prop, (∀ H', Nx H' → ∃ m', m' < m ∧ W (i + 1) m' H') ∧ ∀ x H', J.yld i H x H' → g x (L2.wipe σ vs) H' fun σ2 H2 => L2.wipe σ2 vs = L2.wipe σ vs ∧ tt σ2 H2 fun b H3 =>
    if b = true then tk σ2 H3 fun y H4 => tv σ2 H4 fun v H5 => ∃ (k : NestedKey) (a : Addr) (c : Bool) (xs : List Ent), y = .ref a ∧ v = .bl c ∧ H5 D = some (dN P w D xs) ∧ xs.length < sizeLine ∧ KeyAt K H5 k a ∧ (∀ x ∈ xs, KeyAt K H5 x.1 x.2.1) ∧ Nx (upd H5 D (dN P w D (storedH xs k a (.bool c)))) else Nx H3)
theorem pe_dn {kx vx tg iter : Expr} {ifs : List Expr} {scope : Scope} {own : List (Str × Nat)} {pos : Pos} {wi : TI} {g : TG} {tt : TT} {tk tv : TE} (hu : X.A.units + 8 < cLine) (calm : X.calm = true) (nodup : X.N.Nodup) (over : PI X tg iter wi) (blk : BlkOk X.N X.env.scope scope own)
    (tgt : ∀ (s : Shared) (H : Hp) (C : Addr) (cl : List (Str × Addr)) (fp : List Addr), PG (X.blk s H scope (compEnvC scope cl C X.env) fp) tg g) (tst : ∀ (s : Shared) (H : Hp) (C : Addr) (cl : List (Str × Addr)) (fp : List Addr), PTs (X.blk s H scope (compEnvC scope cl C X.env) fp) ifs tt)
    (key : ∀ (s : Shared) (H : Hp) (C : Addr) (cl : List (Str × Addr)) (fp : List Addr), PE (X.blk s H scope (compEnvC scope cl C X.env) fp) kx tk) (val : ∀ (s : Shared) (H : Hp) (C : Addr) (cl : List (Str × Addr)) (fp : List Addr), PE (X.blk s H scope (compEnvC scope cl C X.env) fp) vx tv)
    (plain : ∀ x, foldedSetIterable iter X.env x = pure x := by intro _; rfl) :
    PE X (.DictComp kx vx [⟨tg, iter, ifs, 0⟩] scope pos) (tDn X.prog X.w X.K wi g tt tk tv (own.map (·.2))) := by
  refine ⟨fun pins s0 σ H0 Q I0 start => ?_⟩
  rw [arm_eval_DictComp]
  have captured : ∀ y ∈ scope.names, y.2 = .free → ∃ c, X.env.cells.lookup y.1 = some c := fun y hy e => (blk.free y hy e).elim (fun k => I0.ok.has _ (.inl k)) fun k => I0.ok.has _ (.inr k)
  refine wpAny_comprehension_free (use := none) rfl plain (closure_ok captured) blk.kind (fun y hy e => by rw [blk.uniq y hy, e])
    (thn (over.run pins s0 σ H0 _ I0 start) fun xv s1 got => thn got fun itv s2 got2 => ?_)
  obtain ⟨it, fp, tn, J, H2, e, I2, T, at0, away, q⟩ := got2
  subst e
  refine wpAny_newObj_type (newEnv_comp ?_)
  -- the new dict at D
  generalize atD' : s2.heap.objs.size = D
  obtain ⟨W, ⟨m0, w0⟩, turn⟩ := q D (I2.hok.fresh (Nat.le_of_eq atD'))
  generalize made : ({ s2 with heap := s2.heap.push { cls := .type "dict", data := .dict #[] } } : Shared) = s3
  have heap3 : s3.heap = s2.heap.push { cls := .type "dict", data := .dict #[] } := by rw [← made]
  have I3 : Inv X pins σ (upd H2 D (dN X.prog X.w D [])) s3 := by
    rw [← made]
    refine I2.laid (t' := s2.toks) (fun b o z => Heap.get?_push_of_some _ z) (Nat.le_of_eq atD') (dN_ok (empty_dN ?_ ?_))
    · rw [← atD']
      exact beq_eq_false_iff_ne.mpr (Ne.symm (Nat.ne_of_lt I2.big))
    · rw [← atD']
      exact Heap.get?_push_size _ rfl
  have small : ∀ b ∈ fp, b < s2.heap.objs.size := fun b hb => let ⟨_, z, _⟩ := T.obj _ _ at0 b hb; Heap.lt_size z
  have away3 : ∀ b ∈ fp, FpOk X pins (upd H2 D (dN X.prog X.w D [])) b ∧ b < s3.heap.objs.size := fun b hb => by
    have lt := small b hb
    refine ⟨⟨?_, (away b hb).2⟩, by rw [heap3, Heap.size_push]; exact Nat.lt_succ_of_lt lt⟩
    rw [upd_ne (by rw [← atD']; exact Nat.ne_of_lt lt)]
    exact (away b hb).1
  have at3 : tn 0 s3.heap := T.keep _ _ _ at0 fun b _ o z => by rw [heap3]; exact Heap.get?_push_of_some _ z
  have I4 := block_start I3 blk nodup away3
  generalize cells : cellsFrom (s3.heap.objs.size + 1) scope.names (cloFrom X.env.cells scope.names []) = cl at I4 ⊢
  have tg' := tgt s3 (upd H2 D (dN X.prog X.w D [])) s3.heap.objs.size cl fp
  have ts' := tst s3 (upd H2 D (dN X.prog X.w D [])) s3.heap.objs.size cl fp
  have ke' := key s3 (upd H2 D (dN X.prog X.w D [])) s3.heap.objs.size cl fp
  have va' := val s3 (upd H2 D (dN X.prog X.w D [])) s3.heap.objs.size cl fp
  show codeAny _ _ (.compStart (.DictComp kx vx [⟨tg, iter, ifs, 0⟩] scope pos) 0 (.ref it) (.ref D) (compEnvC scope cl s3.heap.objs.size X.env)) (compPost (model X.prog X.w) X.A X.xe none (EP X pins σ Q) (.ref D) s3.heap.objs.size) { s3 with heap := pushCells (s3.heap.push { cls := .type "dict", data := .dict #[] }) scope.names }
  have none3 : ∀ b ∈ fp, (upd H2 D (dN X.prog X.w D [])) b = none := fun b hb => (away3 b hb).1.1
  generalize inner : compEnvC scope cl s3.heap.objs.size X.env = ce at I4 tg' ts' ke' va' ⊢
  have itsLoc : ce.locals = s3.heap.objs.size := by subst inner; rfl
  generalize upd H2 D (dN X.prog X.w D []) = H3 at I3 I4 tg' ts' ke' va' w0 none3 away3
  generalize opened : ({ s3 with heap := pushCells (s3.heap.push { cls := .type "dict", data := .dict #[] }) scope.names } : Shared) = s4 at I4 ⊢
  have at4 : tn 0 s4.heap := T.keep _ _ _ at3 fun b _ o z => by rw [← opened]; exact pushCells_keeps _ _ _ _ (Heap.get?_push_of_some _ z)
  have frames : ∀ {σ' : L2.St} {H' : Hp} {s' : Shared}, Inv (X.blk s3 H3 scope ce fp) [] σ' H' s' → (∀ b ∈ fp, H' b = none) → ∀ b ∈ fp, FpOk (X.blk s3 H3 scope ce fp) [] H' b := fun {σ' H' s'} J' hn b hb =>
    ⟨hn b hb, (J'.ok.exf b hb).1, J'.ok.exfs b hb, .inl hb, fun x c z => (J'.ok.exf b hb).2 x c z, fun p hp => absurd (show p ∈ ([] : List (Addr × Obj)) ++ [] from hp) (by simp)⟩
  have loop : codeAny (model X.prog X.w) X.A (.compLoop (.DictComp kx vx [⟨tg, iter, ifs, 0⟩] scope pos) 0 (.ref it) (.ref D) ce) (compPost (model X.prog X.w) X.A X.xe none (EP X pins σ Q) (.ref D) s3.heap.objs.size) s4 := by
    refine compLoop_anyD (fun n s' => ∃ i H', Inv (X.blk s3 H3 scope ce fp) [] (L2.wipe σ (own.map (·.2))) H' s' ∧ tn i s'.heap ∧ (∀ b ∈ fp, H' b = none) ∧ W i n H') (fun n s5 ⟨i, H5, I5, at5, none5, w5⟩ => ?_) m0 ⟨0, H3, I4, at4, none3, w0⟩
    rcases turn i n H5 w5 with ⟨stop, result⟩ | ⟨go, Nx, less, step⟩
    · -- the end: back in the def
      refine thnF (T.done (X.blk s3 H3 scope ce fp) rfl rfl rfl calm i [] s5 _ H5 (fun _ _ => False) I5 (frames I5 none5) at5 stop) fun r s6 ⟨hr, I6⟩ => ?_
      subst hr
      have back : Inv X pins σ H5 s6 := I3.call' (ch := fp) I6.os I6.base I6.hok I6.bare fun b hb => ⟨(away3 b hb).1.2.2.2.1, (away3 b hb).1.2.1, (away3 b hb).1.2.2.2.2.1, (away3 b hb).1.2.2.2.2.2⟩
      have noLoc : H5 s3.heap.objs.size = none := itsLoc ▸ I6.free
      obtain ⟨m, names, _⟩ := I6.loc
      have names : s6.heap.Ns s3.heap.objs.size m := itsLoc ▸ (show s6.heap.Ns ce.locals m from names)
      obtain ⟨f0, f1, f2, f3, f4, f5⟩ := I3.fpOk (Nat.le_refl _) noLoc
      exact ⟨m, names, fun h'' sb => ⟨.ref D, H5, back.turned (t' := s6.toks) (fun b o hb z => (sb.2 b hb).trans z) f0 f1 f3 f4 f5, rfl, result⟩⟩
    · refine thnF (T.item (X.blk s3 H3 scope ce fp) rfl rfl rfl calm i [] s5 _ H5 (fun _ _ => False) I5 (frames I5 none5) at5 go) fun r s6 ⟨u, hr, got6⟩ => ?_
      subst hr
      refine thnF got6 fun _ s7 ⟨x, H7, I7, r7, y7, at7, none7⟩ => ?_
      refine thnF (tg'.run _ s7 _ H7 x u _ (I7.pinned (frames I7 none7) (T.obj _ _ at7)) r7 (step x H7 y7)) fun _ s8 ⟨σ8, H8, I8, same8, q8⟩ => thnF (ts'.run _ s8 σ8 H8 _ I8 q8) fun b s9 ⟨H9, I9, q9⟩ => ?_
      have turned : ∀ {s' : Shared} {H' : Hp}, Inv (X.blk s3 H3 scope ce fp) ([] ++ pinsAt fp s7.heap) σ8 H' s' → Nx H' → ∃ m, m < n ∧ ∃ i H', Inv (X.blk s3 H3 scope ce fp) [] (L2.wipe σ (own.map (·.2))) H' s' ∧ tn i s'.heap ∧ (∀ b ∈ fp, H' b = none) ∧ W i m H' := fun {s' H'} J' nx => by
        obtain ⟨m', lt, w'⟩ := less H' nx
        have pinned : ∀ b ∈ fp, ∀ o, s7.heap.get? b = some o → s'.heap.get? b = some o ∧ H' b = none := fun b hb o z =>
          let k := J'.pin (b, o) (List.mem_append_right _ (List.mem_append_right _ (mem_pinsAt hb z)))
          ⟨k.1, k.2.1⟩
        refine ⟨m', lt, i + 1, H', (J'.unpinned (pins := [])).weak (by rw [← same8, wipe_length]) (fun j v z => (wipe_some (same8 ▸ z)).1), T.keep _ _ _ at7 fun b hb o z => (pinned b hb o z).1, fun b hb => ?_, w'⟩
        obtain ⟨o, z, _⟩ := T.obj _ _ at7 b hb
        exact (pinned b hb o z).2
      cases b with
      | false =>
        simp only [Bool.false_eq_true, if_false] at q9 ⊢
        exact turned I9 q9
      | true =>
        simp only [if_true] at q9 ⊢
        refine thnF (ke'.run _ s9 σ8 H9 _ I9 q9) fun z s10 ⟨yk, H10, I10, r10, q10⟩ => ?_
        refine thnF (va'.run _ s10 σ8 H10 _ I10 q10) fun z2 s11 ⟨yv, H11, I11, r11, k, a, c, xs, ek, ev, hD11, room, hk, hks, nx⟩ => ?_
        subst ek
        subst ev
        obtain rfl : z = Value.ref a := r10
        obtain rfl : z2 = Value.bool c := r11
        exact set_key (X := X.blk s3 H3 scope ce fp) hu I11 hD11 room hk hks fun s12 I12 => turned I12 nx
  exact codeAny_compStart_dict loop (T.self X.A 0 _ _ _ at4 loop)
/-- list(such a dict) -/
def rListN (P : Program) (w : World) : List V → Hp → VK → Prop := fun vs H Q => ∃ (D : Addr) (xs : List Ent), vs = [V.ref D] ∧ H D = some (dN P w D xs) ∧ ∀ p, H p = none → Q (.ref p) (upd H p (.lst (xs.map fun x => V.ref x.2.1)))
theorem cr_listN (hc : X.calm = true) : CallR X (.type "list") (rListN X.prog X.w) := by
  intro pins s σ H vs us Q I r h
  obtain ⟨D, xs, rfl, hD, q⟩ := h
  rw [Vals.ref1 r]
  obtain ⟨g1, g2, g3, o, es, ep, e, hcl, hd, he⟩ := (I.hok D _ hD).1
  have hsz : es.size = xs.length := by rw [← Array.length_toList, he, List.length_map]
  refine PySem.W.kdl_call (PySem.KdlSrc.rawDict (es := es) (ep := ep) g1) (I.ok.hd hc) (show s.heap.DictRaw D es ep from ⟨o, e, hcl, hd⟩) (by rw [hsz]; exact g2) fun h' tk acc c k hL hacc => ?_
  have fresh : H s.heap.objs.size = none := I.hok.fresh (Nat.le_refl _)
  have items : acc.toList = xs.map fun x => Value.ref x.2.1 := by
    apply List.ext_getElem?
    intro i
    by_cases hi : i < xs.length
    · have hia : i < acc.size := by rw [hacc.1, hsz]; exact hi
      obtain ⟨hie, ev⟩ := hacc.2 i acc[i] (by simp [hia])
      rw [Array.getElem?_toList, Array.getElem?_eq_getElem hia, ev, List.getElem?_map, List.getElem?_eq_getElem hi]
      have : es.toList[i]? = (xs.map (entryOfKey (nestedKind X.prog X.w)))[i]? := by rw [he]
      rw [Array.getElem?_toList, Array.getElem?_eq_getElem hie, List.getElem?_map, List.getElem?_eq_getElem hi] at this
      have := Option.some.inj this
      rw [this]
      rfl
    · rw [List.getElem?_eq_none (by rw [Array.length_toList, hacc.1, hsz]; omega), List.getElem?_eq_none (by rw [List.length_map]; omega)]
  have hv : ∀ l : List Ent, Vals (l.map fun x => V.ref x.2.1) (l.map fun x => Value.ref x.2.1) := fun l => by
    induction l with
    | nil => exact .nil
    | cons x l ih => exact .cons (show RelV (.ref _) (.ref _) from rfl) ih
  refine ⟨.ref s.heap.objs.size, upd H s.heap.objs.size (.lst (xs.map fun x => V.ref x.2.1)), I.laid (t' := tk) k (Nat.le_refl _) ⟨by rw [List.length_map]; exact g2, xs.map fun x => Value.ref x.2.1, c, hv xs, ?_⟩, rfl, q _ fresh⟩
  rw [hL]
  have : acc = (xs.map fun x => Value.ref x.2.1).toArray := by apply Array.toList_inj.mp; rw [items]
  rw [this]
end
end BV

/-! list({key: True for x in xs}), by value: each key once, in the order of coming. -/
namespace BV
open PySem PySem.Spec PyProof.Rows L2 Evl

def addU (acc : List D) (y : D) : List D := if nk y ∈ acc.map nk then acc else acc ++ [y]
def uqGo (t : Tgt) (mk : ME) (env : Env) : List D → List D → (List D → Prop) → Prop
  | [], acc, Q => Q acc
  | x :: xs, acc, Q => ∃ env1, t.put idD x env = some env1 ∧ mk env1 fun y => okKeyN y = true ∧ uqGo t mk env xs (addU acc y) Q
def moUniq (vs : List Nat) (mi : MI) (t : Tgt) (mk : ME) : MA := fun env Q => mi env fun items => szOk (items.length + 1) = true ∧ uqGo t mk (wipeE env vs) items [] Q
theorem uqGo_mono {t : Tgt} {mk : ME} (h : Mono mk) {env : Env} {Q Q' : List D → Prop} (i : ∀ ds, Q ds → Q' ds) : ∀ (xs acc : List D), uqGo t mk env xs acc Q → uqGo t mk env xs acc Q'
  | [], acc, q => i _ q
  | x :: xs, acc, ⟨env1, e, q⟩ => ⟨env1, e, h _ _ _ (fun y ⟨a, q⟩ => ⟨a, uqGo_mono h i xs _ q⟩) q⟩
theorem atKey_iff {xs : List Ent} {k : NestedKey} : (atKey xs k).isSome = true ↔ k ∈ xs.map (·.1) := by
  unfold atKey
  rw [Option.isSome_map, List.find?_isSome]
  constructor
  · rintro ⟨x, h1, h2⟩
    exact List.mem_map.mpr ⟨x, h1, of_decide_eq_true h2⟩
  · intro h
    obtain ⟨x, h1, h2⟩ := List.mem_map.mp h
    exact ⟨x, h1, decide_eq_true h2⟩
theorem stored_old {xs : List Ent} {k : NestedKey} {a : Addr} {v : Value} (h : k ∈ xs.map (·.1)) : (storedH xs k a v).map (·.1) = xs.map (·.1) ∧ ((storedH xs k a v).map fun x => V.ref x.2.1) = xs.map fun x => V.ref x.2.1 := by
  unfold storedH
  rw [if_pos (atKey_iff.mpr h)]
  refine ⟨?_, ?_⟩
  · rw [List.map_map]
    apply List.map_congr_left
    intro x _
    show (putAt k v x).1 = x.1
    unfold putAt
    split <;> rfl
  · rw [List.map_map]
    apply List.map_congr_left
    intro x _
    show V.ref (putAt k v x).2.1 = V.ref x.2.1
    unfold putAt
    split <;> rfl
theorem stored_new {xs : List Ent} {k : NestedKey} {a : Addr} {v : Value} (h : k ∉ xs.map (·.1)) : storedH xs k a v = xs ++ [(k, a, v)] := by
  unfold storedH
  rw [if_neg (fun q => h (atKey_iff.mp q))]
section
variable {X : Cx} {kx tg iter : Expr} {scope : Scope} {own : List (Str × Nat)} {pos : Pos} {mi : MI} {t : Tgt} {mk : ME}
theorem uq_data {P0 : Program} {w0 : World} {K : PySem.W.Frag} {z : Pz} {C H : Hp} {env : Env} {σ : L2.St} {J : It} {items : List D} {vs : List Nat} {P : List D → Prop} {Q : VK} (o : Ok z C H) (r : EnvR K z C env σ) (it : ItD K z J items C) (h2 : Mono mk) (ht : ∀ i ∈ t.sl, i ∈ vs)
    (hz : szOk (items.length + 1) = true) (q : uqGo t mk (wipeE env vs) items [] P)
    (k : ∀ ds xs N C' H', P ds → Tr z C H C' H' → H' N = some (dN P0 w0 N xs) → Dns K C' z.p ds (xs.map fun x => V.ref x.2.1) → Q (.ref N) H') :
    ∀ N, H N = none → ∃ W : Nat → Nat → Hp → Prop, (∃ m, W 0 m (upd H N (dN P0 w0 N []))) ∧ ∀ i m H, W i m H →
      (J.stop i H ∧ Q (.ref N) H) ∨ (J.go i H ∧ ∃ Nx : Hp → Prop, (∀ H', Nx H' → ∃ m', m' < m ∧ W (i + 1) m' H') ∧ ∀ x H', J.yld i H x H' → t.g K x (L2.wipe σ vs) H' fun σ2 H2 => L2.wipe σ2 vs = L2.wipe σ vs ∧ liftT K mYes σ2 H2 fun b H3 =>
        if b = true then lift K mk σ2 H3 fun y H4 => lift K (mC (.bl true)) σ2 H4 fun v H5 => ∃ (k : NestedKey) (a : Addr) (c : Bool) (xs : List Ent), y = .ref a ∧ v = .bl c ∧ H5 N = some (dN P0 w0 N xs) ∧ xs.length < sizeLine ∧ KeyAt K H5 k a ∧ (∀ x ∈ xs, KeyAt K H5 x.1 x.2.1) ∧ Nx (upd H5 N (dN P0 w0 N (storedH xs k a (.bool c)))) else Nx H3) := by
  intro N hN
  obtain ⟨G, Y, w, hG, hY⟩ := it.ex
  have hCN : C N = none := fresh_back o.ex hN
  have nNp : N ≠ z.p := fun e => o.pur.pn (by rw [← e]; exact hN)
  have nNg : N ≠ z.g := fun e => o.pur.gn (by rw [← e]; exact hN)
  let Pv : Nat → Hp → Prop := fun i Hc => ∃ C' acc xs, Tr z C H C' Hc ∧ C' N = none ∧ Hc N = some (dN P0 w0 N xs) ∧ xs.map (·.1) = acc.map nk ∧ Dns K C' z.p acc (xs.map fun x => V.ref x.2.1) ∧ (∀ d ∈ acc, okKeyN d = true) ∧ acc.length ≤ i ∧ uqGo t mk (wipeE env vs) (items.drop i) acc P
  refine ⟨fun i m Hc => m = items.length - i ∧ i ≤ items.length ∧ Pv i Hc, ⟨items.length, by simp, Nat.zero_le _, C, [], [], Tr.mut o (Tr.refl o) hN hCN, hCN, upd_same, rfl, dns_nil.mpr rfl, fun _ h => (nomatch h), Nat.le_refl _, q⟩, ?_⟩
  rintro i m Hc ⟨rfl, hi, C', acc, xs, t0, c1, c2, c3, c4, c5, c6, q'⟩
  have hg := hG Hc (t0.cc.trans t0.ok.ex)
  by_cases hlt : i < items.length
  · refine .inr ⟨w.goes i Hc hlt hg, Pv (i + 1), fun H' p' => ⟨items.length - (i + 1), by omega, rfl, hlt, p'⟩, fun x Hd y => ?_⟩
    obtain ⟨d, C2, g1, g2, g3⟩ := hY i Hc x Hd hlt (w.yields i Hc x Hd hlt hg y) C' t0.cc t0.ok
    have hd : items.drop i = d :: items.drop (i + 1) := by
      rw [List.drop_eq_getElem_cons hlt]
      congr 1
      rw [List.getElem?_eq_getElem hlt] at g1
      exact Option.some.inj g1
    rw [hd] at q'
    obtain ⟨env1, e1, q1⟩ := q'
    have t2 := t0.trans g2
    have hnn : Hc N ≠ none := by rw [c2]; exact fun q => nomatch q
    refine EnvR.put ((r.mono t2.cc).wipe vs) g2.ok.ex ht g3 e1 fun σ2 s2 w2 => ⟨w2, z, C2, env1, g2.ok, s2, fun C3 H3 t3 => ?_⟩
    dsimp only
    rw [if_pos rfl]
    refine ⟨z, C3, env1, t3.ok, s2.mono t3.cc, h2 _ _ _ (fun d2 ⟨okd, q3⟩ v C4 H4 t4 dn4 => ?_) q1⟩
    refine ⟨z, C4, env1, t4.ok, s2.mono (t3.cc.trans t4.cc), fun v5 C5 H5 t5 dn5 => ?_⟩
    obtain rfl := dn_bl.mp dn5
    have t25 := g2.trans (t3.trans (t4.trans t5))
    have hN5 : H5 N = some (dN P0 w0 N xs) := t25.keep N _ c2 nNp nNg
    have hC5 : C5 N = none := (t25.new N hnn).trans c1
    obtain ⟨o1, o2, o3, ds2, rfl⟩ := okKeyN_of okd
    have dnk := dn4.mono t5.cc
    obtain ⟨a, xs2, rfl, _, _⟩ := dn_tup dnk
    have c4' := c4.mono t25.cc
    have hl := c4.len
    rw [List.length_map] at hl
    have keyA : ∀ (d : D) (a : Addr), okKeyN d = true → Dn K C5 z.p d (.ref a) → KeyAt K H5 (nk d) a := fun d a h1 h2 => ⟨d, h1, rfl, h2.dp t5.ok.ex d _ (okEq_of (okKeyN_of h1).2.1).1⟩
    have keys : ∀ x ∈ xs, KeyAt K H5 x.1 x.2.1 := fun x hx => by
      obtain ⟨j, hj⟩ := List.mem_iff_getElem?.mp hx
      have h1 : (xs.map fun x => V.ref x.2.1)[j]? = some (V.ref x.2.1) := by rw [List.getElem?_map, hj]; rfl
      obtain ⟨dj, h3, h4⟩ := c4'.get' h1
      have h5 : (xs.map (·.1))[j]? = some x.1 := by rw [List.getElem?_map, hj]; rfl
      rw [c3, List.getElem?_map, h3] at h5
      have h6 : nk dj = x.1 := Option.some.inj h5
      rw [← h6]
      exact keyA dj _ (c5 dj (List.mem_of_getElem? h3)) h4
    have room : xs.length < sizeLine := by
      rw [hl]
      refine sz_lt ?_
      simp only [szOk, decide_eq_true_eq] at hz ⊢
      omega
    refine ⟨nk (.tup ds2), a, true, xs, rfl, rfl, hN5, room, keyA _ a okd dnk, keys, C5, addU acc (.tup ds2), storedH xs (nk (.tup ds2)) a (.bool true), Tr.mut o (t0.trans t25) hN hC5, hC5, upd_same, ?_, ?_, ?_, ?_, q3⟩
    · by_cases hk : nk (.tup ds2) ∈ acc.map nk
      · rw [(stored_old (by rw [c3]; exact hk)).1, c3, addU, if_pos hk]
      · rw [stored_new (by rw [c3]; exact hk), addU, if_neg hk, List.map_append, List.map_append, c3]
        rfl
    · by_cases hk : nk (.tup ds2) ∈ acc.map nk
      · rw [(stored_old (by rw [c3]; exact hk)).2, addU, if_pos hk]
        exact c4'
      · rw [stored_new (by rw [c3]; exact hk), addU, if_neg hk, List.map_append]
        exact c4'.app (Dns.one dnk)
    · intro e he
      unfold addU at he
      split at he
      · exact c5 e he
      · rcases List.mem_append.mp he with he | he
        · exact c5 e he
        · rw [List.mem_singleton.mp he]; exact okd
    · unfold addU
      split
      · omega
      · rw [List.length_append, List.length_singleton]; omega
  · have e : i = items.length := by omega
    subst e
    rw [List.drop_of_length_le (Nat.le_refl _)] at q'
    exact .inl ⟨w.stops Hc hg, k acc xs N C' Hc q' t0 c2 c4⟩
theorem pdo_uniq {x : Str} {p : Pos} {j : Nat} {bpos cpos : Pos} (hu : X.A.units + 64 < cLine) (hc : X.calm = true) (hN : X.N.Nodup) (hm : X.mg x = none) (hv : bootBuiltins x = some (.type "list")) (hi : PDI X tg iter mi) (ok : BlkOk X.N X.env.scope scope own) (ht : ∀ i ∈ t.sl, i ∈ own.map (·.2))
    (hg : ∀ (s : Shared) (H : Hp) (C : Addr) (cl : List (Str × Addr)) (fp : List Addr), PG (X.blk s H scope (compEnvC scope cl C X.env) fp) tg (t.g X.K))
    (he : ∀ (s : Shared) (H : Hp) (C : Addr) (cl : List (Str × Addr)) (fp : List Addr), PD (X.blk s H scope (compEnvC scope cl C X.env) fp) kx mk) (hgl : Gl X x := by rfl) (hn : x ≠ "__name__" := by decide) (hdb : (x == ("__debug__" : Str)) = false := by decide) (hs : ∀ x, foldedSetIterable iter X.env x = pure x := by intro _; rfl)
    (hst : starEach [.DictComp kx (.Constant (.bool true) j bpos) [⟨tg, iter, [], 0⟩] scope cpos] X.env = (false, eval (.DictComp kx (.Constant (.bool true) j bpos) [⟨tg, iter, [], 0⟩] scope cpos) X.env) :: starEach [] X.env := by rfl) (hpl : (backTo pos (starEach [] X.env)).any (·.1) = false := by rfl) :
    PDO X (.Call (.Name x p) [.DictComp kx (.Constant (.bool true) j bpos) [⟨tg, iter, [], 0⟩] scope cpos] [] pos) (moUniq (own.map (·.2)) mi t mk) := by
  have h2 := (he X.s_0 X.H_0 0 [] []).mono
  refine ⟨pe_imp (pe_callTy (cr_listN hc) hgl hm hv (pa_cons (pe_dn (tt := liftT X.K mYes) (tk := lift X.K mk) (tv := lift X.K (mC (.bl true))) (by omega) hc hN hi.run ok hg (fun s H C cl fp => pdts_nil.run) (fun s H C cl fp => (he s H C cl fp).run) (fun s H C cl fp => pd_bl.run) hs) pa_nil hst) hn hdb hst hpl) fun σ H Q q => ?_,
    fun env Q Q' i q => hi.mono _ _ _ (fun items ⟨a, q⟩ => ⟨a, uqGo_mono h2 i _ _ q⟩) q⟩
  obtain ⟨z, C, env, o, r, q⟩ := q
  refine ⟨z, C, env, o, r, hi.mono _ _ _ (fun items ⟨hz, q⟩ J C' H' t0 it => ?_) q⟩
  exact uq_data (P0 := X.prog) (w0 := X.w) (Q := fun x H1 => tNil σ H1 fun xs H2 => rListN X.prog X.w (x :: xs) H2 Q) t0.ok (r.mono t0.cc) it h2 ht hz q fun ds xs N C2 H2 p t2 g1 g2 => ⟨N, xs, rfl, g1, fun p' hp => p p' _ C2 _ ((t0.trans t2).trans (Tr.ext t2.ok (Ex.new hp))) ((t0.trans t2).free hp) (fresh_back t2.ok.ex hp) upd_same g2⟩
end
end BV

/-! set(a list of words). -/
namespace BV
open PySem PySem.Spec PyProof.Rows

def addW (l : List Str) (x : Str) : List Str := if x ∈ l then l else x :: l
def wordsOf (xs : List Str) : List Str := xs.foldl addW []
section
variable {P : Program} {w : World} {A : Around} {E : Value → Shared → Prop} {s : Shared} {a : Addr} {l : List Str}
theorem addW_len (l : List Str) (x : Str) : (addW l x).length ≤ l.length + 1 := by
  unfold addW
  split
  · omega
  · exact Nat.le_refl _
theorem set_word {x : Str} {tk : Tok} {Q : Bool → Shared → Prop} (R : SetS P w s.heap a l) (room : l.length + 1 < scanBound)
    (hQ : ∀ b h', (∀ c o, c ≠ a → s.heap.get? c = some o → h'.get? c = some o) → SetS P w h' a (addW l x) → Q b { s with heap := h', toks := s.toks + 1 }) : wpAny (model P w) A (setAdd a (.str x tk)) Q E s := by
  obtain ⟨⟨es, ep, t⟩, ho, F, nd, hb, r, hl⟩ := R
  have isX := Froz.is_str (P := P) (w := w) x tk
  unfold setAdd
  refine wpAny_holding (wpAny_bind ((strKind P w).pyHash isX ?_))
  by_cases hx : x ∈ l
  · obtain ⟨e, he, his⟩ := (F.mem x).mp hx
    unfold setAddHashed setAddHashedIn
    refine wpAny_holding (wpAny_bind (wpAny_setState_of (s := { s with toks := s.toks + 1 }) ho rfl F.fit ?_))
    dsimp only
    rw [byScan_of rfl (by have hs : es.size = l.length := F.sz; rw [hs]; exact hb) F.el]
    simp only [↓reduceIte]
    unfold setAddByScan
    refine wpAny_bind (wpAny_bind (wpAny_rule (wpAny_bind (wpAny_setScan_of (knd := strKind P w) (k := x) isX ho rfl F.fit F.el ?_))))
    cases hf : List.findIdx? (fun e => (strKind P w).is x e.2) es.toList with
    | none => exact absurd his (by have := List.findIdx?_eq_none_iff.mp hf e he; simpa using this)
    | some j =>
      dsimp only
      refine wpAny_pure (wpAny_pure ?_)
      exact hQ _ s.heap (fun _ _ _ z => z) (by unfold addW; rw [if_pos hx]; exact ⟨(es, ep, t), ho, F, nd, hb, r, hl⟩)
  · show wpAny _ _ (setAddHashed a (.str x tk) (hashStr w x)) _ _ _
    refine Froz.add_x (s := { s with toks := s.toks + 1 }) ho F hx room ?_
    obtain ⟨r2, l2⟩ := add_walks (h := hashStr w x) (v := .str x tk) r hl
    exact hQ _ (s.heap.update a fun _ => Froz.sObj "set" (Froz.addTx (hashStr w x) (.str x tk) (es, ep, t))) (fun b o hb z => by exact PySem.Heap.get?_update_of_ne _ (Ne.symm hb) z) (by
      unfold addW
      rw [if_neg hx]
      exact ⟨_, Froz.get_upd _ ho rfl, Froz.add_ok tk F, List.nodup_cons.mpr ⟨hx, nd⟩, room, r2, l2⟩)
theorem words_loop {I : Addr} {fp wr : List Addr} {G : Array GenState → Array GenState → Prop} {n : Nat} {Pv : Nat → Value → Prop} {St : Nat → Shared → Prop} {R : Result → Shared → Prop}
    (W : WalksS P w A.in1 I fp wr G n Pv St) (S : Addr) (hSf : S ∉ fp) (xs : List Str) (hn : n = xs.length) (hb : xs.length + 1 < scanBound) (hval : ∀ i v, Pv i v → ∃ x t, xs[i]? = some x ∧ v = .str x t) :
    ∀ (k i : Nat) (s : Shared) (l : List Str), n - i = k → i ≤ n → St i s → SetS P w s.heap S l → l.length ≤ i → (xs.drop i).foldl addW l = wordsOf xs →
      (∀ s', Moved (S :: wr) G s s' → SetS P w s'.heap S (wordsOf xs) → R (.ok (.ret .none)) s') →
      codeAny (model P w) A (.builtin "set.update.loop" ⟨[.ref S, .ref I], []⟩) R s := by
  have hSw : S ∉ wr := fun h => hSf (W.sub _ h)
  have more : ∀ b ∈ wr, b ∈ S :: wr := fun b hb => List.mem_cons_of_mem _ hb
  intro k
  induction k with
  | zero =>
    intro i s l hk hi st hS hl hf hR
    have hin : i = n := by omega
    subst hin
    refine codeAny_builtin F.entry_set_update_loop ?_
    rw [Around.under_plainId F.plain_set_update_loop _]
    show wpAny _ A.in1 (pyNext (.ref I) >>= _) _ _ s
    refine wpAny_bind (W.done s _ _ st fun s' hm => ?_)
    show wpAny _ A.in1 (ret Value.none) _ _ s'
    rw [List.drop_of_length_le (by omega)] at hf
    have hf : l = wordsOf xs := hf
    rw [hf] at hS
    exact wpAny_pure (hR s' (hm.mono more) (hS.at fun o e => hm.heap S o hSw e))
  | succ k ih =>
    intro i s l hk hi st hS hl hf hR
    have hlt : i < n := by omega
    refine codeAny_builtin F.entry_set_update_loop ?_
    rw [Around.under_plainId F.plain_set_update_loop _]
    show wpAny _ A.in1 (pyNext (.ref I) >>= _) _ _ s
    refine wpAny_bind (W.item i s _ _ hlt st fun v s' hP st' hm => ?_)
    obtain ⟨x, t, hx, rfl⟩ := hval i v hP
    have hS' : SetS P w s'.heap S l := hS.at fun o e => hm.heap S o hSw e
    have hd : xs.drop i = x :: xs.drop (i + 1) := by
      rw [List.drop_eq_getElem_cons (by omega)]
      congr 1
      rw [List.getElem?_eq_getElem (by omega)] at hx
      exact Option.some.inj hx
    rw [hd] at hf
    show wpAny _ A.in1 (holding [Value.str x t] (setAdd S (.str x t)) >>= _) _ _ s'
    refine wpAny_bind (wpAny_holding (set_word hS' (by omega) fun b h' kp new => ?_))
    refine wpAny_pure ⟨plainId_quiet F.plain_set_update_loop _, ih (i + 1) _ (addW l x) (by omega) hlt (W.frame _ s' _ _ st' (Nat.le_succ _) fun c hc o e => kp c o (fun q : c = S => hSf (by rw [← q]; exact hc)) e) new (by have := addW_len l x; omega) hf fun s'' hm'' new'' => ?_⟩
    exact hR s'' (Moved.trans W.gtrans ((hm.mono more).then_heap (Nat.le_succ _) fun c o hc e => kp c o (fun q : c = S => hc (by rw [q]; exact List.mem_cons_self)) e) hm'') new''
/-- set(a list of words) -/
theorem call_set_words {L : Addr} {items : Array Value} (xs : List Str) {Q : Value → Shared → Prop} (hh : A.handled = none) (hl : s.heap.IsList L items) (hit : StrsAre items.toList xs) (hb : xs.length + 1 < scanBound)
    (h : ∀ (h' : Heap) (tk : Nat), SetS P w h' s.heap.objs.size (wordsOf xs) → (∀ b o, s.heap.get? b = some o → h'.get? b = some o) → Q (.ref s.heap.objs.size) { s with heap := h', toks := tk }) :
    wpAny (model P w) A (call (.type "set") [.ref L]) Q E s := by
  have hisz : items.size = xs.length := by
    have q := StrsAre.length hit
    rw [Array.length_toList] at q
    exact q
  obtain ⟨c, tl, hmro⟩ := F.called_set.mro
  have hmade := F.called_set.made
  have hsub := F.called_set.sub
  refine wpAny_call (codeAny_of_tree ?_)
  show wpAny _ _ (callAny (.type "set") _) _ _ _
  refine wpAny_pure ⟨Code.quiet_builtin _ (by decide +kernel), codeAny_builtin F.entry_type_call ?_⟩
  rw [Around.under_plain (weight_type_call_type "set" [.ref L] []) rfl]
  have h1 := F.called_set.notType
  have h2 := F.called_set.canCreate
  have hct := F.typeCall_set_1 (.ref L)
  repeat (any_goals (first | assumption | wp_step))
  generalize hnew : ({ cls := .type "set", dict := none, data := .set #[] 0 (.fresh 0 0 (!w.params.followText "set-order")) } : Obj) = new
  refine codeAny_mono (L2.code_set_led1 (.ref L) (E := E) (Q₁ := fun obj s₁ => obj = .ref s.heap.objs.size ∧ s₁ = { s with heap := s.heap.push new }) ⟨rfl, by rw [hnew]⟩) fun r s₁ hr => ?_
  cases r with
  | error e => exact hr
  | ok fl =>
    cases fl with
    | ret obj =>
      obtain ⟨rfl, rfl⟩ := hr
      have hS : (s.heap.push new).get? s.heap.objs.size = some new := Heap.get?_push_size _ (by rw [← hnew]; rfl)
      have hT : Shared.TypeIs { s with heap := s.heap.push new } (.ref s.heap.objs.size) "set" := ⟨_, hS, by rw [← hnew]⟩
      have hli := F.called_set.init.lookup
      have hbi := F.called_set.init.bind (.ref s.heap.objs.size)
      repeat (any_goals (first | assumption | wp_step))
      refine codeAny_mono (codeAny_call_builtin (R := wants (fun r s₂ => r = .none ∧ ∃ h' tk, s₂ = { s with heap := h', toks := tk } ∧ SetS P w h' s.heap.objs.size (wordsOf xs) ∧ (∀ b o, s.heap.get? b = some o → h'.get? b = some o)) E) F.called_set.init.plain F.entry_set_init (check_set_init_1 hT ?_)) fun r₂ s₂ hr₂ => ?_
      · obtain ⟨ol, hol, hcl, nl, hdl⟩ := hl
        obtain ⟨ocls, odict, odata, oslots⟩ := ol
        simp only at hcl hdl
        subst hcl; subst hdl
        have hol' : (s.heap.push new).get? L = some { cls := .type "list", dict := odict, data := .seq items nl, slots := oslots } := Heap.get?_push_of_some _ hol
        have hsls := F.sub_list_set
        have hslf := F.sub_list_frozenset
        have hne : (Value.type "list" == Value.type "dict") = false := by decide
        have hl1 : (s.heap.push new).IsList L items := ⟨_, hol', rfl, nl, rfl⟩
        have hsz : s.heap.objs.size < (s.heap.push new).objs.size := by rw [Heap.size_push]; exact Nat.lt_succ_self _
        subst hnew
        unfold Builtin.«set.__init__» noKeywords Builtin.Frozenset.updateFrom
        generalize hPI : pyIter = PI
        wp_walk
        subst hPI
        refine wpAny_pyIter_list hl1 ?_
        refine wpAny_bind (wpAny_runValue ?_)
        have hlS : L < s.heap.objs.size := Heap.lt_size hol
        have hh3 : A.in1.in1.in1.handled = none := by simp [hh]
        have hneI : L ≠ (s.heap.push { cls := .type "set", dict := none, data := .set #[] 0 (.fresh 0 0 (!w.params.followText "set-order")) }).objs.size := by
          rw [Heap.size_push]; exact Nat.ne_of_lt (Nat.lt_succ_of_lt hlS)
        have hSf : s.heap.objs.size ∉ [(s.heap.push { cls := .type "set", dict := none, data := .set #[] 0 (.fresh 0 0 (!w.params.followText "set-order")) }).objs.size, L] := by
          rw [Heap.size_push]; simp only [List.mem_cons, List.mem_singleton, List.not_mem_nil, or_false, not_or]
          exact ⟨Nat.ne_of_lt (Nat.lt_succ_self _), Nat.ne_of_gt hlS⟩
        have hval : ∀ (i : Nat) (v : Value), items[i]? = some v → ∃ x t, xs[i]? = some x ∧ v = .str x t := fun i v hv => by
          have key : ∀ (l : List Value) (ys : List Str), StrsAre l ys → ∀ (i : Nat) (v : Value), l[i]? = some v → ∃ x t, ys[i]? = some x ∧ v = .str x t := by
            intro l ys q
            induction q with
            | nil => intro i v e; simp at e
            | cons x t q ih =>
              intro i v e
              cases i with
              | zero => exact ⟨x, t, rfl, by simpa using e.symm⟩
              | succ i => exact ih i v (by simpa using e)
          exact key _ _ hit i v (by rw [Array.getElem?_toList]; exact hv)
        refine words_loop ((Walks.list hh3 _ L hneI items).toS) s.heap.objs.size hSf xs hisz hb hval (items.size - 0) 0 _ [] (by omega) (Nat.zero_le _) ⟨⟨_, Heap.get?_push_size _ rfl, rfl, rfl⟩, (hl1.push _)⟩ ?_ (Nat.le_refl _) rfl ?_
        · exact empty_set (Heap.get?_push_of_some _ hS)
        · intro s' hm hS'
          obtain ⟨h', g2, d', tk', os'⟩ := s'
          have eg : g2 = s.gens := hm.gens
          have ed : d' = s.drawn := hm.drawn
          have eo : os' = s.os := hm.os
          subst eg; subst ed; subst eo
          show wpAny _ _ _ _ _ _
          refine wpAny_pure ?_
          show wpAny _ _ (ret Value.none) _ _ _
          refine wpAny_pure ⟨rfl, h', tk', rfl, hS', fun b o e => ?_⟩
          have hb0 : b < s.heap.objs.size := Heap.lt_size e
          have hb1 : b ≠ s.heap.objs.size := Nat.ne_of_lt hb0
          have hb2 : b ≠ (s.heap.push { cls := .type "set", dict := none, data := .set #[] 0 (.fresh 0 0 (!w.params.followText "set-order")) }).objs.size := by rw [Heap.size_push]; exact Nat.ne_of_lt (Nat.lt_succ_of_lt hb0)
          exact hm.heap b o (by simp only [List.mem_cons, List.mem_singleton, List.not_mem_nil, or_false, not_or]; exact ⟨hb1, hb2⟩) (Heap.get?_push_of_some _ (Heap.get?_push_of_some _ e))
      · cases r₂ with
        | error e => exact hr₂
        | ok fl₂ =>
          cases fl₂ with
          | ret r =>
            obtain ⟨rfl, h', tk, rfl, hS', hk'⟩ := hr₂
            repeat (any_goals (first | assumption | wp_step))
            exact h _ _ hS' hk'
          | _ => exact hr₂.elim
    | _ => exact hr.elim
end
end BV

/-! sorted(set(a list of words)), by value. -/
namespace BV
open PySem PySem.Spec PyProof.Rows L2 Evl

theorem addW_mem {l : List Str} {x y : Str} : y ∈ addW l x ↔ y ∈ l ∨ y = x := by
  unfold addW
  split
  · rename_i h
    exact ⟨.inl, fun q => q.elim id fun e => by rw [e]; exact h⟩
  · rw [List.mem_cons]
    exact Or.comm
theorem addW_nodup {l : List Str} {x : Str} (h : l.Nodup) : (addW l x).Nodup := by
  unfold addW
  split
  · exact h
  · exact List.nodup_cons.mpr ⟨by assumption, h⟩
theorem words_fold {P : List Str → Prop} (step : ∀ l x, P l → P (addW l x)) : ∀ (xs l : List Str), P l → P (xs.foldl addW l)
  | [], l, h => h
  | x :: xs, l, h => words_fold step xs _ (step l x h)
theorem words_mem : ∀ {xs l : List Str} {y : Str}, y ∈ xs.foldl addW l ↔ y ∈ l ∨ y ∈ xs
  | [], l, y => by simp
  | x :: xs, l, y => by
    rw [List.foldl_cons, words_mem, addW_mem, List.mem_cons, or_assoc]
theorem words_len : ∀ {xs l : List Str}, (xs.foldl addW l).length ≤ l.length + xs.length
  | [], l => by simp
  | x :: xs, l => by
    rw [List.foldl_cons]
    have h1 := words_len (xs := xs) (l := addW l x)
    have h2 := addW_len l x
    simp only [List.length_cons]
    omega
section
variable {X : Cx}
def rSetW (P : Program) (w : World) (K : PySem.W.Frag) : List V → Hp → VK → Prop := fun vs H Q => ∃ (a : Addr) (xs : List Str), vs = [V.ref a] ∧ SqL K H a (xs.map V.str) ∧ xs.length + 1 < scanBound ∧ ∀ p, H p = none → Q (.ref p) (upd H p (SetSO P w p (wordsOf xs)))
theorem cr_setW (hc : X.calm = true) : CallR X (.type "set") (rSetW X.prog X.w X.K) := by
  intro pins s σ H vs us Q I r h
  obtain ⟨a, xs, rfl, ha, hb, q⟩ := h
  rw [Vals.ref1 r]
  obtain ⟨its, rv, hl, _⟩ := I.list ha
  refine call_set_words xs (I.ok.hd hc) hl.isList rv.strs hb fun h' tk new k => ?_
  have fresh : H s.heap.objs.size = none := I.hok.fresh (Nat.le_refl _)
  exact ⟨.ref s.heap.objs.size, _, I.laid (t' := tk) k (Nat.le_refl _) (setSO_new new), rfl, q _ fresh⟩
/-- sorted(set(e)), e a list of words -/
def moSortedSet (me : ME) : MA := fun env Q => me env fun d => ∃ xs : List Str, d = .lst (xs.map D.str) ∧ xs.length < 60 ∧ ∀ ys : List Str, ys.Nodup → (∀ y, y ∈ ys ↔ y ∈ xs) → sortedS ys = true → Q (ys.map D.str)
theorem pdo_sortedSet {x y : Str} {e : Expr} {p p2 pos pos2 : Pos} {me : ME} (hc : X.calm = true) (hm : X.mg x = none) (hv : bootBuiltins x = some (.builtin "sorted")) (hm2 : X.mg y = none) (hv2 : bootBuiltins y = some (.type "set")) (h : PD X e me)
    (hg : Gl X x := by rfl) (hg2 : Gl X y := by rfl) (hn : x ≠ "__name__" := by decide) (hdb : (x == ("__debug__" : Str)) = false := by decide) (hn2 : y ≠ "__name__" := by decide) (hdb2 : (y == ("__debug__" : Str)) = false := by decide)
    (he : starEach [e] X.env = (false, eval e X.env) :: starEach [] X.env := by rfl) (hpl : (backTo pos2 (starEach [] X.env)).any (·.1) = false := by rfl)
    (he2 : starEach [.Call (.Name y p2) [e] [] pos2] X.env = (false, eval (.Call (.Name y p2) [e] [] pos2) X.env) :: starEach [] X.env := by rfl) (hpl2 : (backTo pos (starEach [] X.env)).any (·.1) = false := by rfl) :
    PDO X (.Call (.Name x p) [.Call (.Name y p2) [e] [] pos2] [] pos) (moSortedSet me) := by
  refine ⟨pe_imp (pe_callB (cr_sortedSS hc) hg hm hv (pa_cons (pe_callTy (cr_setW hc) hg2 hm2 hv2 (pa_cons h.run pa_nil he) hn2 hdb2 he hpl) pa_nil he2) hn hdb he2 hpl2) fun σ H Q q => ?_,
    fun env Q Q' i q => h.mono env _ _ (fun d ⟨xs, a, b, k⟩ => ⟨xs, a, b, fun ys n m s => i _ (k ys n m s)⟩) q⟩
  obtain ⟨z, C, env, o, r, q⟩ := q
  refine lift_use h.mono o r q fun d v C' H' ⟨xs, e1, e2, k⟩ t dn => ?_
  subst e1
  obtain ⟨a, vs, rfl, ha, dns⟩ := dn_lst.mp dn
  obtain rfl := dns_strs dns
  refine ⟨a, xs, rfl, sq_of (t.ok.ex _ _ ha), ?_, fun p' hp => ?_⟩
  · have : (1000 : Nat) < scanBound := by decide
    omega
  · have hl : (wordsOf xs).length ≤ xs.length := by have := words_len (xs := xs) (l := []); simpa [wordsOf] using this
    refine ⟨p', wordsOf xs, rfl, upd_same, by omega, fun ys q2 pm so hq2 => ?_⟩
    have nd : (wordsOf xs).Nodup := words_fold (P := List.Nodup) (fun l x h => addW_nodup h) xs [] List.nodup_nil
    have hne : q2 ≠ p' := fun e => by rw [e, upd_same] at hq2; cases hq2
    rw [upd_ne hne] at hq2
    have hcp : C' p' = none := fresh_back t.ok.ex hp
    have tA : Tr z C' H' C' (upd H' p' (SetSO X.prog X.w p' (wordsOf xs))) := Tr.ext t.ok (Ex.new hp)
    refine k ys (pm.nodup_iff.mpr nd) (fun y => ?_) so q2 _ C' _ (t.trans (tA.trans (Tr.ext tA.ok (Ex.new (by rw [upd_ne hne]; exact hq2))))) (t.free hq2) (fresh_back t.ok.ex hq2) upd_same (dns_words ys)
    rw [pm.mem_iff]
    show y ∈ List.foldl addW [] xs ↔ y ∈ xs
    rw [words_mem]
    simp
end
end BV

/-! x, y = e1, [..]: x shared, y a list of one's own. -/
namespace BV
open PySem PySem.Spec PyProof.Rows L2 Evl
section
variable {X : Cx} {pos : Pos}
def mPar2VO (rs : List Nat) (i j : Nat) (m1 : ME) (m2 : MA) : MS := fun E env => m1 (view rs 0 env) fun d => m2 (view rs 0 env) fun es => D.lfs ([d] ++ es) = true ∧ E.nx ((env.set i (some (false, d))).set j (some (true, .lst es)))
theorem pds_par2VO (rs : List Nat) {i j : Nat} {st : Stmt} {m1 : ME} {m2 : MA} {e1 e2 : Expr} (h1 : PD X e1 m1) (h2 : PDO X e2 m2) (hp : PS X st (tPar i j (tCons (lift X.K m1) (tCons (liftO X.K m2) tNil)))) : PDS X st (mPar2VO rs i j m1 m2) := by
  refine ⟨fun z C0 H0 Cb => ps_imp hp fun N σ H ⟨C, env, s, q⟩ => ?_, fun E E' env l q => h1.mono _ _ _ (fun d q => h2.mono _ _ _ (fun es ⟨a, q⟩ => ⟨a, l.nx _ q⟩) q) q⟩
  refine ⟨z, _, _, s.okP rs, s.envP rs, h1.mono _ _ _ (fun d q v C1 H1 t1 dn => ⟨z, C1, _, t1.ok, (s.envP rs).mono t1.cc, h2.mono _ _ _ (fun es ⟨hlf, p⟩ b ys C2 H2 t2 k1 k2 k3 dn2 => ?_) q⟩) q⟩
  have hb : H b = none := t1.free k1
  obtain ⟨C3, s3, dns, hc⟩ := s.after rs (t1.trans t2) ((Dns.one (dn.mono t2.cc)).app dn2)
  rw [aftL_lf' hlf] at s3
  obtain ⟨d1, d2⟩ := Dns.split (xs := [v]) rfl dns
  obtain ⟨v', f1, f2⟩ := dns1 d1
  cases f1
  refine ⟨v, .ref b, rfl, p _ C3 H2 ((s3.set i f2).setOwn j (hc b k2) k3 d2 (s.tr.free hb) fun l e h1 h2 => ?_)⟩
  by_cases hl : l = i
  · subst hl
    have hlen := (List.getElem?_eq_some_iff.mp h1).1
    rw [List.length_set] at hlen
    rw [List.getElem?_set_self hlen] at h1
    cases h1
  · rw [List.getElem?_set_ne (Ne.symm hl)] at h1 h2
    exact s.fresh hb l e h1 h2
theorem pds_p2VO (rs : List Nat) (i j : Nat) {x y : Str} {a b : Expr} {m1 : ME} {m2 : MA} {px py pt pt2 : Pos} {kt k2 : Nat} (hc : X.calm = true) (hN : X.N.Nodup) (h1 : PD X a m1) (h2 : PDO X b m2) (hi : X.N[i]? = some x := by rfl) (hj : X.N[j]? = some y := by rfl) (hij : i ≠ j := by decide)
    (hx : X.env.scope.names.lookup x = some .local := by rfl) (hy : X.env.scope.names.lookup y = some .local := by rfl) (hw : swappedStores [.Tuple [.Name x px, .Name y py] kt pt] (.Tuple [a, b] k2 pt2) X.env = pure (some [x, y]) := by rfl)
    (hs : swapsWithSole [.Tuple [.Name x px, .Name y py] kt pt] (.Tuple [a, b] k2 pt2) pos.line X.env = pure false := by rfl) (sa : starEach [a, b] X.env = (false, eval a X.env) :: starEach [b] X.env := by rfl) (sb : starEach [b] X.env = (false, eval b X.env) :: starEach [] X.env := by rfl) :
    PDS X (.Assign [.Tuple [.Name x px, .Name y py] kt pt] (.Tuple [a, b] k2 pt2) pos) (mPar2VO rs i j m1 m2) :=
  pds_par2VO rs h1 h2 (ps_par hc hN hi hj hij hx hy (pa_cons h1.run (pa_cons h2.run pa_nil sb) sa) hw hs)
end
end BV

/-! A comprehension inside a comprehension: its block. x not in a tuple. -/
namespace BV
open PySem PySem.Spec PyProof.Rows L2 Evl
def relD (scope sc : Scope) : Scope :=
  { scope with names := scope.names.map fun (n, k) => if (k == .free && sc.kind == .function && sc.names.lookup n == some .cell) then (n, .cell) else (n, k) }
theorem blkOk_in {N : List Str} {scope0 sc scope : Scope} {own : List (Str × Nat)} {cl : List (Str × Addr)} {C : Addr} {env : PySem.Env} (he : env.scope = sc) (h : blkC N (relD scope0 sc) scope own = true) : BlkOk N (compEnvC scope0 cl C env).scope scope own := by
  subst he
  exact blkOk_by h
section
variable {X : Cx}
def rInT (K : PySem.W.Frag) : R2 := fun x y H Q => ∃ d ds, Dp K H x d ∧ Dp K H y (.tuple ds) ∧ SeqAt.shaped d = true ∧ SeqAt.shaped (.tuple ds) = true ∧ Q (.bl (ds.any fun z => PyData.eqv z d)) H
def rNotInT (K : PySem.W.Frag) : R2 := fun x y H Q => ∃ d ds, Dp K H x d ∧ Dp K H y (.tuple ds) ∧ SeqAt.shaped d = true ∧ SeqAt.shaped (.tuple ds) = true ∧ Q (.bl (!ds.any fun z => PyData.eqv z d)) H
theorem op_inT (hu : X.A.units + 65 < cLine) : OpR X (compareOp .In) (rInT X.K) := by
  intro pins s σ H x y v u Q I rx ry h
  obtain ⟨d, ds, hd, he, sd, se, q⟩ := h
  obtain ⟨as, r1⟩ := Dp.reads I d x v hd rx
  obtain ⟨bs, r2⟩ := Dp.reads I (.tuple ds) y u he ry
  exact SeqAt.in_tuple_reads r2 r1 (SeqAt.canLay_of_shaped se) (SeqAt.canLay_of_shaped sd) (room_in_shaped sd hu) ⟨.bl _, H, I, rfl, q⟩
theorem op_notInT (hu : X.A.units + 65 < cLine) : OpR X (compareOp .NotIn) (rNotInT X.K) := by
  intro pins s σ H x y v u Q I rx ry h
  obtain ⟨d, ds, hd, he, sd, se, q⟩ := h
  obtain ⟨as, r1⟩ := Dp.reads I d x v hd rx
  obtain ⟨bs, r2⟩ := Dp.reads I (.tuple ds) y u he ry
  exact SeqAt.notIn_tuple_reads r2 r1 (SeqAt.canLay_of_shaped se) (SeqAt.canLay_of_shaped sd) (room_in_shaped sd hu) ⟨.bl _, H, I, rfl, q⟩
def inT (neg : Bool) : D → D → Option D
  | d, .tup es => if okEq d = true ∧ okEq (.tup es) = true then some (.bl (if neg then !((D.pys es).any fun z => PyData.eqv z d.py) else (D.pys es).any fun z => PyData.eqv z d.py)) else none
  | _, _ => none
theorem opd_inT (hu : X.A.units + 65 < cLine) : OpD X (compareOp .In) (inT false) := by
  refine OpD.of _ (op_inT hu) fun z C H d e u x y Q o dx dy g k => ?_
  cases e with
  | tup es =>
    obtain ⟨⟨h1, h2⟩, rfl⟩ := ite_of g
    exact ⟨d.py, D.pys es, dx.dp o.ex d x (okEq_of h1).1, dy.dp o.ex (.tup es) y (okEq_of h2).1, (okEq_of h1).2, (okEq_of h2).2, k _ C H (Tr.refl o) (dn_bl.mpr rfl)⟩
  | _ => cases g
theorem opd_notinT (hu : X.A.units + 65 < cLine) : OpD X (compareOp .NotIn) (inT true) := by
  refine OpD.of _ (op_notInT hu) fun z C H d e u x y Q o dx dy g k => ?_
  cases e with
  | tup es =>
    obtain ⟨⟨h1, h2⟩, rfl⟩ := ite_of g
    exact ⟨d.py, D.pys es, dx.dp o.ex d x (okEq_of h1).1, dy.dp o.ex (.tup es) y (okEq_of h2).1, (okEq_of h1).2, (okEq_of h2).2, k _ C H (Tr.refl o) (dn_bl.mpr rfl)⟩
  | _ => cases g
end
end BV

/-! x is None; for a, b in zip of two tuples; xs[i] = v and xs.pop(i) of one's own list; x = d.setdefault(k, v) if c else e. -/
namespace BV
open PySem PySem.Spec PyProof.Rows L2 Evl

def isNo : D → Bool
  | .non => true
  | _ => false
theorem non_dn {K : PySem.W.Frag} {C : Hp} {pu : Addr} {d : D} {v : V} (dn : Dn K C pu d v) : decide (v = .non) = isNo d := by
  cases d with
  | non => rw [dn_non.mp dn]; rfl
  | bl b => rw [dn_bl.mp dn]; rfl
  | int i => rw [dn_int.mp dn]; rfl
  | str s => rw [dn_str.mp dn]; rfl
  | tup ds => obtain ⟨a, xs, rfl, _⟩ := dn_tupP.mp dn; rfl
  | pr ds => obtain ⟨a, xs, rfl, _⟩ := dn_pr.mp dn; rfl
  | dic ks vs => obtain ⟨a, xs, rfl, _⟩ := dn_dic.mp dn; rfl
  | lst ds => obtain ⟨a, xs, rfl, _⟩ := dn_lst.mp dn; rfl
  | pur => rw [dn_pur.mp dn]; rfl
def isD (neg : Bool) : D → D → Option D
  | d, .non => some (.bl (if neg then !isNo d else isNo d))
  | _, _ => none
section
variable {X : Cx}
theorem opd_is : OpD X (compareOp .Is) (isD false) := by
  refine OpD.of _ op_isN fun z C H d e u x y Q o dx dy g k => ?_
  cases e with
  | non =>
    cases g
    exact ⟨dn_non.mp dy, k _ C H (Tr.refl o) (dn_bl.mpr (by rw [non_dn dx]; rfl))⟩
  | _ => cases g
theorem opd_isnot : OpD X (compareOp .IsNot) (isD true) := by
  refine OpD.of _ op_notN fun z C H d e u x y Q o dx dy g k => ?_
  cases e with
  | non =>
    cases g
    exact ⟨dn_non.mp dy, k _ C H (Tr.refl o) (dn_bl.mpr (by rw [non_dn dx]; rfl))⟩
  | _ => cases g
/-! ### zip of tuples -/
def mZipA (m : MA) : MI := fun env P => m env fun ds => ∃ as bs, (ds = [.lst as, .lst bs] ∨ ds = [.tup as, .tup bs]) ∧ P (zipL as bs)
theorem walk_zipT {K : PySem.W.Frag} {a b : Addr} {xs ys : List V} {n : Nat} (hn : n = min xs.length ys.length) : Walk (RZ.ItzT K a b) n (fun H => SqT K H a xs ∧ SqT K H b ys) (YPair (fun i => xs[i]?) (fun i => ys[i]?)) := by
  subst hn
  refine ⟨fun i _ hi q => ?_, fun _ q => ⟨xs, ys, q.1, q.2, by omega⟩, fun i H v H' _ q y => ?_⟩
  · have h1 : i < xs.length := by omega
    have h2 : i < ys.length := by omega
    exact ⟨xs, ys, xs[i], ys[i], q.1, q.2, by simp [h1], by simp [h2]⟩
  · obtain ⟨T, x, z, h1, h2, h3, h4, h5⟩ := y
    exact ⟨T, x, z, h1, h2, h3, h4 xs q.1, h5 ys q.2⟩
theorem itd_zipT {K : PySem.W.Frag} {z : Pz} {C : Hp} {a b : Addr} {xs ys : List V} {ds es : List D} (h : SqT K C a xs) (h' : SqT K C b ys) (dn : Dns K C z.p ds xs) (dn' : Dns K C z.p es ys) : ItD K z (RZ.ItzT K a b) (zipL ds es) C :=
  ⟨_, _, walk_zipT (by rw [zipL_len, dn.len, dn'.len]), fun H' e => ⟨ex_t e h, ex_t e h'⟩, fun i Ha v Hb hi y C1 e o => by
    obtain ⟨T, x, y, rfl, hT, rfl, h1, h2⟩ := y
    obtain ⟨d, h3, h4⟩ := dn.get' h1
    obtain ⟨d', h3', h4'⟩ := dn'.get' h2
    obtain ⟨t, q⟩ := tup_new o hT (h4.mono e) (h4'.mono e)
    exact ⟨_, _, zipL_get _ _ _ _ _ h3 h3', t, q⟩⟩
theorem pdi_zipA {e e2 : Expr} {m : MA} {p pos tpos : Pos} {elts : List Expr} {kk : Nat} (hg : Gl X "zip") (hm : X.mg "zip" = none) (h : PDA X [e, e2] m)
    (hs : starEach [e, e2] X.env = (false, eval e X.env) :: starEach [e2] X.env := by rfl) (hpl : (backTo pos (starEach [e2] X.env)).any (·.1) = false := by rfl) : PDI X (.Tuple elts kk tpos) (.Call (.Name "zip" p) [e, e2] [] pos) (mZipA m) := by
  refine ⟨pi_imp (RZ.pi_zipA hg hm h.run hs hpl) fun σ H R q => ?_, fun env Q Q' i q => h.mono env _ _ (fun d ⟨a, b, c, q⟩ => ⟨a, b, c, i _ q⟩) q⟩
  obtain ⟨z, C, env, o, r, q⟩ := q
  refine liftA_use h.mono o r q fun ds vs C' H' ⟨as, bs, e, p⟩ t dn => ?_
  rcases e with e | e
  · subst e
    obtain ⟨v, w, e1, e2, e3⟩ := dns2 dn
    obtain ⟨a, xs, f1, f2, f3⟩ := dn_lst.mp e2
    obtain ⟨b, ys, g1, g2, g3⟩ := dn_lst.mp e3
    rw [f1, g1] at e1
    exact ⟨a, b, xs, ys, e1, .inl ⟨ex_l t.ok.ex (sq_of f2), ex_l t.ok.ex (sq_of g2), p _ C' H' t (itd_zip (sq_of f2) (sq_of g2) f3 g3)⟩⟩
  · subst e
    obtain ⟨v, w, e1, e2, e3⟩ := dns2 dn
    obtain ⟨a, xs, f1, f2, f3⟩ := dn_tup e2
    obtain ⟨b, ys, g1, g2, g3⟩ := dn_tup e3
    rw [f1, g1] at e1
    exact ⟨a, b, xs, ys, e1, .inr ⟨ex_t t.ok.ex f2, ex_t t.ok.ex g2, p _ C' H' t (itd_zipT f2 g2 f3 g3)⟩⟩
/-! ### one's own list changed at a place -/
theorem Dns.set {K : PySem.W.Frag} {C : Hp} {pu : Addr} {d : D} {v : V} (h : Dn K C pu d v) : ∀ {ds : List D} {xs : List V} (n : Nat), Dns K C pu ds xs → Dns K C pu (ds.set n d) (xs.set n v)
  | [], xs, n, g => by rw [dns_nil.mp g]; exact dns_nil.mpr rfl
  | e :: ds, xs, 0, g => by
    obtain ⟨w, r, e1, h1, h2⟩ := dns_cons.mp g
    rw [e1]
    exact dns_cons.mpr ⟨v, r, rfl, h, h2⟩
  | e :: ds, xs, n + 1, g => by
    obtain ⟨w, r, e1, h1, h2⟩ := dns_cons.mp g
    rw [e1]
    exact dns_cons.mpr ⟨w, r.set n v, rfl, h1, Dns.set h n h2⟩
/-- xs[i] = v -/
def mSetAt (rs : List Nat) (i : Nat) (mv mk : ME) : MS := fun E env => (∃ ds0, env[i]? = some (some (true, .lst ds0))) ∧ mv (view rs 0 env) fun d => mk (view rs 0 env) fun y => ∃ ds n, (aftL rs [d, y] env)[i]? = some (some (true, .lst ds)) ∧ y = .int n ∧ 0 ≤ n ∧ n.toNat < ds.length ∧
  E.nx ((aftL rs [d, y] env).set i (some (true, .lst (ds.set n.toNat d))))
theorem pds_setAt (rs : List Nat) {i : Nat} {o k v : Expr} {pos pos' : Pos} {mv mk : ME} (ho : PE X o (tVar i)) (hk : PD X k mk) (hv : PD X v mv) (hs : swapsWithSole [.Subscript o k pos'] v pos.line X.env = pure false := by rfl) (hw : swappedStores [.Subscript o k pos'] v X.env = pure none := by rfl)
    (h1 : (assignEach [.Subscript o k pos'] X.env).map (·.2) = [assign (.Subscript o k pos') X.env] := by rfl)
    (ha : ∀ v, assign (.Subscript o k pos') X.env v = (do
      let ov ← holding [v] (eval o X.env)
      let iv ← holding [v, ov] (eval k X.env)
      standAt pos'
      holding [v, ov, iv] (setItem ov iv v)
      release [v, ov, iv] []) := by intro _; rfl) :
    PDS X (.Assign [.Subscript o k pos'] v pos) (mSetAt rs i mv mk) := by
  refine ⟨fun z C0 H0 Cb => ps_imp (ps_asg hv.run (pg_sub ho hk.run set_list ha) hs hw h1) fun N σ H ⟨C, env, s, ⟨ds0, h0⟩, q⟩ => ?_, fun E E' env l ⟨q0, q⟩ => ⟨q0, hv.mono _ _ _ (fun d q => hk.mono _ _ _ (fun y ⟨ds, n, a, b, c, e, q⟩ => ⟨ds, n, a, b, c, e, l.nx _ q⟩) q) q⟩⟩
  obtain ⟨a, _, xs0, _, ea, _, eH, _, _⟩ := s.ownL i _ h0
  have key := s.use2 (Q := fun v y H3 => rSetL (.ref a) y v H3 fun H4 => N.nx σ H4) rs hv.mono hk.mono q fun d y v w C' H' ⟨ds, n, e1, e2, e3, e4, p⟩ s' d1 d2 => ?_
  · exact lift_imp hv.mono key fun v H1 h => ⟨.ref a, ea, h⟩
  · subst e2
    obtain ⟨b, ds', xs, f1, f2, f3, f4, f5, f6⟩ := s'.ownL i _ e1
    rw [ea] at f2
    cases f2
    cases f1
    have hl := f5.len
    refine ⟨a, xs, n, n.toNat, rfl, dn_int.mp d2, f4, ?_, p σ C' _ (s'.write e1 ea (Dns.set d1 n.toNat f5))⟩
    have := ixN_nat (n := xs.length) (j := n.toNat) (by omega)
    rwa [Int.toNat_of_nonneg e3] at this
/-- xs.pop(e), the item dropped -/
def mPopS (rs : List Nat) (j : Nat) (me : ME) : MS := fun E env => (∃ ds1, env[j]? = some (some (true, .lst ds1))) ∧ me (view rs 0 env) fun d => ∃ n es y, d = .int n ∧ (aft rs d env)[j]? = some (some (true, .lst es)) ∧
  0 ≤ n ∧ n ≤ 4000000 ∧ es[n.toNat]? = some y ∧ E.nx ((aft rs d env).set j (some (true, .lst (es.eraseIdx n.toNat))))
theorem pds_popS (rs : List Nat) {j : Nat} {y e : Expr} {bpos dpos pos : Pos} {me : ME} (hy : PE X y (tVar j)) (h : PD X e me)
    (g1 : attributeBase y "pop" X.env (eval y X.env) = eval y X.env := by rfl)
    (g2 : ((((backTo dpos (starEach [e] X.env)).all fun x => !x.1) && ((backToKw dpos (keywordEach [] X.env)).all fun x => x.1.isSome) && decide (([e] : List Expr).length + ([] : List Keyword).length + (if ([] : List Keyword).isEmpty = true then 0 else 1) < 30)) = true) := by rfl)
    (g3 : (bpos.endLine == dpos.line) = true := by rfl) (g4 : starEach [e] X.env = (false, eval e X.env) :: starEach [] X.env := by rfl) (g5 : ((backTo dpos (starEach [] X.env)).any fun x => x.1) = false := by rfl)
    (hs : swapsWith (.Call (.Attribute y "pop" bpos) [e] [] dpos) none pos.line X.env = pure false := by rfl) : PDS X (.Expr (.Call (.Attribute y "pop" bpos) [e] [] dpos) pos) (mPopS rs j me) := by
  refine ⟨fun z C0 H0 Cb => ps_imp (ps_expr (pe_bm PySem.F.plainAttrs_list PySem.F.slot_list_pop PySem.F.type_list_pop mt_popAt hy (pa_cons h.run pa_nil g4) g1 g2 g3 g4 g5) hs) fun N σ H ⟨C, env, s, q⟩ => ?_,
    fun E E' env l ⟨q1, q⟩ => ⟨q1, h.mono _ _ _ (fun d ⟨n, es, y, e1, e2, e4, e5, e6, q⟩ => ⟨n, es, y, e1, e2, e4, e5, e6, l.nx _ q⟩) q⟩⟩
  obtain ⟨⟨ds1, j0⟩, q⟩ := q
  obtain ⟨b, _, ys, _, eb, _, eB, _⟩ := s.ownL j _ j0
  refine ⟨.ref b, eb, .inl ⟨rfl, ys, sq_of eB⟩, ?_⟩
  refine s.use rs h.mono q fun d v C' H' ⟨n, es, w, e1, e2, e4, e5, e6, p⟩ s' dn => ?_
  subst e1
  obtain ⟨b', es', zs, f1, f2, f3, f4, f5, f6⟩ := s'.ownL j _ e2
  rw [eb] at f2
  cases f2
  cases f1
  obtain ⟨w', k1, k2⟩ := f5.get e6
  have hw := (List.getElem?_eq_some_iff.mp k1).1
  refine ⟨b, zs, n, n.toNat, w', rfl, by rw [dn_int.mp dn], f4, by omega, by omega, ?_, k1, ?_⟩
  · unfold seqIndex?
    rw [if_neg (show ¬ n < 0 by omega)]
    simp only [Bool.and_eq_true, decide_eq_true_eq]
    rw [if_pos ⟨e4, by omega⟩]
  · exact p σ C' _ (s'.write e2 eb (f5.erase n.toNat))
end
end BV

/-! x = d.setdefault(k, v) if c else e, d an own dict; x, y = [..], v. -/
namespace BV
open PySem PySem.Spec PyProof.Rows L2 Evl
section
variable {X : Cx} {pos : Pos}
def mSetdIf (rs : List Nat) (i j : Nat) (mt : MT) (mk mv me : ME) : MS := fun E env => (∃ kd0, env[j]? = some (some (true, dicOf kd0))) ∧ mt (view rs 0 env) fun b => if b = true then mk (view rs 0 env) fun y => mv (view rs 0 env) fun d => ∃ kd k, (aftL rs [y, d] env)[j]? = some (some (true, dicOf kd)) ∧ keyOf y = some k ∧ szOk (kd.length + 1) = true ∧
    (∀ w, valD kd k = some w → E.nx ((aftL rs [y, d] env).set i (some (false, w)))) ∧ (valD kd k = none → E.nx (((aftL rs [y, d] env).set j (some (true, dicOf (putD kd k d)))).set i (some (false, d))))
  else me (view rs 0 env) fun d => E.nx ((aft rs d env).set i (some (false, d)))
theorem pds_setdIf (rs : List Nat) (i j : Nat) {x : Str} {py apos cpos ipos : Pos} {c o k v e : Expr} {mt : MT} {mk mv me : ME} (hN : X.N.Nodup) (hc : PDT X c mt) (ho : PE X o (tVar j)) (hk : PD X k mk) (hv : PD X v mv) (he : PD X e me) (hi : X.N[i]? = some x := by rfl) (hx : Loc X.env.scope x := by first | exact Or.inl rfl | exact Or.inr rfl)
    (m : M2 X o "setdefault" apos k v cpos := by exact ⟨rfl, rfl, rfl, rfl⟩) (hs : swapsWith (.IfExp c (.Call (.Attribute o "setdefault" apos) [k, v] [] cpos) e ipos) (some (.Name x py)) pos.line X.env = pure false := by rfl)
    (hf : X.fn x = true ∨ X.env.scope.names.lookup x = some .local := by first | exact .inl rfl | exact .inr rfl) :
    PDS X (.Assign [.Name x py] (.IfExp c (.Call (.Attribute o "setdefault" apos) [k, v] [] cpos) e ipos) pos) (mSetdIf rs i j mt mk mv me) := by
  refine ⟨fun z C0 H0 Cb => ps_imp (ps_set hN hi hx (pe_ifExp hc.run (pe_dsetd ho hk.run hv.run m) he.run) hs hf) fun N σ H ⟨C, env, s, ⟨kd0, h0⟩, q⟩ => ?_, fun E E' env l ⟨q0, q⟩ => ⟨q0, hc.mono _ _ _ (fun b q => ?_) q⟩⟩
  · refine s.useT rs hc.mono q fun b C' H' p s' => ?_
    cases b with
    | true =>
      obtain ⟨a, kvs0, ea, _, eH, _, _⟩ := s'.ownD j h0
      refine ⟨.ref a, ea, a, rfl, .inl ⟨kvs0, .inl eH⟩, ?_⟩
      refine s'.use2 rs hk.mono hv.mono p fun y d w u C2 H2 ⟨kd, k, e1, e2, e3, p1, p2⟩ s2 d1 d2 => ?_
      obtain ⟨b, kvs, f1, f2, f3, f4, f5⟩ := s2.ownD j e1
      rw [ea] at f1
      cases f1
      have hl := f4.len
      refine ⟨kvs, k, f3, key_dn e2 d1, by rw [hl]; exact sz_lt (by unfold szOk at e3 ⊢; simp at e3 ⊢; omega), fun v' hv' => ?_, fun hn => ?_⟩
      · cases hq : valD kd k with
        | none => rw [(f4.val k).2 hq] at hv'; cases hv'
        | some w' =>
          obtain ⟨v2, h1, h2⟩ := (f4.val k).1 w' hq
          rw [h1] at hv'
          cases hv'
          exact p1 w' hq _ C2 H2 (s2.set i h2)
      · have hq : valD kd k = none := by
          cases hq : valD kd k with
          | none => rfl
          | some w' =>
            obtain ⟨v2, h1, h2⟩ := (f4.val k).1 w' hq
            rw [h1] at hn
            cases hn
        have s3 := s2.writeU e1 ea (hl_dicOf.mpr ⟨_, rfl, f4.put k d2⟩)
        exact p2 hq _ C2 _ (s3.set i d2)
    | false => exact s'.use rs he.mono p fun d v C2 H2 p s2 dn => p _ C2 _ (s2.set i dn)
  · cases b with
    | true => exact hk.mono _ _ _ (fun y q => hv.mono _ _ _ (fun d ⟨kd, k, a, b, c, q1, q2⟩ => ⟨kd, k, a, b, c, fun w h => l.nx _ (q1 w h), fun h => l.nx _ (q2 h)⟩) q) q
    | false => exact he.mono _ _ _ (fun d q => l.nx _ q) q
end
end BV

/-! sorted(a list of tuples whose first items are words). -/
namespace BV
open PySem PySem.Spec PyProof.Rows L2 Evl
section
variable {X : Cx}
def rSortG (K : PySem.W.Frag) : List V → Hp → VK → Prop := fun xs H Q => ∃ z C a vs ds, ∃ (ltf : D → D → Bool) (bb : Bool), xs = [V.ref a] ∧ Ok z C H ∧ C a = some (.lst vs) ∧ Dns K C z.p ds vs ∧ (∀ d ∈ ds, okKey bb d = true) ∧ SrtO.Swo ltf ∧ (∀ d ∈ ds, ∀ e ∈ ds, ltO d e = some (ltf d e)) ∧
  ∀ out outv p, SrtO.Srtd ltf out → SrtO.Stb ltf out ds → Dns K C z.p out outv → H p = none → Q (.ref p) (upd H p (.lst outv))
theorem call_sortG (hu : X.A.units + 70 < cLine) : CallR X (.builtin "sorted") (rSortG X.K) := by
  intro pins s σ H xs us Q I r h
  obtain ⟨z, C, a, vs, ds, ltf, bb, rfl, o, ha, dn, hok, O, hlt, q⟩ := h
  obtain ⟨u, rfl, ru⟩ := vals1 r
  obtain rfl : u = Value.ref a := ru
  obtain ⟨its, rv, hl, hz⟩ := I.list (sq_of (K := X.K) (o.ex _ _ ha))
  have e1 := rv.length
  have e2 := dn.len
  -- what a value of the list is
  have known : ∀ i u, its[i]? = some u → ∃ d v, ds[i]? = some d ∧ vs[i]? = some v ∧ RelV v u ∧ Dn X.K C z.p d v := fun i u hi => by
    have hlt' := (List.getElem?_eq_some_iff.mp hi).1
    have hv : vs[i]? = some (vs[i]'(by omega)) := List.getElem?_eq_getElem (by omega)
    obtain ⟨d, h1, h2⟩ := dn.get' hv
    obtain ⟨u', h3, h4⟩ := rv.get hv
    rw [hi] at h3
    cases h3
    exact ⟨d, _, h1, hv, h4, h2⟩
  classical
  let dec : Value → D := fun u => if h : ∃ d v, d ∈ ds ∧ RelV v u ∧ Dn X.K C z.p d v then h.choose else .non
  have decOk : ∀ u, (∃ d v, d ∈ ds ∧ RelV v u ∧ Dn X.K C z.p d v) → ∃ v, dec u ∈ ds ∧ RelV v u ∧ Dn X.K C z.p (dec u) v := fun u h => by
    have := h.choose_spec
    obtain ⟨v, h1, h2, h3⟩ := this
    have e : dec u = h.choose := dif_pos h
    rw [e]
    exact ⟨v, h1, h2, h3⟩
  have okn : ∀ d ∈ ds, d.np = true := fun d hd => by
    exact (okKey_of (hok d hd)).2.2.2
  have decAt : ∀ i u d, its[i]? = some u → ds[i]? = some d → dec u = d := fun i u d hi hd => by
    obtain ⟨d', v, h1, h2, h3, h4⟩ := known i u hi
    rw [hd] at h1
    cases h1
    obtain ⟨v', g1', g2, g3⟩ := decOk u ⟨d, v, List.mem_of_getElem? hd, h3, h4⟩
    rw [h3.inj g2] at h4
    exact Dn.inj I o _ _ _ (okn _ g1') (okn _ (List.mem_of_getElem? hd)) g3 h4
  have decMap : its.map dec = ds := by
    apply List.ext_getElem?
    intro i
    rw [List.getElem?_map]
    cases hi : its[i]? with
    | none =>
      have : ds[i]? = none := by
        rw [List.getElem?_eq_none_iff] at hi ⊢
        omega
      rw [this]
      rfl
    | some u =>
      obtain ⟨d, v, h1, _⟩ := known i u hi
      rw [h1]
      show some (dec u) = some d
      rw [decAt i u d hi h1]
  have mem : ∀ u ∈ its, dec u ∈ ds ∧ ∃ v, RelV v u ∧ Dn X.K C z.p (dec u) v := fun u hu => by
    obtain ⟨i, hi⟩ := List.mem_iff_getElem?.mp hu
    obtain ⟨d, v, h1, h2, h3, h4⟩ := known i u hi
    obtain ⟨v', g1, g2, g3⟩ := decOk u ⟨d, v, List.mem_of_getElem? h1, h3, h4⟩
    exact ⟨g1, v', g2, g3⟩
  have okp : ∀ d ∈ ds, keyFirst bb d = true ∧ okEq d = true ∧ d.py.depth ≤ 50 := fun d hd => ⟨(okKey_of (hok d hd)).1, (okKey_of (hok d hd)).2.1, (okKey_of (hok d hd)).2.2.1⟩
  have reads : ∀ u ∈ its, ∃ as, Reads s.heap u (dec u).py as := fun u hu => by
    obtain ⟨h1, v, h2, h3⟩ := mem u hu
    exact Dp.reads I _ v u (h3.dp o.ex _ v (okEq_of (okp _ h1).2.1).1) h2
  have isref : ∀ u ∈ its, ∃ t, u = Value.ref t := fun u hu => by
    obtain ⟨h1, v, h2, h3⟩ := mem u hu
    have ht := (okp _ h1).1
    cases hd : dec u with
    | tup es =>
      rw [hd] at h3
      obtain ⟨t, _, e, _⟩ := dn_tup h3
      subst e
      exact ⟨t, h2⟩
    | _ => rw [hd] at ht; cases ht
  have Ov : SrtO.Swo fun u w => ltf (dec u) (dec w) := ⟨fun x y => O.asym _ _, fun x y z => O.tr _ _ _⟩
  refine SrtO.sorted_ord (ltv := fun u w => ltf (dec u) (dec w)) Ov hl.isList (by rw [← e1]; exact hz) (fun h2 h₁ a' ha' kk => ?_) fun out hs hb => ?_
  · intro h' keep
    have kp : ∀ b ob, s.heap.get? b = some ob → h'.get? b = some ob := fun b ob e => keep b ob (kk b ob e).1 (kk b ob e).2
    have reads' : ∀ u ∈ its, ∃ as, Reads h' u (dec u).py as := fun u hu => let ⟨as, r⟩ := reads u hu; ⟨as, Reads.keeps kp r⟩
    have pr : Paired (fun u d => (∃ as, Reads h' u (D.py d) as) ∧ keyFirst bb d = true) its ds := paired_get (by omega) fun i u d h1 h2 => by
      rw [← decAt i u d h1 h2]
      have hm := List.mem_of_getElem? h1
      exact ⟨reads' u hm, (okp _ (mem u hm).1).1⟩
    refine ⟨tuples' bb, fun Q' E' hq => ?_, fun p q' hp hq' => ?_⟩
    · exact kind_at (s := { s with heap := h' }) pr (by omega) hq
    · have hp1 : p.1 ∈ its := hp
      have hq1 : q'.1 ∈ its := hq'
      obtain ⟨as, r1⟩ := reads' _ hp1
      obtain ⟨bs, r2⟩ := reads' _ hq1
      exact keys_lt (s := { s with heap := h' }) (A := X.A.in1) (Q := fun r s' => s' = { s with heap := h' } ∧ r = ltf (dec p.1) (dec q'.1)) (by show X.A.units + 1 + 64 < _; omega) (hok _ (mem _ hp1).1) (hok _ (mem _ hq1).1) r1 r2 (hlt _ (mem _ hp1).1 _ (mem _ hq1).1) ⟨rfl, rfl⟩
  · have memo : ∀ u ∈ out, u ∈ its := fun u hu => hb.perm.mem_iff.mp hu
    have hbm : SrtO.Stb ltf (out.map dec) ds := by
      have := SrtO.Stb.map O dec hb
      rwa [decMap] at this
    obtain ⟨ep, he'⟩ := PyProof.Rows.sortedAll_at s.heap its out.toArray
    have dno : Dns X.K C z.p (out.map dec) (out.map backV) := by
      have : ∀ l : List Value, (∀ u ∈ l, u ∈ its) → Dns X.K C z.p (l.map dec) (l.map backV) := by
        intro l
        induction l with
        | nil => intro _; exact dns_nil.mpr rfl
        | cons u l ih =>
          intro hl'
          have hu' := hl' u (by simp)
          obtain ⟨h1, v, h2, h3⟩ := mem u hu'
          obtain ⟨t, rfl⟩ := isref u hu'
          have : v = .ref t := h2.inj (show RelV (.ref t) (.ref t) from rfl)
          subst this
          exact dns_cons.mpr ⟨_, _, rfl, h3, ih fun w hw => hl' w (by simp [hw])⟩
      exact this out memo
    have hlen : (out.map backV).length ≤ sizeLine := by
      rw [List.length_map, hb.len, ← e1]
      exact hz
    refine ⟨.ref _, upd H (s.heap.objs.size + 1) (.lst (out.map backV)), I.laid (t' := s.toks) (fun _ _ => PyProof.Rows.sortedAll_old) (Nat.le_succ _) ⟨hlen, out, ep, vals_back fun u hu => isref u (memo u hu), he'⟩, rfl, ?_⟩
    exact q _ _ _ (SrtO.srtd_map hs) hbm dno (I.hok.fresh (Nat.le_succ _))
def sortedG (ds : List D) (T : D → Prop) : Prop := ∃ xs, ∃ (ltf : D → D → Bool) (bb : Bool), ds = [.lst xs] ∧ (∀ d ∈ xs, okKey bb d = true) ∧ SrtO.Swo ltf ∧ (∀ d ∈ xs, ∀ e ∈ xs, ltO d e = some (ltf d e)) ∧ ∀ out, SrtO.Srtd ltf out → SrtO.Stb ltf out xs → T (.lst out)
theorem cp_sortedG (hu : X.A.units + 70 < cLine) : CallP X (.builtin "sorted") sortedG := by
  refine ⟨⟨_, call_sortG hu, fun z C H ds T xs Q o dn ⟨ys, ltf, bb, e, h1, O, h2, h3⟩ k => ?_⟩, fun ds T T' i ⟨ys, ltf, bb, e, h1, O, h2, h3⟩ => ⟨ys, ltf, bb, e, h1, O, h2, fun out a b => i _ (h3 out a b)⟩⟩
  subst e
  obtain ⟨v, rfl, e2⟩ := dns1 dn
  obtain ⟨a, vs, rfl, ha, dns⟩ := dn_lst.mp e2
  exact ⟨z, C, a, vs, ys, ltf, bb, rfl, o, ha, dns, h1, O, h2, fun out outv p s1 s2 d hp => k _ _ _ _ (h3 out s1 s2) (Tr.put o hp) (dn_new_lst d (fresh_back o.ex hp))⟩
end
end BV

/-! sorted(d.items()), list(d.items()), by value. -/
namespace BV
open PySem PySem.Spec PyProof.Rows L2 Evl L2.DX

def keyDat : L2.Key → D
  | .inl i => .int i
  | .inr s => .str s
/-- the pairs of a dict, in its order -/
def itemsK (kd : KL) : List D := pairsD (kd.map fun p => keyDat p.1) (kd.map (·.2))
theorem key_val {k : L2.Key} {v : Value} (h : keyIs k v = true) : RelV (kV k) v := by
  rcases keyIs_shape h with ⟨i, t, rfl, rfl⟩ | ⟨x, t, rfl, rfl⟩
  · exact ⟨t, rfl⟩
  · exact ⟨t, rfl⟩
theorem dn_key {K : PySem.W.Frag} {C : Hp} {pu : Addr} : ∀ {kd : KL} {kvs : List (L2.Key × V)}, KD K C pu kd kvs → Dns K C pu (kd.map fun p => keyDat p.1) (kvs.map fun p => kV p.1) ∧ Dns K C pu (kd.map (·.2)) (kvs.map (·.2)) := fun {kd kvs} h => by
  obtain ⟨h1, h2⟩ := KD.iff.mp h
  refine ⟨?_, h2⟩
  have key : ∀ ks : List L2.Key, Dns K C pu (ks.map keyDat) (ks.map kV) := by
    intro ks
    induction ks with
    | nil => exact dns_nil.mpr rfl
    | cons k ks ih =>
      refine dns_cons.mpr ⟨kV k, _, rfl, ?_, ih⟩
      cases k with
      | inl i => exact dn_int.mpr rfl
      | inr s => exact dn_str.mpr rfl
  have e1 : kvs.map (fun p => kV p.1) = (kd.map (·.1)).map kV := by rw [← h1, List.map_map]; rfl
  have e2 : kd.map (fun p => keyDat p.1) = (kd.map (·.1)).map keyDat := by rw [List.map_map]; rfl
  rw [e1, e2]
  exact key _
theorem vals_of {prog : Program} {w : World} : ∀ {kvs : List (L2.Key × V)} {vs : List (L2.Key × Value)} {es : List DictEntry}, KV kvs vs → Pairs (mixKind prog w) es vs → Vals (kvs.map fun p => kV p.1) (es.map (·.key)) ∧ Vals (kvs.map (·.2)) (es.map (·.val))
  | _, _, _, .nil, .nil => ⟨.nil, .nil⟩
  | _, _, _, .cons h t, .cons k v r => by
    obtain ⟨q1, q2⟩ := vals_of t r
    refine ⟨.cons ?_ q1, .cons ?_ q2⟩
    · dsimp only; rw [h.1]; exact key_val k
    · dsimp only; rw [v]; exact h.2
theorem made_got {es : Array DictEntry} {lo : Addr} {h : Heap} {as : List Addr} (g : DT.Made es lo h as) : GotL h as (es.toList.map (·.key)) (es.toList.map (·.val)) := gotL_of fun j a e => by
  obtain ⟨en, h1, h2⟩ := g.pairs j a e
  have h1' : es.toList[j]? = some en := by rw [Array.getElem?_toList]; exact h1
  exact ⟨en.key, en.val, by rw [List.getElem?_map, h1']; rfl, by rw [List.getElem?_map, h1']; rfl, h2⟩
section
variable {X : Cx} {pins : List (Addr × Obj)} {σ : L2.St} {H C : Hp} {s : Shared} {z : Pz}
/-- the pairs that were made are tracked -/
theorem gather (I : Inv X pins σ H s) (o : Ok z C H) {kd : KL} {kvs : List (L2.Key × V)} (kdv : KD X.K C z.p kd kvs) {ks vals : List Value} (r1 : Vals (kvs.map fun p => kV p.1) ks) (r2 : Vals (kvs.map (·.2)) vals) {h' : Heap} {tk : Nat} {as : List Addr} (rise : as.Pairwise (· < ·))
    (low : ∀ a ∈ as, s.heap.objs.size ≤ a) (len : as.length = kvs.length) (keep : ∀ b u, s.heap.get? b = some u → h'.get? b = some u) (got : GotL h' as ks vals) :
    ∃ C' H', Inv X pins σ H' { s with heap := h', toks := tk } ∧ Tr z C H C' H' ∧ Dns X.K C' z.p (itemsK kd) (as.map V.ref) := by
  obtain ⟨d1, d2⟩ := dn_key kdv
  have l1 := r1.length
  have l2 := r2.length
  rw [List.length_map] at l1 l2
  have lm : (mkL as ks vals (kvs.map fun p => kV p.1) (kvs.map (·.2))).map (·.1) = as := mkL_map got r1.length.symm r2.length.symm
  have nd : ((mkL as ks vals (kvs.map fun p => kV p.1) (kvs.map (·.2))).map (·.1)).Nodup := by rw [lm]; exact nodup_rise rise
  have hl : ∀ p ∈ mkL as ks vals (kvs.map fun p => kV p.1) (kvs.map (·.2)), s.heap.objs.size ≤ p.1 := fun p hp => low _ (by rw [← lm]; exact List.mem_map.mpr ⟨p, hp, rfl⟩)
  have tA := Tr.adds o nd fun p hp => I.hok.fresh (hl p hp)
  refine ⟨_, _, ?_, tA, mkL_dn (K := X.K) (pu := z.p) tA.cc got r1 r2 d1 d2 (by omega) fun p hp => addO_in nd hp⟩
  refine Inv.many (s := s) (h' := h') (t' := tk) I keep (fun b u e => ?_) fun b u e => ?_
  · have hb : b < s.heap.objs.size := I.hok.lt e
    rw [addO_out fun hm => by
      obtain ⟨p, hp, rfl⟩ := List.mem_map.mp hm
      exact absurd (hl p hp) (Nat.not_le.mpr hb)]
    exact e
  · rcases addO_some e with e | e
    · exact .inl e
    · exact .inr ⟨hl _ e, mkL_ok got r1 r2 _ e⟩
end
section
variable {X : Cx}
def rItemsK : V → List V → Hp → VK → Prop := fun x xs H Q => ∃ (a : Addr) (kvs : List (L2.Key × V)), x = .ref a ∧ xs = [] ∧ H a = some (.dK kvs) ∧ ∀ p, H p = none → Q (.ref p) (upd H p (itemsO p a))
theorem mt_itemsK : MtR X "dict.items" rItemsK := by
  intro pins s σ H x xs v us Q I rx rxs h
  obtain ⟨a, kvs, rfl, rfl, ha, q⟩ := h
  cases rx
  cases rxs
  obtain ⟨z, hd, vs, rel, o, es, ep, ho, hx, hdat, _⟩ := dk_of I.hok ha
  refine DT.callItems (es := es) (ep := ep) hd ⟨o, ho, hx, hdat⟩ ?_
  have hf : H s.heap.objs.size = none := I.hok.fresh (Nat.le_refl _)
  exact ⟨.ref s.heap.objs.size, upd H s.heap.objs.size (itemsO s.heap.objs.size a), I.laid (t' := s.toks) (fun b u e => Heap.get?_push_of_some _ e) (Nat.le_refl _) (itemsO_ok (Heap.get?_push_size _ rfl)), rfl, q _ hf⟩
/-- what sorted(a view of a dict's items) leaves -/
def rSortItK (K : PySem.W.Frag) : List V → Hp → VK → Prop := fun vs H Q => ∃ (z : Pz) (C : Hp) (p a : Addr) (kvs : List (L2.Key × V)) (kd : KL) (ltf : D → D → Bool) (bb : Bool), vs = [V.ref p] ∧ Ok z C H ∧ H p = some (itemsO p a) ∧ H a = some (.dK kvs) ∧ KD K C z.p kd kvs ∧
  (∀ d ∈ itemsK kd, okKey bb d = true) ∧ SrtO.Swo ltf ∧ (∀ d ∈ itemsK kd, ∀ e ∈ itemsK kd, ltO d e = some (ltf d e)) ∧
  ∀ (out : List D) (outv : List V) (l : Addr) (C' H' : Hp), SrtO.Srtd ltf out → SrtO.Stb ltf out (itemsK kd) → Tr z C H C' H' → H' l = none → H l = none → Dns K C' z.p out outv → Q (.ref l) (upd H' l (.lst outv))
theorem cr_sortItK (hc : X.calm = true) (hu : X.A.units + 70 < cLine) : CallR X (.builtin "sorted") (rSortItK X.K) := by
  intro pins s σ H xs us Q I r h
  obtain ⟨z, C, p, a, kvs, kd, ltf, bb, rfl, o, hp, ha, kdv, hok, O, hlt, q⟩ := h
  obtain rfl := Vals.ref1 r
  have view : s.heap.IsItemsView p a := (show ObjOk X.prog X.w H s.heap p (itemsO p a) from I.hok p _ hp).1
  obtain ⟨hz, hd, vs, rel, ob, es, ep, ho, hx, hdat, _, hpr, _⟩ := dk_of I.hok ha
  obtain ⟨r1, r2⟩ := vals_of rel hpr
  have hh : X.A.handled = none := I.ok.hd hc
  have les : es.size = kvs.length := by
    have := r2.length
    rw [List.length_map, List.length_map, Array.length_toList] at this
    exact this.symm
  refine DT.sortedI (es := es) (ep := ep) hh view ⟨ob, ho, hx, hdat⟩ (by rw [les]; exact hz) fun h' tk as hk hlt' hl hG => ?_
  obtain ⟨C', H', I1, t, dns⟩ := gather (tk := tk) I o kdv r1 r2 hG.rise (fun a ha => Nat.le_of_lt (hG.above a ha)) (by omega) hk (made_got hG)
  have o1 := t.ok
  have lit := dns.len
  rw [List.length_map] at lit
  -- what a value of the list is
  have known : ∀ i u, (as.map Value.ref)[i]? = some u → ∃ d v, (itemsK kd)[i]? = some d ∧ RelV v u ∧ Dn X.K C' z.p d v := fun i u hi => by
    rw [List.getElem?_map] at hi
    obtain ⟨b, hb, rfl⟩ := Option.map_eq_some_iff.mp hi
    have hv : (as.map V.ref)[i]? = some (V.ref b) := by rw [List.getElem?_map, hb]; rfl
    obtain ⟨d, h1, h2⟩ := dns.get' hv
    exact ⟨d, _, h1, (show RelV (.ref b) (.ref b) from rfl), h2⟩
  classical
  let dec : Value → D := fun u => if h : ∃ d v, d ∈ itemsK kd ∧ RelV v u ∧ Dn X.K C' z.p d v then h.choose else .non
  have decOk : ∀ u, (∃ d v, d ∈ itemsK kd ∧ RelV v u ∧ Dn X.K C' z.p d v) → ∃ v, dec u ∈ itemsK kd ∧ RelV v u ∧ Dn X.K C' z.p (dec u) v := fun u h => by
    obtain ⟨v, h1, h2, h3⟩ := h.choose_spec
    have e : dec u = h.choose := dif_pos h
    rw [e]
    exact ⟨v, h1, h2, h3⟩
  have okp : ∀ d ∈ itemsK kd, keyFirst bb d = true ∧ okEq d = true ∧ d.py.depth ≤ 50 ∧ d.np = true := fun d hd => okKey_of (hok d hd)
  have decAt : ∀ i u d, (as.map Value.ref)[i]? = some u → (itemsK kd)[i]? = some d → dec u = d := fun i u d hi hd => by
    obtain ⟨d', v, h1, h3, h4⟩ := known i u hi
    rw [hd] at h1
    cases h1
    obtain ⟨v', g1', g2, g3⟩ := decOk u ⟨d, v, List.mem_of_getElem? hd, h3, h4⟩
    rw [h3.inj g2] at h4
    exact Dn.inj I1 o1 _ _ _ (okp _ g1').2.2.2 (okp _ (List.mem_of_getElem? hd)).2.2.2 g3 h4
  have decMap : (as.map Value.ref).map dec = itemsK kd := by
    apply List.ext_getElem?
    intro i
    rw [List.getElem?_map]
    cases hi : (as.map Value.ref)[i]? with
    | none =>
      have : (itemsK kd)[i]? = none := by
        rw [List.getElem?_eq_none_iff] at hi ⊢
        rw [List.length_map] at hi
        omega
      rw [this]
      rfl
    | some u =>
      obtain ⟨d, v, h1, _⟩ := known i u hi
      rw [h1]
      show some (dec u) = some d
      rw [decAt i u d hi h1]
  have mem : ∀ u ∈ as.map Value.ref, dec u ∈ itemsK kd ∧ ∃ v, RelV v u ∧ Dn X.K C' z.p (dec u) v := fun u hu => by
    obtain ⟨i, hi⟩ := List.mem_iff_getElem?.mp hu
    obtain ⟨d, v, h1, h3, h4⟩ := known i u hi
    obtain ⟨v', g1, g2, g3⟩ := decOk u ⟨d, v, List.mem_of_getElem? h1, h3, h4⟩
    exact ⟨g1, v', g2, g3⟩
  have reads : ∀ u ∈ as.map Value.ref, ∃ bs, Reads h' u (dec u).py bs := fun u hu => by
    obtain ⟨h1, v, h2, h3⟩ := mem u hu
    exact Dp.reads I1 _ v u (h3.dp o1.ex _ v (okEq_of (okp _ h1).2.1).1) h2
  have Ov : SrtO.Swo fun u w => ltf (dec u) (dec w) := ⟨fun x y => O.asym _ _, fun x y z => O.tr _ _ _⟩
  have lsz : (as.map Value.ref).length ≤ sizeLine := by rw [List.length_map, hl, les]; exact hz
  have hob : (h'.push (seqObj "list" (as.map Value.ref).toArray 0)).get? h'.objs.size = some (seqObj "list" (as.map Value.ref).toArray 0) := Heap.get?_push_size _ rfl
  have ka : ∀ b u, h'.get? b = some u → (h'.push (seqObj "list" (as.map Value.ref).toArray 0)).get? b = some u := fun b u e => Heap.get?_push_of_some _ e
  have ne0 : ∀ b u, h'.get? b = some u → b ≠ h'.objs.size := fun b u e => Nat.ne_of_lt (Heap.lt_size e)
  have hsz2 : ∀ b u, h'.get? b = some u → b < (h'.push (seqObj "list" (as.map Value.ref).toArray 0)).objs.size := fun b u e => Heap.lt_size (ka b u e)
  show wpAny (model X.prog X.w) X.A.in1 (call (.builtin "list.sort") [.ref h'.objs.size]) (fun _ s' => EP X pins σ Q (.ref h'.objs.size) s') _ { s with heap := h'.push (seqObj "list" (as.map Value.ref).toArray 0), toks := tk }
  generalize hh2 : h'.push (seqObj "list" (as.map Value.ref).toArray 0) = h2 at hob ka hsz2 ⊢
  refine wpAny_call_entry PyProof.Rows.slot_list_sort ⟨_, hob, rfl⟩ PyProof.Rows.entry_list_sort (SrtO.list_sort_ord (s := { s with heap := h2, toks := tk }) (ltv := fun u w => ltf (dec u) (dec w)) Ov hob lsz (fun hlen => ?_) fun out hs hb => ⟨.none, rfl, ?_⟩) (PyProof.Rows.args_list_sort _)
  · intro h3 keep
    have kp : ∀ b u, h'.get? b = some u → h3.get? b = some u := fun b u e => keep b u (ne0 b u e) (ka b u e)
    have reads' : ∀ u ∈ as.map Value.ref, ∃ bs, Reads h3 u (dec u).py bs := fun u hu => let ⟨bs, r⟩ := reads u hu; ⟨bs, Reads.keeps kp r⟩
    have pr : Paired (fun u d => (∃ bs, Reads h3 u (D.py d) bs) ∧ keyFirst bb d = true) (as.map Value.ref) (itemsK kd) := paired_get (by rw [List.length_map]; omega) fun i u d h1 h2 => by
      rw [← decAt i u d h1 h2]
      have hm := List.mem_of_getElem? h1
      exact ⟨reads' u hm, (okp _ (mem u hm).1).1⟩
    refine ⟨tuples' bb, fun Q' E' hq => ?_, fun p q' hp hq' => ?_⟩
    · exact kind_at (s := { s with heap := h3, toks := tk }) pr (by omega) hq
    · have hp1 : p.1 ∈ as.map Value.ref := hp
      have hq1 : q'.1 ∈ as.map Value.ref := hq'
      obtain ⟨bs, r1⟩ := reads' _ hp1
      obtain ⟨cs, r2⟩ := reads' _ hq1
      exact keys_lt (s := { s with heap := h3, toks := tk }) (A := X.A.in1) (Q := fun r s' => s' = { s with heap := h3, toks := tk } ∧ r = ltf (dec p.1) (dec q'.1)) (by show X.A.units + 1 + 64 < _; omega) (hok _ (mem _ hp1).1) (hok _ (mem _ hq1).1) r1 r2 (hlt _ (mem _ hp1).1 _ (mem _ hq1).1) ⟨rfl, rfl⟩
  · have memo : ∀ u ∈ out, u ∈ as.map Value.ref := fun u hu => hb.perm.mem_iff.mp hu
    have hbm : SrtO.Stb ltf (out.map dec) (itemsK kd) := by
      have := SrtO.Stb.map O dec hb
      rwa [decMap] at this
    have isref : ∀ u ∈ as.map Value.ref, ∃ t, u = Value.ref t := fun u hu => by obtain ⟨b, _, rfl⟩ := List.mem_map.mp hu; exact ⟨b, rfl⟩
    have dno : Dns X.K C' z.p (out.map dec) (out.map backV) := by
      have : ∀ l : List Value, (∀ u ∈ l, u ∈ as.map Value.ref) → Dns X.K C' z.p (l.map dec) (l.map backV) := by
        intro l
        induction l with
        | nil => intro _; exact dns_nil.mpr rfl
        | cons u l ih =>
          intro hl'
          have hu' := hl' u (by simp)
          obtain ⟨h1, v, h2, h3⟩ := mem u hu'
          obtain ⟨t, rfl⟩ := isref u hu'
          have : v = .ref t := h2.inj (show RelV (.ref t) (.ref t) from rfl)
          subst this
          exact dns_cons.mpr ⟨_, _, rfl, h3, ih fun w hw => hl' w (by simp [hw])⟩
      exact this out memo
    have hlen2 : (out.map backV).length ≤ sizeLine := by
      rw [List.length_map, hb.len]
      exact lsz
    obtain ⟨e9, h9⟩ := PyProof.Rows.sortedHeap_at (out := out.toArray) hob
    have I2 : Inv X pins σ (upd H' h'.objs.size (.lst (out.map backV))) { s with heap := PyProof.Rows.sortedHeap h2 h'.objs.size (as.map Value.ref) out.toArray, toks := tk } :=
      Inv.laid (s := { s with heap := h', toks := tk }) (t' := tk) I1 (fun b u e => by rw [PyProof.Rows.sortedHeap_old (ne0 b u e) (hsz2 b u e)]; exact ka b u e) (Nat.le_refl _) ⟨hlen2, out, e9, vals_back fun u hu => isref u (memo u hu), h9⟩
    have hn : H' h'.objs.size = none := I1.hok.fresh (Nat.le_refl _)
    exact ⟨.ref h'.objs.size, _, I2, rfl, q _ _ _ C' H' (SrtO.srtd_map hs) hbm t hn (t.free hn) dno⟩
end
end BV

/-! sorted(d.items()), list(d.items()), by value. -/
namespace BV
open PySem PySem.Spec PyProof.Rows L2 Evl L2.DX
section
variable {prog : Program} {w : World} {A : Around} {E : Value → Shared → Prop} {s : Shared} {r d : Addr} {es : Array DictEntry} {ep : Nat}
theorem list_of_items (hh : A.handled = none) (hv : s.heap.IsItemsView r d) (hm : DT.Raw s.heap d es ep) (hn : es.size ≤ sizeLine) {Q : Value → Shared → Prop}
    (q : ∀ h' tk acc c as, (∀ b o, s.heap.get? b = some o → h'.get? b = some o) → h'.get? s.heap.objs.size = some (lstO acc c) → as.length = es.size → DT.Made es s.heap.objs.size h' as → acc.toList = as.map Value.ref → Q (.ref s.heap.objs.size) { s with heap := h', toks := tk }) :
    wpAny (model prog w) A (call (.type "list") [.ref r]) Q E s := by
  have hr : r < s.heap.objs.size := let ⟨_, ho, _⟩ := hv; Heap.lt_size ho
  have hd : d < s.heap.objs.size := hm.lt
  refine callType_codes (Q₁ := fun obj s₁ => obj = .ref s.heap.objs.size ∧ s₁ = { s with heap := s.heap.push { cls := .type "list", data := .seq #[] } }) PySem.F.called_list (PySem.F.typeCall_list_1 _) PySem.F.entry_list_init
    (code_list_new _ ⟨rfl, rfl⟩) fun obj s₁ h₁ => ?_
  obtain ⟨rfl, rfl⟩ := h₁
  have hL : (s.heap.push { cls := .type "list", data := .seq #[] }).get? s.heap.objs.size = some (lstO #[] 0) := Heap.get?_push_size _ rfl
  refine ⟨⟨_, hL, rfl⟩, PySem.F.args_list_init_2 _ _, ?_⟩
  show wpAny _ _ (do let old ← Builtin.List.listItems (.ref s.heap.objs.size); Builtin.List.listUpdate (.ref s.heap.objs.size) (fun _ => #[]); letGo old.toList.reverse; Builtin.List.listExtendWith (.ref s.heap.objs.size) (.ref r) .none) _ _ _
  refine wpAny_bind ?_
  unfold Builtin.List.listItems
  refine wpAny_bind (wpAny_seqItems hL rfl (wpAny_pure ?_))
  show wpAny _ _ (updateSeq s.heap.objs.size (fun _ => #[]) >>= fun _ => letGo (#[] : Array Value).toList.reverse >>= fun _ => Builtin.List.listExtendWith (.ref s.heap.objs.size) (.ref r) .none) _ _ _
  refine wpAny_bind (wpAny_updateSeq hL rfl ?_)
  refine wpAny_bind (wpAny_letGo ?_)
  have hL2 := Heap.get?_update_self (Obj.mapSeq (fun _ => (#[] : Array Value))) hL rfl
  have up : ∀ b o, s.heap.get? b = some o → ((s.heap.push { cls := .type "list", data := .seq #[] }).update s.heap.objs.size (Obj.mapSeq (fun _ => (#[] : Array Value)))).get? b = some o := fun b o e =>
    (Heap.get?_update_other _ _ (Nat.ne_of_gt (Heap.lt_size e))).trans (Heap.get?_push_of_some _ e)
  refine DT.extI (s := { s with heap := (s.heap.push { cls := .type "list", data := .seq #[] }).update s.heap.objs.size (Obj.mapSeq (fun _ => (#[] : Array Value))) }) (A := A.in1) hh (let ⟨o, ho, x⟩ := hv; ⟨o, up _ _ ho, x⟩) (hm.at' fun o e => up _ _ e) s.heap.objs.size (Nat.ne_of_gt hr) (Nat.ne_of_lt hd) .none _ hL2
    (fun h' tk acc c as a1 a2 a3 a4 a5 => ⟨rfl, q h' tk acc c as (fun b o e => a1 b o (Nat.ne_of_lt (Heap.lt_size e)) (up b o e)) a2 a3 (a4.low ?_) a5⟩) hn
  show s.heap.objs.size ≤ ((s.heap.push { cls := .type "list", data := .seq #[] }).update s.heap.objs.size (Obj.mapSeq (fun _ => (#[] : Array Value)))).objs.size
  rw [Heap.size_update, Heap.size_push]
  exact Nat.le_succ _
end
section
variable {X : Cx} {pins : List (Addr × Obj)} {σ : L2.St} {H C : Hp} {s : Shared} {z : Pz}
/-- the pairs that were made, and a list of them -/
theorem gatherL (I : Inv X pins σ H s) (o : Ok z C H) {kd : KL} {kvs : List (L2.Key × V)} (kdv : KD X.K C z.p kd kvs) {ks vals : List Value} (r1 : Vals (kvs.map fun p => kV p.1) ks) (r2 : Vals (kvs.map (·.2)) vals) {h' : Heap} {tk : Nat} {as : List Addr} (rise : as.Pairwise (· < ·))
    (low : ∀ a ∈ as, s.heap.objs.size ≤ a) (len : as.length = kvs.length) (keep : ∀ b u, s.heap.get? b = some u → h'.get? b = some u) (got : GotL h' as ks vals) {l : Addr} (hl0 : s.heap.objs.size ≤ l) (nl : l ∉ as) {outv : List V} (ok : ∀ H', ObjOk X.prog X.w H' h' l (.lst outv)) :
    ∃ C' H', Inv X pins σ (upd H' l (.lst outv)) { s with heap := h', toks := tk } ∧ Tr z C H C' H' ∧ H' l = none ∧ Dns X.K C' z.p (itemsK kd) (as.map V.ref) := by
  obtain ⟨d1, d2⟩ := dn_key kdv
  have l1 := r1.length
  have l2 := r2.length
  rw [List.length_map] at l1 l2
  have lm : (mkL as ks vals (kvs.map fun p => kV p.1) (kvs.map (·.2))).map (·.1) = as := mkL_map got r1.length.symm r2.length.symm
  have nd : ((mkL as ks vals (kvs.map fun p => kV p.1) (kvs.map (·.2))).map (·.1)).Nodup := by rw [lm]; exact nodup_rise rise
  have hl : ∀ p ∈ mkL as ks vals (kvs.map fun p => kV p.1) (kvs.map (·.2)), s.heap.objs.size ≤ p.1 := fun p hp => low _ (by rw [← lm]; exact List.mem_map.mpr ⟨p, hp, rfl⟩)
  have tA := Tr.adds o nd fun p hp => I.hok.fresh (hl p hp)
  have hn : addO (mkL as ks vals (kvs.map fun p => kV p.1) (kvs.map (·.2))) H l = none := by rw [addO_out (by rw [lm]; exact nl)]; exact I.hok.fresh hl0
  refine ⟨_, _, ?_, tA, hn, mkL_dn (K := X.K) (pu := z.p) tA.cc got r1 r2 d1 d2 (by omega) fun p hp => addO_in nd hp⟩
  refine Inv.many (s := s) (h' := h') (t' := tk) I keep (fun b u e => ?_) fun b u e => ?_
  · have hb : b < s.heap.objs.size := I.hok.lt e
    rw [upd_ne (Nat.ne_of_lt (Nat.lt_of_lt_of_le hb hl0)), addO_out fun hm => by
      obtain ⟨p, hp, rfl⟩ := List.mem_map.mp hm
      exact absurd (hl p hp) (Nat.not_le.mpr hb)]
    exact e
  · by_cases hb : b = l
    · subst hb
      rw [upd_same] at e
      cases e
      exact .inr ⟨hl0, ok _⟩
    · rw [upd_ne hb] at e
      rcases addO_some e with e | e
      · exact .inl e
      · exact .inr ⟨hl _ e, mkL_ok got r1 r2 _ e⟩
end
section
variable {X : Cx}
def rListItK (K : PySem.W.Frag) : List V → Hp → VK → Prop := fun vs H Q => ∃ (z : Pz) (C : Hp) (p a : Addr) (kvs : List (L2.Key × V)) (kd : KL), vs = [V.ref p] ∧ Ok z C H ∧ H p = some (itemsO p a) ∧ H a = some (.dK kvs) ∧ KD K C z.p kd kvs ∧
  ∀ (outv : List V) (l : Addr) (C' H' : Hp), Tr z C H C' H' → H' l = none → H l = none → Dns K C' z.p (itemsK kd) outv → Q (.ref l) (upd H' l (.lst outv))
theorem cr_listItK (hc : X.calm = true) : CallR X (.type "list") (rListItK X.K) := by
  intro pins s σ H xs us Q I r h
  obtain ⟨z, C, p, a, kvs, kd, rfl, o, hp, ha, kdv, q⟩ := h
  obtain rfl := Vals.ref1 r
  have view : s.heap.IsItemsView p a := (show ObjOk X.prog X.w H s.heap p (itemsO p a) from I.hok p _ hp).1
  obtain ⟨hz, hd, vs, rel, ob, es, ep, ho, hx, hdat, _, hpr, _⟩ := dk_of I.hok ha
  obtain ⟨r1, r2⟩ := vals_of rel hpr
  have hh : X.A.handled = none := I.ok.hd hc
  have les : es.size = kvs.length := by
    have := r2.length
    rw [List.length_map, List.length_map, Array.length_toList] at this
    exact this.symm
  refine list_of_items (es := es) (ep := ep) hh view ⟨ob, ho, hx, hdat⟩ (by rw [les]; exact hz) fun h' tk acc c as hk aL hl hG aa => ?_
  have lsz : (as.map V.ref).length ≤ sizeLine := by rw [List.length_map, hl, les]; exact hz
  have aL' : h'.get? s.heap.objs.size = some (seqObj "list" (as.map Value.ref).toArray c) := by
    rw [aL, ← aa]
  obtain ⟨C', H', I1, t, hn, dns⟩ := gatherL (tk := tk) I o kdv r1 r2 hG.rise (fun a ha => Nat.le_of_lt (hG.above a ha)) (by omega) hk (made_got hG) (l := s.heap.objs.size) (Nat.le_refl _) (fun hm => Nat.lt_irrefl _ (hG.above _ hm)) (outv := as.map V.ref) fun H' => ⟨lsz, as.map Value.ref, c, vals_refs as, aL'⟩
  exact ⟨.ref s.heap.objs.size, _, I1, rfl, q _ _ C' H' t hn (t.free hn) dns⟩
/-! ### by value -/
def moListIt (me : ME) : MA := fun env Q => me env fun d => ∃ kd, d = dicOf kd ∧ Q (itemsK kd)
def moSortIt (me : ME) : MA := fun env Q => me env fun d => ∃ (kd : KL) (ltf : D → D → Bool) (bb : Bool), d = dicOf kd ∧ (∀ x ∈ itemsK kd, okKey bb x = true) ∧ SrtO.Swo ltf ∧ (∀ x ∈ itemsK kd, ∀ y ∈ itemsK kd, ltO x y = some (ltf x y)) ∧
  ∀ out, SrtO.Srtd ltf out → SrtO.Stb ltf out (itemsK kd) → Q out
theorem pdo_listIt {x : Str} {e : Expr} {p apos pos2 pos : Pos} {me : ME} (hc : X.calm = true) (hm : X.mg x = none) (hv : bootBuiltins x = some (.type "list")) (h : PD X e me) (hg : Gl X x := by rfl) (hn : x ≠ "__name__" := by decide) (hdb : (x == ("__debug__" : Str)) = false := by decide)
    (hbase : attributeBase e "items" X.env (eval e X.env) = eval e X.env := by rfl) (hline : (apos.endLine == pos2.line) = true := by rfl)
    (he : starEach [.Call (.Attribute e "items" apos) [] [] pos2] X.env = (false, eval (.Call (.Attribute e "items" apos) [] [] pos2) X.env) :: starEach [] X.env := by rfl) (hpl : (backTo pos (starEach [] X.env)).any (·.1) = false := by rfl) :
    PDO X (.Call (.Name x p) [.Call (.Attribute e "items" apos) [] [] pos2] [] pos) (moListIt me) := by
  refine ⟨pe_imp (pe_callTy (cr_listItK hc) hg hm hv (pa_cons (pe_bm0 PySem.F.plainAttrs_dict PySem.F.slot_dict_items PySem.F.type_dict_items mt_itemsK h.run hbase hline) pa_nil he) hn hdb he hpl) fun σ H Q q => ?_,
    fun env Q Q' i q => h.mono env _ _ (fun d ⟨kd, a, q⟩ => ⟨kd, a, i _ q⟩) q⟩
  obtain ⟨z, C, env, o, r, q⟩ := q
  refine lift_use h.mono o r q fun d v C' H' ⟨kd, e1, k⟩ t dn => ?_
  subst e1
  obtain ⟨a, kvs, rfl, ha, kdv⟩ := dn_dicOf.mp dn
  have haH := t.ok.ex _ _ ha
  refine ⟨.inr (.inr (.inl ⟨rfl, .inl ⟨kvs, haH⟩⟩)), a, kvs, rfl, rfl, haH, fun p' hp => ?_⟩
  have hne : a ≠ p' := fun e => by rw [e, hp] at haH; cases haH
  have t2 : Tr z C' H' C' (upd H' p' (itemsO p' a)) := Tr.ext t.ok (Ex.new hp)
  exact ⟨z, C', p', a, kvs, kd, rfl, t2.ok, upd_same, by rw [upd_ne hne]; exact haH, kdv, fun outv l C2 H2 t3 h1 h2 dno => k l outv C2 _ (t.trans (t2.trans (t3.trans (Tr.ext t3.ok (Ex.new h1))))) ((t.trans t2).free h2) (fresh_back t3.ok.ex h1) upd_same dno⟩
theorem pdo_sortIt {x : Str} {e : Expr} {p apos pos2 pos : Pos} {me : ME} (hu : X.A.units + 70 < cLine) (hc : X.calm = true) (hm : X.mg x = none) (hv : bootBuiltins x = some (.builtin "sorted")) (h : PD X e me) (hg : Gl X x := by rfl) (hn : x ≠ "__name__" := by decide) (hdb : (x == ("__debug__" : Str)) = false := by decide)
    (hbase : attributeBase e "items" X.env (eval e X.env) = eval e X.env := by rfl) (hline : (apos.endLine == pos2.line) = true := by rfl)
    (he : starEach [.Call (.Attribute e "items" apos) [] [] pos2] X.env = (false, eval (.Call (.Attribute e "items" apos) [] [] pos2) X.env) :: starEach [] X.env := by rfl) (hpl : (backTo pos (starEach [] X.env)).any (·.1) = false := by rfl) :
    PDO X (.Call (.Name x p) [.Call (.Attribute e "items" apos) [] [] pos2] [] pos) (moSortIt me) := by
  refine ⟨pe_imp (pe_callB (cr_sortItK hc hu) hg hm hv (pa_cons (pe_bm0 PySem.F.plainAttrs_dict PySem.F.slot_dict_items PySem.F.type_dict_items mt_itemsK h.run hbase hline) pa_nil he) hn hdb he hpl) fun σ H Q q => ?_,
    fun env Q Q' i q => h.mono env _ _ (fun d ⟨kd, ltf, bb, a, b, c, e, q⟩ => ⟨kd, ltf, bb, a, b, c, e, fun out g1 g2 => i _ (q out g1 g2)⟩) q⟩
  obtain ⟨z, C, env, o, r, q⟩ := q
  refine lift_use h.mono o r q fun d v C' H' ⟨kd, ltf, bb, e1, g1, g2, g3, k⟩ t dn => ?_
  subst e1
  obtain ⟨a, kvs, rfl, ha, kdv⟩ := dn_dicOf.mp dn
  have haH := t.ok.ex _ _ ha
  refine ⟨.inr (.inr (.inl ⟨rfl, .inl ⟨kvs, haH⟩⟩)), a, kvs, rfl, rfl, haH, fun p' hp => ?_⟩
  have hne : a ≠ p' := fun e => by rw [e, hp] at haH; cases haH
  have t2 : Tr z C' H' C' (upd H' p' (itemsO p' a)) := Tr.ext t.ok (Ex.new hp)
  exact ⟨z, C', p', a, kvs, kd, ltf, bb, rfl, t2.ok, upd_same, by rw [upd_ne hne]; exact haH, kdv, g1, g2, g3, fun out outv l C2 H2 s1 s2 t3 h1 h2 dno => k out s1 s2 l outv C2 _ (t.trans (t2.trans (t3.trans (Tr.ext t3.ok (Ex.new h1))))) ((t.trans t2).free h2) (fresh_back t3.ok.ex h1) upd_same dno⟩
end
end BV

/-! One's own dict made of pairs; a list unpacked; several own things at once; list(range(n)). -/
namespace BV
open PySem PySem.Spec PyProof.Rows L2 Evl
section
variable {X : Cx} {pos : Pos}
/-- x = dict(pairs), one's own -/
def mOwnD (rs : List Nat) (i : Nat) (me : ME) : MS := fun E env => me (view rs 0 env) fun d => ∃ kd, dictD [d] = some (dicOf kd) ∧ E.nx ((aft rs d env).set i (some (true, dicOf kd)))
theorem pds_ownD (rs : List Nat) (i : Nat) {x : Str} {py p2 cpos : Pos} {e : Expr} {me : ME} (hN : X.N.Nodup) (hc : X.calm = true) (hm : X.mg "dict" = none) (h : PD X e me) (hi : X.N[i]? = some x := by rfl) (hx : Loc X.env.scope x := by first | exact Or.inl rfl | exact Or.inr rfl)
    (hg : Gl X "dict" := by rfl) (he : starEach [e] X.env = (false, eval e X.env) :: starEach [] X.env := by rfl) (hpl : (backTo cpos (starEach [] X.env)).any (·.1) = false := by rfl)
    (hs : swapsWith (.Call (.Name "dict" p2) [e] [] cpos) (some (.Name x py)) pos.line X.env = pure false := by rfl)
    (hf : X.fn x = true ∨ X.env.scope.names.lookup x = some .local := by first | exact .inl rfl | exact .inr rfl) : PDS X (.Assign [.Name x py] (.Call (.Name "dict" p2) [e] [] cpos) pos) (mOwnD rs i me) := by
  refine ⟨fun z C0 H0 Cb => ps_imp (ps_set hN hi hx (pe_callTy ((call_dictT hc).or (call_dictP hc)) hg hm (by rfl) (pa_cons h.run pa_nil he) (by decide) (by decide) he hpl) hs hf) fun N σ H ⟨C, env, s, q⟩ => ?_, fun E E' env l q => h.mono _ _ _ (fun d ⟨kd, a, q⟩ => ⟨kd, a, l.nx _ q⟩) q⟩
  refine s.use rs h.mono q fun d v C' H' ⟨kd, g, p⟩ s' dn => ?_
  have o := s'.tr.ok
  have fin : ∀ (ms : List (L2.Key × V)), KD X.K C' z.p kd (mergeK [] ms) → ∀ p', H' p' = none → N.nx (σ.set i (some (.ref p'))) (upd H' p' (.dK (mergeK [] ms))) := fun ms kdv p' hp => by
    have t : Tr z C' H' C' (upd H' p' (.dK (mergeK [] ms))) := Tr.ext o (Ex.new hp)
    exact p _ C' _ ((s'.next t).setOwnU i (fresh_back o.ex hp) upd_same (hl_dicOf.mpr ⟨_, rfl, kdv⟩) (s'.tr.free hp) (s'.fresh hp))
  unfold dictD at g
  split at g
  · rename_i ds e1
    cases e1
    obtain ⟨more, hm', e2⟩ := Option.map_eq_some_iff.mp g
    have ek : mergeD [] more = kd := by
      have h1 := congrArg (fun d => match d with | D.dic ks vs => ks.zip vs | _ => []) e2
      simpa [dicOf, List.zip_map', List.map_id''] using h1
    obtain ⟨a, ys, f1, f2, f3⟩ := dn_tupP.mp dn
    obtain ⟨ps, ms, g1, g2, g3⟩ := pairs_dn hm' f3
    subst g1
    subst f1
    exact .inl ⟨a, ps, ms, rfl, ex_p o.ex f2, Paired.imp' (fun _ _ h => ex_t o.ex h) g2, fin ms (ek ▸ KD.merge g3 (kd := []) (kvs := []) rfl)⟩
  · rename_i ds e1
    cases e1
    obtain ⟨more, hm', e2⟩ := Option.map_eq_some_iff.mp g
    have ek : mergeD [] more = kd := by
      have h1 := congrArg (fun d => match d with | D.dic ks vs => ks.zip vs | _ => []) e2
      simpa [dicOf, List.zip_map', List.map_id''] using h1
    obtain ⟨a, ys, f1, f2, f3⟩ := dn_lst.mp dn
    obtain ⟨ps, ms, g1, g2, g3⟩ := pairs_dn hm' f3
    subst g1
    subst f1
    exact .inr ⟨a, ps, ms, rfl, ex_l o.ex (sq_of f2), Paired.imp' (fun _ _ h => ex_t o.ex h) g2, fin ms (ek ▸ KD.merge g3 (kd := []) (kvs := []) rfl)⟩
  · cases g
/-- a, b, .. = a list -/
def mAsgTL (rs : List Nat) (is : List Nat) (me : ME) : MS := fun E env => me (view rs 0 env) fun d => ∃ ds env', d = .lst ds ∧ ds.length = is.length ∧ setsE shd is ds (aft rs d env) = some env' ∧ E.nx env'
theorem pds_asgTL (rs : List Nat) {is : List Nat} {es : List Expr} {kt : Nat} {tp : Pos} {e : Expr} {me : ME} (hc : X.calm = true) (h : PD X e me) (hg : PGs X es (gNs is)) (hn : (assignEach es X.env).length = is.length := by rfl) (hst : (assignEach es X.env).findIdx? (·.1) = none := by rfl)
    (hs : swapsWithSole [.Tuple es kt tp] e pos.line X.env = pure false := by rfl) (hw : swappedStores [.Tuple es kt tp] e X.env = pure none := by rfl)
    (h1 : (assignEach [.Tuple es kt tp] X.env).map (·.2) = [assign (.Tuple es kt tp) X.env] := by rfl) : PDS X (.Assign [.Tuple es kt tp] e pos) (mAsgTL rs is me) := by
  refine ⟨fun z C0 H0 Cb => ps_imp (ps_asg h.run (pg_lst hc hg hn hst) hs hw h1) fun N σ H ⟨C, env, s, q⟩ => ?_, fun E E' env l q => h.mono _ _ _ (fun d ⟨ds, env', a, b, c, q⟩ => ⟨ds, env', a, b, c, l.nx _ q⟩) q⟩
  refine s.use rs h.mono q fun d v C' H' ⟨ds, env', e1, e2, g, p⟩ s' dn => ?_
  subst e1
  obtain ⟨a, xs, rfl, ha, dns⟩ := dn_lst.mp dn
  exact ⟨a, xs, rfl, sq_of (s'.tr.ok.ex _ _ ha), by rw [dns.len, e2], s'.sets dns g fun σ' s2 => p _ C' H' s2⟩
end
end BV

/-! x, y = [], {}; x, y, z = {}, [], []; list(range(n)). -/
namespace BV
open PySem PySem.Spec PyProof.Rows L2 Evl
theorem ne_set {env : SEnv} {σ : L2.St} {i l : Nat} {d : D} {p q : Addr} (h : ∀ j e, env[j]? = some (some (true, e)) → σ[j]? = some (some (.ref q)) → j = l) (hpq : p ≠ q) : ∀ j e, (env.set i (some (true, d)))[j]? = some (some (true, e)) → (σ.set i (some (.ref p)))[j]? = some (some (.ref q)) → j = l := fun j e h1 h2 => by
  rcases get_set_eq h2 with ⟨_, h3, _⟩ | ⟨h3, h4⟩
  · cases h3
    exact absurd rfl hpq
  · rw [List.getElem?_set_ne (Ne.symm h3)] at h1
    exact h j e h1 h4
section
variable {X : Cx} {pos : Pos}
def mNewLD (i j : Nat) : MS := fun E env => E.nx ((env.set i (some (true, .lst []))).set j (some (true, dicOf [])))
theorem pds_newLD (i j : Nat) {x y : Str} {px py pt p1 p2 pt2 : Pos} {kt k2 : Nat} (hc : X.calm = true) (hN : X.N.Nodup) (hi : X.N[i]? = some x := by rfl) (hj : X.N[j]? = some y := by rfl) (hij : i ≠ j := by decide)
    (hx : X.env.scope.names.lookup x = some .local := by rfl) (hy : X.env.scope.names.lookup y = some .local := by rfl) (hw : swappedStores [.Tuple [.Name x px, .Name y py] kt pt] (.Tuple [.List [] p1, .Dict [] [] p2] k2 pt2) X.env = pure (some [x, y]) := by rfl)
    (hs : swapsWithSole [.Tuple [.Name x px, .Name y py] kt pt] (.Tuple [.List [] p1, .Dict [] [] p2] k2 pt2) pos.line X.env = pure false := by rfl)
    (sa : starEach [.List [] p1, .Dict [] [] p2] X.env = (false, eval (.List [] p1) X.env) :: starEach [.Dict [] [] p2] X.env := by rfl) (sb : starEach [.Dict [] [] p2] X.env = (false, eval (.Dict [] [] p2) X.env) :: starEach [] X.env := by rfl) :
    PDS X (.Assign [.Tuple [.Name x px, .Name y py] kt pt] (.Tuple [.List [] p1, .Dict [] [] p2] k2 pt2) pos) (mNewLD i j) := by
  refine ⟨fun z C0 H0 Cb => ps_imp (ps_par hc hN hi hj hij hx hy (pa_cons (pe_lst pa_nil) (pa_cons pe_dnewK pa_nil sb) sa) hw hs) fun N σ H ⟨C, env, s, q⟩ => ?_, fun E E' env l q => l.nx _ q⟩
  refine ⟨Nat.zero_le _, fun p hp q' hq => ?_⟩
  have t1 : Tr z C H C (upd H p (.lst [])) := Tr.ext s.tr.ok (Ex.new hp)
  have t2 : Tr z C (upd H p (.lst [])) C (upd (upd H p (.lst [])) q' (.dK [])) := Tr.ext t1.ok (Ex.new hq)
  have hpq : p ≠ q' := fun e => by rw [← e, upd_same] at hq; cases hq
  have hq0 : H q' = none := by rw [upd_ne (Ne.symm hpq)] at hq; exact hq
  have s2 := (s.next t1).next t2
  refine ⟨.ref p, .ref q', rfl, q _ C _ ?_⟩
  exact (s2.setOwn i (fresh_back s.tr.ok.ex hp) (by rw [upd_ne hpq]; exact upd_same) (dns_nil.mpr rfl) (s.tr.free hp) (s.fresh hp)).setOwnU j (fresh_back s.tr.ok.ex hq0) upd_same (hl_dicOf.mpr ⟨[], rfl, rfl⟩) (s.tr.free hq0) (ne_set (s.fresh hq0) hpq)
def mNewDLL (i j l : Nat) : MS := fun E env => E.nx (((env.set i (some (true, dicOf []))).set j (some (true, .lst []))).set l (some (true, .lst [])))
theorem pds_newDLL (i j l : Nat) {x y z' : Str} {px py pz pt p1 p2 p3 pt2 : Pos} {kt k2 : Nat} (hc : X.calm = true) (hN : X.N.Nodup) (hi : X.N[i]? = some x := by rfl) (hj : X.N[j]? = some y := by rfl) (hl : X.N[l]? = some z' := by rfl) (hij : i ≠ j := by decide) (hil : i ≠ l := by decide) (hjl : j ≠ l := by decide)
    (hx : X.env.scope.names.lookup x = some .local := by rfl) (hy : X.env.scope.names.lookup y = some .local := by rfl) (hz : X.env.scope.names.lookup z' = some .local := by rfl)
    (hw : swappedStores [.Tuple [.Name x px, .Name y py, .Name z' pz] kt pt] (.Tuple [.Dict [] [] p1, .List [] p2, .List [] p3] k2 pt2) X.env = pure (some [x, y, z']) := by rfl)
    (hs : swapsWithSole [.Tuple [.Name x px, .Name y py, .Name z' pz] kt pt] (.Tuple [.Dict [] [] p1, .List [] p2, .List [] p3] k2 pt2) pos.line X.env = pure false := by rfl)
    (sa : starEach [.Dict [] [] p1, .List [] p2, .List [] p3] X.env = (false, eval (.Dict [] [] p1) X.env) :: starEach [.List [] p2, .List [] p3] X.env := by rfl) (sb : starEach [.List [] p2, .List [] p3] X.env = (false, eval (.List [] p2) X.env) :: starEach [.List [] p3] X.env := by rfl)
    (sc : starEach [.List [] p3] X.env = (false, eval (.List [] p3) X.env) :: starEach [] X.env := by rfl) :
    PDS X (.Assign [.Tuple [.Name x px, .Name y py, .Name z' pz] kt pt] (.Tuple [.Dict [] [] p1, .List [] p2, .List [] p3] k2 pt2) pos) (mNewDLL i j l) := by
  refine ⟨fun z C0 H0 Cb => ps_imp (ps_par3 hc hN hi hj hl hij hil hjl hx hy hz (pa_cons pe_dnewK (pa_cons (pe_lst pa_nil) (pa_cons (pe_lst pa_nil) pa_nil sc) sb) sa) hw hs) fun N σ H ⟨C, env, s, q⟩ => ?_, fun E E' env l q => l.nx _ q⟩
  refine fun p hp => ⟨Nat.zero_le _, fun q' hq => ⟨Nat.zero_le _, fun r' hr => ?_⟩⟩
  have t1 : Tr z C H C (upd H p (.dK [])) := Tr.ext s.tr.ok (Ex.new hp)
  have t2 : Tr z C (upd H p (.dK [])) C (upd (upd H p (.dK [])) q' (.lst [])) := Tr.ext t1.ok (Ex.new hq)
  have t3 : Tr z C (upd (upd H p (.dK [])) q' (.lst [])) C (upd (upd (upd H p (.dK [])) q' (.lst [])) r' (.lst [])) := Tr.ext t2.ok (Ex.new hr)
  have hpq : p ≠ q' := fun e => by rw [← e, upd_same] at hq; cases hq
  have hqr : q' ≠ r' := fun e => by rw [← e, upd_same] at hr; cases hr
  have hr1 : upd H p (.dK []) r' = none := by rw [upd_ne (Ne.symm hqr)] at hr; exact hr
  have hpr : p ≠ r' := fun e => by rw [← e, upd_same] at hr1; cases hr1
  have hq0 : H q' = none := by rw [upd_ne (Ne.symm hpq)] at hq; exact hq
  have hr0 : H r' = none := by rw [upd_ne (Ne.symm hpr)] at hr1; exact hr1
  have s3 := ((s.next t1).next t2).next t3
  refine ⟨.ref p, .ref q', .ref r', rfl, q _ C _ ?_⟩
  exact ((s3.setOwnU (d := dicOf []) i (fresh_back s.tr.ok.ex hp) (by rw [upd_ne hpr, upd_ne hpq]; exact upd_same) (hl_dicOf.mpr ⟨[], rfl, rfl⟩) (s.tr.free hp) (s.fresh hp)).setOwn j (fresh_back s.tr.ok.ex hq0) (by rw [upd_ne hqr]; exact upd_same) (dns_nil.mpr rfl) (s.tr.free hq0) (ne_set (s.fresh hq0) hpq)).setOwn l (fresh_back s.tr.ok.ex hr0) upd_same (dns_nil.mpr rfl) (s.tr.free hr0)
    (ne_set (ne_set (s.fresh hr0) hpr) hqr)
/-- list(range(n)) -/
def moListRg (me : ME) : MA := fun env Q => me env fun d => ∃ n : Int, d = .int n ∧ -4000000 ≤ n ∧ n ≤ 4000000 ∧ Q (rngL 0 n.toNat)
theorem dns_rng {K : PySem.W.Frag} {C : Hp} {pu : Addr} (n : Int) : Dns K C pu (rngL 0 n.toNat) (rgV 0 n) := by
  unfold rngL rgV
  have : ∀ l : List Nat, Dns K C pu (l.map fun (i : Nat) => D.int (0 + (i : Nat))) (l.map fun (i : Nat) => V.int (0 + (i : Nat))) := by
    intro l
    induction l with
    | nil => exact dns_nil.mpr rfl
    | cons a l ih => exact dns_cons.mpr ⟨_, _, rfl, dn_int.mpr rfl, ih⟩
  have e : (n - 0).toNat = n.toNat := by rw [Int.sub_zero]
  rw [e]
  simpa using this (List.range n.toNat)
theorem pdo_listRg {e : Expr} {me : ME} {p p2 pos2 : Pos} (hc : X.calm = true) (hm : X.mg "list" = none) (hmr : X.mg "range" = none) (h : PD X e me) (hg : Gl X "list" := by rfl) (hgr : Gl X "range" := by rfl) (na : starEach [e] X.env = (false, eval e X.env) :: starEach [] X.env := by rfl)
    (nb : starEach [.Call (.Name "range" p2) [e] [] pos2] X.env = (false, eval (.Call (.Name "range" p2) [e] [] pos2) X.env) :: starEach [] X.env := by rfl) : PDO X (.Call (.Name "list" p) [.Call (.Name "range" p2) [e] [] pos2] [] pos) (moListRg me) := by
  refine ⟨pe_imp (pe_listRg hc hg hm (prg_1 hgr hmr h.run na) nb) fun σ H Q q => ?_, fun env Q Q' i q => h.mono env _ _ (fun d ⟨n, a, b, c, q⟩ => ⟨n, a, b, c, i _ q⟩) q⟩
  obtain ⟨z, C, env, o, r, q⟩ := q
  refine lift_use h.mono o r q fun d v C' H' ⟨n, e1, g1, g2, k⟩ t dn => ?_
  subst e1
  refine ⟨n, dn_int.mp dn, ⟨by decide, by decide, by omega, by omega, by omega⟩, fun p' hp => ?_⟩
  exact k p' _ C' _ (t.trans (Tr.ext t.ok (Ex.new hp))) (t.free hp) (fresh_back t.ok.ex hp) upd_same (dns_rng n)
end
end BV

/-! in a list or a tuple; three keywords the other way round. -/
namespace BV
open PySem PySem.Spec PyProof.Rows L2 Evl
def inA (neg : Bool) : D → D → Option D
  | d, .lst es => if okEq d = true ∧ okEq (.lst es) = true then some (.bl (if neg then !((D.pys es).any fun z => PyData.eqv z d.py) else (D.pys es).any fun z => PyData.eqv z d.py)) else none
  | d, .tup es => if okEq d = true ∧ okEq (.tup es) = true then some (.bl (if neg then !((D.pys es).any fun z => PyData.eqv z d.py) else (D.pys es).any fun z => PyData.eqv z d.py)) else none
  | _, _ => none
section
variable {X : Cx} {pos : Pos}
theorem opd_inA (hu : X.A.units + 65 < cLine) : OpD X (compareOp .In) (inA false) := by
  refine OpD.of _ ((op_inD hu).or (op_inT hu)) fun z C H d e u x y Q o dx dy g k => ?_
  cases e with
  | lst es =>
    obtain ⟨⟨h1, h2⟩, rfl⟩ := ite_of g
    exact .inl ⟨d.py, D.pys es, dx.dp o.ex d x (okEq_of h1).1, dy.dp o.ex (.lst es) y (okEq_of h2).1, (okEq_of h1).2, (okEq_of h2).2, k _ C H (Tr.refl o) (dn_bl.mpr rfl)⟩
  | tup es =>
    obtain ⟨⟨h1, h2⟩, rfl⟩ := ite_of g
    exact .inr ⟨d.py, D.pys es, dx.dp o.ex d x (okEq_of h1).1, dy.dp o.ex (.tup es) y (okEq_of h2).1, (okEq_of h1).2, (okEq_of h2).2, k _ C H (Tr.refl o) (dn_bl.mpr rfl)⟩
  | _ => cases g
theorem opd_notinA (hu : X.A.units + 65 < cLine) : OpD X (compareOp .NotIn) (inA true) := by
  refine OpD.of _ ((op_notInD hu).or (op_notInT hu)) fun z C H d e u x y Q o dx dy g k => ?_
  cases e with
  | lst es =>
    obtain ⟨⟨h1, h2⟩, rfl⟩ := ite_of g
    exact .inl ⟨d.py, D.pys es, dx.dp o.ex d x (okEq_of h1).1, dy.dp o.ex (.lst es) y (okEq_of h2).1, (okEq_of h1).2, (okEq_of h2).2, k _ C H (Tr.refl o) (dn_bl.mpr rfl)⟩
  | tup es =>
    obtain ⟨⟨h1, h2⟩, rfl⟩ := ite_of g
    exact .inr ⟨d.py, D.pys es, dx.dp o.ex d x (okEq_of h1).1, dy.dp o.ex (.tup es) y (okEq_of h2).1, (okEq_of h1).2, (okEq_of h2).2, k _ C H (Tr.refl o) (dn_bl.mpr rfl)⟩
  | _ => cases g
/-! ### three keywords, the other way round -/
def sw3 {α : Type} : List α → List α
  | [a, b, c] => [c, b, a]
  | l => l
theorem Fun.kwbR {K : PySem.W.Frag} {x qual : Str} {st : Stmt} {f : Addr} {fd : FuncData} {ps ks : List Str} (F : Fun K x qual st f fd) (h2 : ks.length = 3)
    (h : ∀ (kV doc pm : Value) (an : Option Addr) (cdv ct : Value) (v u t : Value), bindArgs (PySem.W.fnOf x qual (defArgs st) (defBody st) (defScope st) .none kV doc pm an cdv ct) ⟨[], ks.zip [v, u, t]⟩ = pure (ps.zip [t, u, v])) : KwB K fd ps ks sw3 sw3 := by
  obtain ⟨oc, od, kV, doc, pm, an, cdv, ct, osl, rfl, lk, hcd⟩ := F.ex
  refine ⟨fun s ws _ hl _ => ?_, fun {zs ws} r => ?_⟩
  · rw [h2] at hl
    match ws, hl with
    | [v, u, t], _ => exact .of_eq (h kV doc pm an cdv ct v u t)
  · match zs, ws, r with
    | _, _, .nil => exact .nil
    | _, _, .cons a .nil => exact .cons a .nil
    | _, _, .cons a (.cons b .nil) => exact .cons a (.cons b .nil)
    | _, _, .cons a (.cons b (.cons c .nil)) => exact .cons c (.cons b (.cons a .nil))
    | _, _, .cons a (.cons b (.cons c (.cons d r))) => exact .cons a (.cons b (.cons c (.cons d r)))
structure KnR (P : Program) (w : World) (K : PySem.W.Frag) (mg : Str → Option Value) (base : Heap) (x : Str) (k : Nat) (ps ks : List Str) (sp : SpD) : Prop where
  ex : ∃ (f : Addr) (fd : FuncData), FnD P w K mg base k f fd ps sp ∧ PySem.W.keepIn K (.ref f) = true ∧ mg x = some (.ref f) ∧ KwB K fd ps ks sw3 sw3
theorem KnR.says {P : Program} {w : World} {K : PySem.W.Frag} {mg : Str → Option Value} {base : Heap} {x : Str} {k : Nat} {ps ks : List Str} {sp sp' : SpD} (F : KnR P w K mg base x k ps ks sp) (h : ∀ ds T, sp' ds T → sp ds T) : KnR P w K mg base x k ps ks sp' := by
  obtain ⟨f, fd, a, b⟩ := F.ex
  exact ⟨f, fd, a.says h, b⟩
def mCallR (sp : SpD) (m : MA) : ME := fun env Q => m env fun ds => ds.length = 3 ∧ ∃ T : D → Prop, sp (sw3 ds) T ∧ ∀ d, T d → Q d
theorem pd_callNR {j k : Nat} {ps ks : List Str} {sp : SpD} {x : Str} {p : Pos} {kws : List Keyword} {m : MA} (G : KnR X.prog X.w X.K X.mg X.base x j ps ks sp) (hr : Room k X.A) (hj : j ≤ k) (hgd : X.A.guards = some []) (h : PDK X kws m) (h2 : ks.length = 3 := by rfl)
    (hall : (backToKw pos (keywordEach kws X.env)).all (·.1.isSome) = true := by rfl) (hks : (backToKw pos (keywordEach kws X.env)).filterMap (·.1) = ks := by rfl) (hg : Gl X x := by rfl) (hdb : (x == ("__debug__" : Str)) = false := by decide)
    (hpl : ((backTo pos (starEach [] X.env)).any (·.1) || (backToKw pos (keywordEach kws X.env)).any (·.1.isNone)) = false := by rfl) : PD X (.Call (.Name x p) [] kws pos) (mCallR sp m) := by
  obtain ⟨f, fd, F, kp, gm, kb⟩ := G.ex
  refine ⟨pe_imp (pe_callGK F (hr.mono hj) hgd hg gm kp kb pass0 h.run hall hks hdb hpl) fun σ H Q q => ?_, fun env Q Q' i q => h.mono env _ _ (fun ds ⟨a, T, q, k⟩ => ⟨a, T, q, fun d hT => i d (k d hT)⟩) q⟩
  obtain ⟨z, C, env, o, r, q⟩ := q
  refine liftA_use h.mono o r q fun ds vs C' H' ⟨hl, p⟩ t dn => ?_
  match ds, hl with
  | [d, e, g], _ =>
    obtain ⟨v, r1, e1, e2, e3⟩ := dns_cons.mp dn
    obtain ⟨w, u, f1, f2, f3⟩ := dns2 e3
    subst f1
    subst e1
    refine ⟨by rw [h2]; rfl, ?_⟩
    show liftF X.K sp [u, w, v] H' Q E0
    exact call_use t (dns_cons.mpr ⟨u, [w, v], rfl, f3, dns_cons.mpr ⟨w, [v], rfl, f2, Dns.one e2⟩⟩) p
end
end BV

/-! e not in a dict, as a test; several own things at once by way of a tuple (cells). -/
namespace BV
open PySem PySem.Spec PyProof.Rows L2 Evl
section
variable {X : Cx} {pos : Pos} {e o : Expr} {me mo : ME}
theorem pdt_din (hu : X.A.units + 64 < cLine) (he : PD X e me) (ho : PD X o mo) (h1 : behindInMarks .In o = false := by rfl) : PDT X (.Compare e [.In] [o] pos) (tBl (mDin false me mo)) :=
  ⟨pt_imp (pt_cmp (pc_din (by omega) he.run ho.run) h1) fun σ H Q q => din_use (neg := false) ho.mono he.mono (lift_bl (mono_din ho.mono he.mono) q), mono_bl (mono_din ho.mono he.mono)⟩
theorem pdt_dnotin (hu : X.A.units + 64 < cLine) (he : PD X e me) (ho : PD X o mo) (h1 : behindInMarks .NotIn o = false := by rfl) : PDT X (.Compare e [.NotIn] [o] pos) (tBl (mDin true me mo)) :=
  ⟨pt_imp (pt_cmp (pc_dnotin (by omega) he.run ho.run) h1) fun σ H Q q => din_use (neg := true) ho.mono he.mono (lift_bl (mono_din ho.mono he.mono) q), mono_bl (mono_din ho.mono he.mono)⟩
theorem pds_ttLD (i j : Nat) {tg : Expr} {p1 p2 pt2 : Pos} {k2 : Nat} (hg : PG X tg ((Tgt.tp [i, j]).g X.K)) (hs : swapsWithSole [tg] (.Tuple [.List [] p1, .Dict [] [] p2] k2 pt2) pos.line X.env = pure false := by rfl)
    (hw : swappedStores [tg] (.Tuple [.List [] p1, .Dict [] [] p2] k2 pt2) X.env = pure none := by rfl) (h3 : (assignEach [tg] X.env).map (·.2) = [assign tg X.env] := by rfl)
    (sa : starEach [.List [] p1, .Dict [] [] p2] X.env = (false, eval (.List [] p1) X.env) :: starEach [.Dict [] [] p2] X.env := by rfl) (sb : starEach [.Dict [] [] p2] X.env = (false, eval (.Dict [] [] p2) X.env) :: starEach [] X.env := by rfl) :
    PDS X (.Assign [tg] (.Tuple [.List [] p1, .Dict [] [] p2] k2 pt2) pos) (mNewLD i j) := by
  refine ⟨fun z C0 H0 Cb => ps_imp (ps_asg (pe_tup (pa_cons (pe_lst pa_nil) (pa_cons pe_dnewK pa_nil sb) sa)) hg hs hw h3) fun N σ H ⟨C, env, s, q⟩ => ?_, fun E E' env l q => l.nx _ q⟩
  refine ⟨Nat.zero_le _, fun p hp q' hq => ⟨by rw [sizeLine_eq]; show 2 ≤ _; decide, fun r' hr => ?_⟩⟩
  have t1 : Tr z C H C (upd H p (.lst [])) := Tr.ext s.tr.ok (Ex.new hp)
  have t2 : Tr z C (upd H p (.lst [])) C (upd (upd H p (.lst [])) q' (.dK [])) := Tr.ext t1.ok (Ex.new hq)
  have t3 : Tr z C (upd (upd H p (.lst [])) q' (.dK [])) C (upd (upd (upd H p (.lst [])) q' (.dK [])) r' (.tup [.ref p, .ref q'])) := Tr.ext t2.ok (Ex.new hr)
  have hpq : p ≠ q' := fun e => by rw [← e, upd_same] at hq; cases hq
  have hqr : q' ≠ r' := fun e => by rw [← e, upd_same] at hr; cases hr
  have hr1 : upd H p (.lst []) r' = none := by rw [upd_ne (Ne.symm hqr)] at hr; exact hr
  have hpr : p ≠ r' := fun e => by rw [← e, upd_same] at hr1; cases hr1
  have hq0 : H q' = none := by rw [upd_ne (Ne.symm hpq)] at hq; exact hq
  have s3 := ((s.next t1).next t2).next t3
  refine ⟨r', [.ref p, .ref q'], rfl, st_of upd_same, rfl, .ref p, [.ref q'], rfl, .ref q', [], rfl, rfl, q _ C _ ?_⟩
  exact (s3.setOwn i (fresh_back s.tr.ok.ex hp) (by rw [upd_ne hpr, upd_ne hpq]; exact upd_same) (dns_nil.mpr rfl) (s.tr.free hp) (s.fresh hp)).setOwnU (d := dicOf []) j (fresh_back s.tr.ok.ex hq0) (by rw [upd_ne hqr]; exact upd_same) (hl_dicOf.mpr ⟨[], rfl, rfl⟩) (s.tr.free hq0) (ne_set (s.fresh hq0) hpq)
theorem pds_ttDLL (i j l : Nat) {tg : Expr} {p1 p2 p3 pt2 : Pos} {k2 : Nat} (hg : PG X tg ((Tgt.tp [i, j, l]).g X.K)) (hs : swapsWithSole [tg] (.Tuple [.Dict [] [] p1, .List [] p2, .List [] p3] k2 pt2) pos.line X.env = pure false := by rfl)
    (hw : swappedStores [tg] (.Tuple [.Dict [] [] p1, .List [] p2, .List [] p3] k2 pt2) X.env = pure none := by rfl) (h3 : (assignEach [tg] X.env).map (·.2) = [assign tg X.env] := by rfl)
    (sa : starEach [.Dict [] [] p1, .List [] p2, .List [] p3] X.env = (false, eval (.Dict [] [] p1) X.env) :: starEach [.List [] p2, .List [] p3] X.env := by rfl) (sb : starEach [.List [] p2, .List [] p3] X.env = (false, eval (.List [] p2) X.env) :: starEach [.List [] p3] X.env := by rfl)
    (sc : starEach [.List [] p3] X.env = (false, eval (.List [] p3) X.env) :: starEach [] X.env := by rfl) :
    PDS X (.Assign [tg] (.Tuple [.Dict [] [] p1, .List [] p2, .List [] p3] k2 pt2) pos) (mNewDLL i j l) := by
  refine ⟨fun z C0 H0 Cb => ps_imp (ps_asg (pe_tup (pa_cons pe_dnewK (pa_cons (pe_lst pa_nil) (pa_cons (pe_lst pa_nil) pa_nil sc) sb) sa)) hg hs hw h3) fun N σ H ⟨C, env, s, q⟩ => ?_, fun E E' env l q => l.nx _ q⟩
  refine fun p hp => ⟨Nat.zero_le _, fun q' hq => ⟨Nat.zero_le _, fun r' hr => ⟨by rw [sizeLine_eq]; show 3 ≤ _; decide, fun u' hu' => ?_⟩⟩⟩
  have t1 : Tr z C H C (upd H p (.dK [])) := Tr.ext s.tr.ok (Ex.new hp)
  have t2 : Tr z C (upd H p (.dK [])) C (upd (upd H p (.dK [])) q' (.lst [])) := Tr.ext t1.ok (Ex.new hq)
  have t3 : Tr z C (upd (upd H p (.dK [])) q' (.lst [])) C (upd (upd (upd H p (.dK [])) q' (.lst [])) r' (.lst [])) := Tr.ext t2.ok (Ex.new hr)
  have t4 : Tr z C (upd (upd (upd H p (.dK [])) q' (.lst [])) r' (.lst [])) C (upd (upd (upd (upd H p (.dK [])) q' (.lst [])) r' (.lst [])) u' (.tup [.ref p, .ref q', .ref r'])) := Tr.ext t3.ok (Ex.new hu')
  have hpq : p ≠ q' := fun e => by rw [← e, upd_same] at hq; cases hq
  have hqr : q' ≠ r' := fun e => by rw [← e, upd_same] at hr; cases hr
  have hr1 : upd H p (.dK []) r' = none := by rw [upd_ne (Ne.symm hqr)] at hr; exact hr
  have hpr : p ≠ r' := fun e => by rw [← e, upd_same] at hr1; cases hr1
  have hq0 : H q' = none := by rw [upd_ne (Ne.symm hpq)] at hq; exact hq
  have hr0 : H r' = none := by rw [upd_ne (Ne.symm hpr)] at hr1; exact hr1
  have hru : r' ≠ u' := fun e => by rw [← e, upd_same] at hu'; cases hu'
  have hu1 : upd (upd H p (.dK [])) q' (.lst []) u' = none := by rw [upd_ne (Ne.symm hru)] at hu'; exact hu'
  have hqu : q' ≠ u' := fun e => by rw [← e, upd_same] at hu1; cases hu1
  have hu2 : upd H p (.dK []) u' = none := by rw [upd_ne (Ne.symm hqu)] at hu1; exact hu1
  have hpu : p ≠ u' := fun e => by rw [← e, upd_same] at hu2; cases hu2
  have s3 := (((s.next t1).next t2).next t3).next t4
  refine ⟨u', [.ref p, .ref q', .ref r'], rfl, st_of upd_same, rfl, .ref p, [.ref q', .ref r'], rfl, .ref q', [.ref r'], rfl, .ref r', [], rfl, rfl, q _ C _ ?_⟩
  exact ((s3.setOwnU (d := dicOf []) i (fresh_back s.tr.ok.ex hp) (by rw [upd_ne hpu, upd_ne hpr, upd_ne hpq]; exact upd_same) (hl_dicOf.mpr ⟨[], rfl, rfl⟩) (s.tr.free hp) (s.fresh hp)).setOwn j (fresh_back s.tr.ok.ex hq0) (by rw [upd_ne hqu, upd_ne hqr]; exact upd_same) (dns_nil.mpr rfl) (s.tr.free hq0) (ne_set (s.fresh hq0) hpq)).setOwn l (fresh_back s.tr.ok.ex hr0) (by rw [upd_ne hru]; exact upd_same) (dns_nil.mpr rfl) (s.tr.free hr0)
    (ne_set (ne_set (s.fresh hr0) hpr) hqr)
end
end BV

/-! Methods of a word without arguments; names of the module that stand for a number. -/
namespace BV
open PySem PySem.Spec PyProof.Rows L2 Evl
section
variable {X : Cx} {o : Expr} {m : ME} {pos apos cpos : Pos}
def mStM (g : Str → D) (m : ME) : ME := fun env Q => m env fun d => ∃ s, d = .str s ∧ Q (g s)
theorem pd_stM {name : Str} {id : String} {g : Str → D} {gv : Str → V} (slot : PySem.Slot "str" name id) (hty : typeOf (.builtin id) = pure (.type "method_descriptor")) (hm : MtR X id (fun x xs H Q => ∃ a, x = .str a ∧ xs = [] ∧ True ∧ Q (gv a) H))
    (hg : ∀ (C : Hp) (p : Addr) (s : Str), Dn X.K C p (g s) (gv s)) (ho : PD X o m) (h1 : attributeBase o name X.env (eval o X.env) = eval o X.env := by rfl) (h2 : (apos.endLine == cpos.line) = true := by rfl) : PD X (.Call (.Attribute o name apos) [] [] cpos) (mStM g m) := by
  refine ⟨pe_imp (pe_bm0 PySem.F.plainAttrs_str slot hty hm ho.run h1 h2) fun σ H Q q => ?_, fun env Q Q' i q => ho.mono _ _ _ (fun d ⟨s, e, q⟩ => ⟨s, e, i _ q⟩) q⟩
  obtain ⟨z, C, env, o', r, q⟩ := q
  refine lift_use ho.mono o' r q fun d v C' H' ⟨s, e, p⟩ t dn => ?_
  subst e
  rw [dn_str.mp dn]
  exact ⟨by first | rfl | trivial | exact .inl ⟨rfl, _, rfl⟩ | simp [tyV], s, rfl, rfl, trivial, p (gv s) C' H' t (hg _ _ _)⟩
theorem pd_isascii (ho : PD X o m) (h1 : attributeBase o "isascii" X.env (eval o X.env) = eval o X.env := by rfl) (h2 : (apos.endLine == cpos.line) = true := by rfl) : PD X (.Call (.Attribute o "isascii" apos) [] [] cpos) (mStM (fun s => .bl (Txt.isascii s)) m) :=
  pd_stM PySem.F.slot_str_isascii PySem.F.type_str_isascii (gv := fun s => .bl (Txt.isascii s)) mt_isascii (fun _ _ _ => dn_bl.mpr rfl) ho h1 h2
theorem pd_islower (ho : PD X o m) (h1 : attributeBase o "islower" X.env (eval o X.env) = eval o X.env := by rfl) (h2 : (apos.endLine == cpos.line) = true := by rfl) : PD X (.Call (.Attribute o "islower" apos) [] [] cpos) (mStM (fun s => .bl (Txt.islower s)) m) :=
  pd_stM PySem.F.slot_str_islower PySem.F.type_str_islower (gv := fun s => .bl (Txt.islower s)) mt_islower (fun _ _ _ => dn_bl.mpr rfl) ho h1 h2
theorem pd_isalpha (ho : PD X o m) (h1 : attributeBase o "isalpha" X.env (eval o X.env) = eval o X.env := by rfl) (h2 : (apos.endLine == cpos.line) = true := by rfl) : PD X (.Call (.Attribute o "isalpha" apos) [] [] cpos) (mStM (fun s => .bl (Txt.isalpha s)) m) :=
  pd_stM PySem.F.slot_str_isalpha PySem.F.type_str_isalpha (gv := fun s => .bl (Txt.isalpha s)) mt_isalpha (fun _ _ _ => dn_bl.mpr rfl) ho h1 h2
theorem pd_isdigit (ho : PD X o m) (h1 : attributeBase o "isdigit" X.env (eval o X.env) = eval o X.env := by rfl) (h2 : (apos.endLine == cpos.line) = true := by rfl) : PD X (.Call (.Attribute o "isdigit" apos) [] [] cpos) (mStM (fun s => .bl (Txt.isdigit s)) m) :=
  pd_stM PySem.F.slot_str_isdigit PySem.F.type_str_isdigit (gv := fun s => .bl (Txt.isdigit s)) mt_isdigit (fun _ _ _ => dn_bl.mpr rfl) ho h1 h2
/-- a name of the module that stands for a number -/
theorem pd_gint {x : Str} {n : Int} (hg : Gl X x) (hm : ∃ u, X.mg x = some u ∧ RelV (.int n) u) (hd : (x == ("__debug__" : Str)) = false := by decide) : PD X (.Name x pos) (mC (.int n)) := by
  obtain ⟨u, h1, h2⟩ := hm
  exact pd_const (pe_glob hg h1 h2 hd) fun _ _ _ => dn_int.mpr rfl
end
end BV

/-! a < b < c on data. -/
namespace BV
open PySem PySem.Spec PyProof.Rows L2 Evl
section
variable {X : Cx} {a b c : Expr} {ma mb mc : ME} {pos : Pos}
def mChain (g g' : D → D → Option D) (ma mb mc : ME) : ME := fun env Q => ma env fun x => mb env fun y => ∃ k, g x y = some (.bl k) ∧ if k = true then mc env fun w => ∃ u, g' y w = some u ∧ Q u else Q (.bl false)
theorem mono_chain {g g' : D → D → Option D} (ha : Mono ma) (hb : Mono mb) (hc : Mono mc) : Mono (mChain g g' ma mb mc) := fun env Q Q' i h =>
  ha env _ _ (fun x h => hb env _ _ (fun y ⟨k, e, h⟩ => ⟨k, e, by
    cases k with
    | true => exact hc env _ _ (fun w ⟨u, e, h⟩ => ⟨u, e, i u h⟩) h
    | false => exact i _ h⟩) h) h
theorem pd_chain {op op' : CmpOp} {g g' : D → D → Option D} (ho : OpD X (compareOp op) g) (ho' : OpD X (compareOp op') g') (ha : PD X a ma) (hb : PD X b mb) (hc : PD X c mc)
    (hm : lastMarks [op, op'] [b, c] = false := by with_unfolding_all rfl) : PD X (.Compare a [op, op'] [b, c] pos) (mChain g g' ma mb mc) := by
  obtain ⟨R, hR, hi⟩ := ho
  obtain ⟨R', hR', hi'⟩ := ho'
  refine ⟨pe_imp (pe_chain hR hR' ha.run hb.run hc.run hm) fun σ H Q q => ?_, mono_chain ha.mono hb.mono hc.mono⟩
  obtain ⟨z, C, env, o, r, q⟩ := q
  refine two (ta := lift X.K ma) (tb := lift X.K mb) o r ha.mono hb.mono q fun x y v u C' H' ⟨k, e, q⟩ t d1 d2 => hi z C' H' x y _ v u _ t.ok d1 d2 e fun v' C2 H2 t2 dn => ⟨k, dn_bl.mp dn, ?_⟩
  cases k with
  | false => exact (if_neg (by decide) : (if false = true then _ else _) = _) ▸ q (.bl false) C2 H2 (t.trans t2) (dn_bl.mpr rfl)
  | true =>
    rw [if_pos rfl] at q ⊢
    exact lift_use hc.mono t2.ok (r.mono (t.trans t2).cc) q fun d v'' C3 H3 ⟨u', e', p⟩ t3 d3 => hi' z C3 H3 y d u' u v'' Q t3.ok (d2.mono (t2.trans t3).cc) d3 e' fun v4 C4 H4 t4 dn4 => p v4 C4 H4 (((t.trans t2).trans t3).trans t4) dn4
theorem pdt_chain {op op' : CmpOp} {g g' : D → D → Option D} (ho : OpD X (compareOp op) g) (ho' : OpD X (compareOp op') g') (ha : PD X a ma) (hb : PD X b mb) (hc : PD X c mc)
    (hm : lastMarks [op, op'] [b, c] = false := by with_unfolding_all rfl) : PDT X (.Compare a [op, op'] [b, c] pos) (tBl (mChain g g' ma mb mc)) := by
  obtain ⟨R, hR, hi⟩ := ho
  obtain ⟨R', hR', hi'⟩ := ho'
  refine ⟨pt_imp (pt_chain hR hR' ha.run hb.run hc.run hm) fun σ H Q q => ?_, mono_bl (mono_chain ha.mono hb.mono hc.mono)⟩
  obtain ⟨z, C, env, o, r, q⟩ := q
  refine two (ta := lift X.K ma) (tb := lift X.K mb) o r ha.mono hb.mono q fun x y v u C' H' ⟨k, e, q⟩ t d1 d2 => hi z C' H' x y _ v u _ t.ok d1 d2 e fun v' C2 H2 t2 dn => ⟨k, dn_bl.mp dn, ?_⟩
  cases k with
  | false =>
    rw [if_neg (by decide)] at q ⊢
    obtain ⟨j, e, q⟩ := q
    exact ⟨j, by cases e; rfl, q C2 H2 (t.trans t2)⟩
  | true =>
    rw [if_pos rfl] at q ⊢
    exact lift_use hc.mono t2.ok (r.mono (t.trans t2).cc) q fun d v'' C3 H3 ⟨u', e', j, e2, p⟩ t3 d3 => hi' z C3 H3 y d u' u v'' _ t3.ok (d2.mono (t2.trans t3).cc) d3 e' fun v4 C4 H4 t4 dn4 => ⟨j, dn_bl.mp (e2 ▸ dn4), p C4 H4 (((t.trans t2).trans t3).trans t4)⟩
end
end BV

/-! x.partition(s); a, b, .. = a tuple. -/
namespace BV
open PySem PySem.Spec PyProof.Rows L2 Evl
section
variable {X : Cx} {pins : List (Addr × Obj)} {σ : L2.St} {H : Hp} {s : Shared} {Q : VK}
theorem laid_partsF {x y z : Str} {t u v : Tok} {k : Nat} (I : Inv X pins σ H s) (h : ∀ p ob, ob.dict = none → H p = none → Q (.ref p) (upd H p (.frz ob (.tup [.str x, .str y, .str z])))) :
    EP X pins σ Q (.ref s.heap.objs.size) { s with toks := k, heap := s.heap.push { cls := .type "tuple", data := .seq [Value.str x t, .str y u, .str z v].toArray } } := by
  have hp := I.hok.fresh (Nat.le_refl _)
  refine ⟨.ref s.heap.objs.size, upd H s.heap.objs.size (.frz { cls := .type "tuple", data := .seq [Value.str x t, .str y u, .str z v].toArray } (.tup [.str x, .str y, .str z])), I.laid (fun b u q => Heap.get?_push_of_some _ q) (Nat.le_refl _) ?_, rfl, h _ _ rfl hp⟩
  exact ⟨Heap.get?_push_size _ rfl, by show 3 ≤ sizeLine; decide, [Value.str x t, .str y u, .str z v], .cons ⟨t, rfl⟩ (.cons ⟨u, rfl⟩ (.cons ⟨v, rfl⟩ .nil)), ⟨_, Heap.get?_push_size _ rfl, rfl, _, rfl⟩⟩
theorem mt_partitionF : MtR X "str.partition" (fun x xs H Q => ∃ a b, x = .str a ∧ xs = [.str b] ∧ (b.length == 0) = false ∧ a.length ≤ sizeLine ∧
    ∀ p ob, ob.dict = none → H p = none → Q (.ref p) (upd H p (.frz ob (.tup [.str (Txt.partition a b).1, .str (Txt.partition a b).2.1, .str (Txt.partition a b).2.2])))) := by
  intro pins s σ H x xs v us Q I rx rs h
  obtain ⟨a, b, rfl, rfl, hb, hz, h⟩ := h
  obtain ⟨t, rfl⟩ := rx
  cases rs with
  | cons r1 rs =>
    cases rs
    obtain ⟨u, rfl⟩ := r1
    refine call_meets PySem.F.slot_str_partition (typeIs_str _ _ _) PySem.F.entry_str_partition (PySem.F.args_str_partition_2 _ _) (meets_str_partition a b t u hb hz) ?_
    unfold Txt.partition at h
    revert h
    cases Builtin.Str.occurrences a b 0 a.length 1 with
    | nil => intro h; exact laid_partsF I h
    | cons i r => intro h; exact laid_partsF I h
end
section
variable {X : Cx} {o e : Expr} {mo me : ME} {pos apos cpos : Pos}
def mPart (mo me : ME) : ME := fun env Q => mo env fun d => ∃ a, d = .str a ∧ me env fun d' => ∃ b, d' = .str b ∧ (b.length == 0) = false ∧ szOk a.length = true ∧ Q (.tup [.str (Txt.partition a b).1, .str (Txt.partition a b).2.1, .str (Txt.partition a b).2.2])
theorem pd_partition (ho : PD X o mo) (he : PD X e me) (h1 : attributeBase o "partition" X.env (eval o X.env) = eval o X.env := by rfl)
    (h2 : ((((backTo cpos (starEach [e] X.env)).all fun x => !x.1) && ((backToKw cpos (keywordEach [] X.env)).all fun x => x.1.isSome) && decide (([e] : List Expr).length + ([] : List Keyword).length + (if ([] : List Keyword).isEmpty = true then 0 else 1) < 30)) = true) := by rfl)
    (h3 : (apos.endLine == cpos.line) = true := by rfl) (h4 : starEach [e] X.env = (false, eval e X.env) :: starEach [] X.env := by rfl) (h5 : ((backTo cpos (starEach [] X.env)).any fun x => x.1) = false := by rfl) :
    PD X (.Call (.Attribute o "partition" apos) [e] [] cpos) (mPart mo me) := by
  refine ⟨pe_imp (pe_bm PySem.F.plainAttrs_str PySem.F.slot_str_partition PySem.F.type_str_partition mt_partitionF ho.run (pa_cons he.run pa_nil h4) h1 h2 h3 h4 h5) fun σ H Q q => ?_,
    fun env Q Q' i q => ho.mono _ _ _ (fun d ⟨a, e1, q⟩ => ⟨a, e1, he.mono _ _ _ (fun d' ⟨b, e2, e3, e4, q⟩ => ⟨b, e2, e3, e4, i _ q⟩) q⟩) q⟩
  obtain ⟨z, C, env, o', r, q⟩ := q
  refine lift_use ho.mono o' r q fun d v C' H' ⟨a, e1, q⟩ t dn => ?_
  subst e1
  rw [dn_str.mp dn]
  refine ⟨rfl, lift_use he.mono t.ok (r.mono t.cc) q fun d' v' C2 H2 ⟨b, e2, e3, e4, p⟩ t2 dn2 => ?_⟩
  subst e2
  exact ⟨a, b, rfl, by rw [dn_str.mp dn2], e3, sz_ok e4, fun p' ob hd hp => p _ _ _ ((t.trans t2).trans (Tr.put t2.ok hp)) (dn_new_tup (dns_cons.mpr ⟨_, _, rfl, dn_str.mpr rfl, dns_cons.mpr ⟨_, _, rfl, dn_str.mpr rfl, dns_cons.mpr ⟨_, _, rfl, dn_str.mpr rfl, dns_nil.mpr rfl⟩⟩⟩) (fresh_back t2.ok.ex hp) hd)⟩
/-- a, b, .. = a tuple -/
def mAsgTT (rs : List Nat) (is : List Nat) (me : ME) : MS := fun E env => me (view rs 0 env) fun d => ∃ ds env', d = .tup ds ∧ ds.length = is.length ∧ setsE shd is ds (aft rs d env) = some env' ∧ E.nx env'
theorem pds_asgTT (rs : List Nat) {is : List Nat} {es : List Expr} {kt : Nat} {tp : Pos} {e : Expr} {me : ME} (hc : X.calm = true) (h : PD X e me) (hg : PGs X es (gNs is)) (hn : (assignEach es X.env).length = is.length := by rfl) (hst : (assignEach es X.env).findIdx? (·.1) = none := by rfl)
    (hs : swapsWithSole [.Tuple es kt tp] e pos.line X.env = pure false := by rfl) (hw : swappedStores [.Tuple es kt tp] e X.env = pure none := by rfl)
    (h1 : (assignEach [.Tuple es kt tp] X.env).map (·.2) = [assign (.Tuple es kt tp) X.env] := by rfl) : PDS X (.Assign [.Tuple es kt tp] e pos) (mAsgTT rs is me) := by
  refine ⟨fun z C0 H0 Cb => ps_imp (ps_asg h.run (pg_tup hc hg hn hst) hs hw h1) fun N σ H ⟨C, env, s, q⟩ => ?_, fun E E' env l q => h.mono _ _ _ (fun d ⟨ds, env', a, b, c, q⟩ => ⟨ds, env', a, b, c, l.nx _ q⟩) q⟩
  refine s.use rs h.mono q fun d v C' H' ⟨ds, env', e1, e2, g, p⟩ s' dn => ?_
  subst e1
  obtain ⟨a, xs, rfl, ha, dns⟩ := dn_tupP.mp dn
  exact ⟨a, xs, rfl, (ex_p s'.tr.ok.ex ha).t, by rw [dns.len, e2], s'.sets dns g fun σ' s2 => p _ C' H' s2⟩
end
end BV

/-! x.split(s); {} as a value. -/
namespace BV
open PySem PySem.Spec PyProof.Rows L2 Evl
theorem dns_strsL {K : PySem.W.Frag} {C : Hp} {p : Addr} : ∀ l : List Str, Dns K C p (l.map D.str) (l.map V.str)
  | [] => dns_nil.mpr rfl
  | s :: l => dns_cons.mpr ⟨_, _, rfl, dn_str.mpr rfl, dns_strsL l⟩
section
variable {X : Cx} {o e : Expr} {mo me : ME} {pos apos cpos : Pos}
def mSplit (mo me : ME) : ME := fun env Q => mo env fun d => ∃ a, d = .str a ∧ me env fun d' => ∃ b, d' = .str b ∧ (b.length == 0) = false ∧ szOk (a.length + 2) = true ∧ Q (.lst ((Txt.split a b).map D.str))
theorem pd_split (ho : PD X o mo) (he : PD X e me) (h1 : attributeBase o "split" X.env (eval o X.env) = eval o X.env := by rfl)
    (h2 : ((((backTo cpos (starEach [e] X.env)).all fun x => !x.1) && ((backToKw cpos (keywordEach [] X.env)).all fun x => x.1.isSome) && decide (([e] : List Expr).length + ([] : List Keyword).length + (if ([] : List Keyword).isEmpty = true then 0 else 1) < 30)) = true) := by rfl)
    (h3 : (apos.endLine == cpos.line) = true := by rfl) (h4 : starEach [e] X.env = (false, eval e X.env) :: starEach [] X.env := by rfl) (h5 : ((backTo cpos (starEach [] X.env)).any fun x => x.1) = false := by rfl) :
    PD X (.Call (.Attribute o "split" apos) [e] [] cpos) (mSplit mo me) := by
  refine ⟨pe_imp (pe_bm PySem.F.plainAttrs_str PySem.F.slot_str_split PySem.F.type_str_split mt_split ho.run (pa_cons he.run pa_nil h4) h1 h2 h3 h4 h5) fun σ H Q q => ?_,
    fun env Q Q' i q => ho.mono _ _ _ (fun d ⟨a, e1, q⟩ => ⟨a, e1, he.mono _ _ _ (fun d' ⟨b, e2, e3, e4, q⟩ => ⟨b, e2, e3, e4, i _ q⟩) q⟩) q⟩
  obtain ⟨z, C, env, o', r, q⟩ := q
  refine lift_use ho.mono o' r q fun d v C' H' ⟨a, e1, q⟩ t dn => ?_
  subst e1
  rw [dn_str.mp dn]
  refine ⟨rfl, lift_use he.mono t.ok (r.mono t.cc) q fun d' v' C2 H2 ⟨b, e2, e3, e4, p⟩ t2 dn2 => ?_⟩
  subst e2
  exact ⟨a, b, rfl, by rw [dn_str.mp dn2], e3, sz_ok e4, fun p' hp => p _ _ _ ((t.trans t2).trans (Tr.put t2.ok hp)) (dn_new_lst (dns_strsL _) (fresh_back t2.ok.ex hp))⟩
/-- {} -/
theorem pd_dnew : PD X (.Dict [] [] pos) (mC (dicOf [])) := by
  refine ⟨pe_imp pe_dnewK fun σ H Q q => ?_, fun env Q Q' i q => i _ q⟩
  obtain ⟨z, C, env, o, r, q⟩ := q
  exact fun p hp => q (.ref p) _ _ (Tr.put o hp) (dn_dicOf.mpr ⟨p, [], rfl, upd_same, rfl⟩)
end
end BV

/-! all(xs), any(xs), sum(xs) of a list; abs(i), max(i, j). -/
namespace BV
open PySem PySem.Spec PyProof.Rows L2 Evl
def bools : List D → Option (List Bool)
  | [] => some []
  | .bl b :: r => (bools r).map (b :: ·)
  | _ :: _ => none
theorem dns_bools {K : PySem.W.Frag} {C : Hp} {p : Addr} : ∀ {ds : List D} {bs : List Bool} {xs : List V}, bools ds = some bs → Dns K C p ds xs → xs = bs.map V.bl
  | [], bs, xs, h, dn => by cases h; exact dns_nil.mp dn
  | .bl b :: r, bs, xs, h, dn => by
    obtain ⟨bs', h1, rfl⟩ := Option.map_eq_some_iff.mp h
    obtain ⟨v, ys, rfl, d1, d2⟩ := dns_cons.mp dn
    rw [dn_bl.mp d1, dns_bools h1 d2]
    rfl
theorem bools_map {α : Type} (f : α → Bool) : ∀ l : List α, bools (l.map fun x => D.bl (f x)) = some (l.map f)
  | [] => rfl
  | a :: l => by show (bools (l.map fun x => D.bl (f x))).map _ = _; rw [bools_map f l]; rfl
def intsD : List D → Option (List Int)
  | [] => some []
  | .int b :: r => (intsD r).map (b :: ·)
  | _ :: _ => none
theorem dns_intsD {K : PySem.W.Frag} {C : Hp} {p : Addr} : ∀ {ds : List D} {bs : List Int} {xs : List V}, intsD ds = some bs → Dns K C p ds xs → xs = bs.map V.int
  | [], bs, xs, h, dn => by cases h; exact dns_nil.mp dn
  | .int b :: r, bs, xs, h, dn => by
    obtain ⟨bs', h1, rfl⟩ := Option.map_eq_some_iff.mp h
    obtain ⟨v, ys, rfl, d1, d2⟩ := dns_cons.mp dn
    rw [dn_int.mp d1, dns_intsD h1 d2]
    rfl
theorem ints_map {α : Type} (f : α → Int) : ∀ l : List α, intsD (l.map fun x => D.int (f x)) = some (l.map f)
  | [] => rfl
  | a :: l => by show (intsD (l.map fun x => D.int (f x))).map _ = _; rw [ints_map f l]; rfl
def allD : List D → Option D
  | [.lst ds] => (bools ds).map fun bs => .bl (bs.all id)
  | _ => none
def anyD : List D → Option D
  | [.lst ds] => (bools ds).map fun bs => .bl (bs.any id)
  | _ => none
def sumD : List D → Option D
  | [.lst ds] => (intsD ds).map fun ns => .int ns.sum
  | _ => none
def absD : List D → Option D
  | [.int i] => some (.int (if i < 0 then -i else i))
  | _ => none
def max2D : List D → Option D
  | [.int i, .int j] => some (.int (if j > i then j else i))
  | _ => none
section
variable {X : Cx}
theorem cd_all (hc : X.calm = true) : CallD X (.builtin "all") allD := by
  refine ⟨_, cr_all hc, fun z C H ds u xs Q o dn g k => ?_⟩
  unfold allD at g
  split at g
  · obtain ⟨bs, h1, rfl⟩ := Option.map_eq_some_iff.mp g
    obtain ⟨v, e1, e2⟩ := dns1 dn
    obtain ⟨a, ys, f1, f2, f3⟩ := dn_lst.mp e2
    subst f1
    exact ⟨a, bs, e1, ex_l o.ex (sq_of (by rw [f2, dns_bools h1 f3])), k _ C H (Tr.refl o) (dn_bl.mpr rfl)⟩
  · cases g
theorem cd_any (hc : X.calm = true) : CallD X (.builtin "any") anyD := by
  refine ⟨_, cr_any hc, fun z C H ds u xs Q o dn g k => ?_⟩
  unfold anyD at g
  split at g
  · obtain ⟨bs, h1, rfl⟩ := Option.map_eq_some_iff.mp g
    obtain ⟨v, e1, e2⟩ := dns1 dn
    obtain ⟨a, ys, f1, f2, f3⟩ := dn_lst.mp e2
    subst f1
    exact ⟨a, bs, e1, ex_l o.ex (sq_of (by rw [f2, dns_bools h1 f3])), k _ C H (Tr.refl o) (dn_bl.mpr rfl)⟩
  · cases g
theorem cd_sum (hc : X.calm = true) : CallD X (.builtin "sum") sumD := by
  refine ⟨_, cr_sum hc, fun z C H ds u xs Q o dn g k => ?_⟩
  unfold sumD at g
  split at g
  · obtain ⟨bs, h1, rfl⟩ := Option.map_eq_some_iff.mp g
    obtain ⟨v, e1, e2⟩ := dns1 dn
    obtain ⟨a, ys, f1, f2, f3⟩ := dn_lst.mp e2
    subst f1
    exact ⟨a, bs, e1, ex_l o.ex (sq_of (by rw [f2, dns_intsD h1 f3])), k _ C H (Tr.refl o) (dn_int.mpr rfl)⟩
  · cases g
theorem cd_abs : CallD X (.builtin "abs") absD := by
  refine ⟨_, call_abs, fun z C H ds u xs Q o dn g k => ?_⟩
  unfold absD at g
  split at g
  · cases g
    obtain ⟨v, e1, e2⟩ := dns1 dn
    rw [dn_int.mp e2] at e1
    exact ⟨_, e1, k _ C H (Tr.refl o) (dn_int.mpr rfl)⟩
  · cases g
theorem cd_max2 (hc : X.calm = true) : CallD X (.builtin "max") max2D := by
  refine ⟨_, call_max2 hc, fun z C H ds u xs Q o dn g k => ?_⟩
  unfold max2D at g
  split at g
  · cases g
    obtain ⟨v, ys, rfl, d1, d2⟩ := dns_cons.mp dn
    obtain ⟨v2, e1, e2⟩ := dns1 d2
    rw [dn_int.mp e2] at e1
    rw [dn_int.mp d1, e1]
    exact ⟨_, _, rfl, k _ C H (Tr.refl o) (dn_int.mpr rfl)⟩
  · cases g
end
end BV

/-! repr of data with dicts in it, by value. -/
namespace BV
open PySem PySem.Spec PyProof.Rows L2 Evl

mutual
/-- no purse in it -/
def D.rf : D → Bool
  | .pur => false
  | .lst ds => D.rfs ds
  | .tup ds => D.rfs ds
  | .pr ds => D.rfs ds
  | .dic ks vs => D.rfs vs && decide (ks.length = vs.length)
  | .non => true
  | .bl _ => true
  | .int _ => true
  | .str _ => true
def D.rfs : List D → Bool
  | [] => true
  | d :: ds => D.rf d && D.rfs ds
end
section
variable {X : Cx} {pins : List (Addr × Obj)} {σ : L2.St} {C H : Hp} {s : Shared} {pu : Addr}
/-- what is known of a value to show it -/
def Sh (X : Cx) (s : Shared) (d : PyData) (u : Value) : Prop := (∃ as, Reads s.heap u d as) ∧ ∃ bs, ReadAtMost s.heap d.depth bs ∧ ReprK X.prog X.w bs s.heap d.depth u d.shown
def Shs (X : Cx) (s : Shared) (ds : List PyData) (us : List Value) : Prop := (∃ as, ReadsAll s.heap us ds as) ∧ ∃ bs, ReadAtMost s.heap (PyData.depthAll ds) bs ∧ ReprAllK X.prog X.w bs s.heap (PyData.depthAll ds) us (PyData.shownAll ds)
theorem Shs.nil : Shs X s [] [] := ⟨⟨_, .nil⟩, [], (fun _ h => nomatch h), .nil⟩
theorem Shs.cons {d : PyData} {ds : List PyData} {u : Value} {us : List Value} (h : Sh X s d u) (k : Shs X s ds us) : Shs X s (d :: ds) (u :: us) := by
  obtain ⟨⟨as, r⟩, b1, m1, k1⟩ := h
  obtain ⟨⟨bs, rs⟩, b2, m2, k2⟩ := k
  refine ⟨⟨_, .cons r rs⟩, b1 ++ b2, ?_, ?_⟩
  · exact ReadAtMost.append (m1.mono (by simp only [PyData.depthAll]; omega)) (m2.mono (by simp only [PyData.depthAll]; omega))
  · simp only [PyData.depthAll, PyData.shownAll]
    exact .cons ((k1.more fun b hb => List.mem_append_left _ hb).level_le (Nat.le_max_left _ _)) (k2.more_le (fun b hb => List.mem_append_right _ hb) (Nat.le_max_right _ _))
theorem Sh.leaf {d : PyData} {u : Value} {n : Nat} (r : ∃ as, Reads s.heap u d as) (h1 : d.showable = true) (h2 : d.hasDict = false) (h3 : d.shown.length ≤ sizeLine) : Sh X s d u := by
  obtain ⟨as, r⟩ := r
  exact ⟨⟨as, r⟩, ReprK.of_reads r h1 (PyData.noDict_hsm h2) h3⟩
theorem Sh.lst {a : Addr} {o : Obj} {n : Nat} {us : List Value} {ds : List PyData} (e : s.heap.get? a = some o) (c : o.cls = .type "list") (d : o.data = .seq us.toArray n) (h : Shs X s ds us) : Sh X s (.list ds) (.ref a) := by
  obtain ⟨⟨as, rs⟩, bs, hb, hk⟩ := h
  have r : Reads s.heap (.ref a) (.list ds) _ := .list e c d (by simpa using rs)
  have hna : a ∉ bs := not_mem_of_deeper r (by simp only [PyData.depth]; omega) hb
  refine ⟨⟨_, r⟩, a :: bs, ReadAtMost.cons r (by simp only [PyData.depth]; omega) hb, ?_⟩
  simp only [PyData.depth, PyData.shown]
  cases us with
  | nil =>
    cases rs
    simp only [PyData.shownAll, listText_nil]
    exact ReprK.listEmpty e c d
  | cons x l => exact ReprK.list e c d hna (by simpa using hk.length_eq) (fun i y q => hk.item i y (by simpa using q))
theorem Sh.tup {a : Addr} {o : Obj} {n : Nat} {us : List Value} {ds : List PyData} (e : s.heap.get? a = some o) (c : o.cls = .type "tuple") (d : o.data = .seq us.toArray n) (h : Shs X s ds us) : Sh X s (.tuple ds) (.ref a) := by
  obtain ⟨⟨as, rs⟩, bs, hb, hk⟩ := h
  have r : Reads s.heap (.ref a) (.tuple ds) _ := .tuple e c d (by simpa using rs)
  have hna : a ∉ bs := not_mem_of_deeper r (by simp only [PyData.depth]; omega) hb
  refine ⟨⟨_, r⟩, a :: bs, ReadAtMost.cons r (by simp only [PyData.depth]; omega) hb, ?_⟩
  simp only [PyData.depth, PyData.shown]
  exact ReprK.tuple e c d hna (by simpa using hk)
theorem Sh.dic {a : Addr} {o : Obj} {n : Nat} {es : Array DictEntry} {kvs : List (PyData × PyData)} (e : s.heap.get? a = some o) (c : o.cls = .type "dict") (d : o.data = .dict es n) (hs : (a == sysModules) = false)
    (h : Shs X s (kvs.map (·.1)) (es.toList.map (·.key))) (k : Shs X s (kvs.map (·.2)) (es.toList.map (·.val))) : Sh X s (.dict kvs) (.ref a) := by
  obtain ⟨⟨a1, r1⟩, b1, m1, k1⟩ := h
  obtain ⟨⟨a2, r2⟩, b2, m2, k2⟩ := k
  have r : Reads s.heap (.ref a) (.dict kvs) _ := .dict e c d r1 r2
  have hb : ReadAtMost s.heap (PyData.depthKv kvs) (b1 ++ b2) := (m1.mono (PyData.depthAll_keys_le kvs)).append (m2.mono (PyData.depthAll_vals_le kvs))
  have hna : a ∉ b1 ++ b2 := not_mem_of_deeper r (by simp only [PyData.depth]; omega) hb
  refine ⟨⟨_, r⟩, a :: (b1 ++ b2), ReadAtMost.cons r (by simp only [PyData.depth]; omega) hb, ?_⟩
  simp only [PyData.depth, PyData.shown, PyData.shownKv_eq]
  exact ReprK.dict e c d hs hna (ReprEntriesK.of_two es.toList _ _ (k1.more_le (fun b hb => List.mem_append_left _ hb) (PyData.depthAll_keys_le kvs)) (k2.more_le (fun b hb => List.mem_append_right _ hb) (PyData.depthAll_vals_le kvs)))
theorem map_fst_zip {α β : Type} : ∀ {l : List α} {m : List β}, l.length = m.length → (l.zip m).map (·.1) = l ∧ (l.zip m).map (·.2) = m
  | [], [], _ => ⟨rfl, rfl⟩
  | a :: l, b :: m, h => by
    have := map_fst_zip (l := l) (m := m) (by simpa using h)
    simp [this]
  | [], b :: m, h => by simp at h
  | a :: l, [], h => by simp at h
/-- the keys -/
theorem sh_keys {P : Program} {w : World} : ∀ {es : List DictEntry} {vs : List (L2.Key × Value)}, Pairs (mixKind P w) es vs → (∀ t ∈ PyData.shownAll ((vs.map (·.1)).map keyPy), t.length ≤ sizeLine) → PyData.showableAll ((vs.map (·.1)).map keyPy) = true → Shs X s ((vs.map (·.1)).map keyPy) (es.map (·.key))
  | [], [], _, _, _ => Shs.nil
  | e :: es, kv :: vs, h, hz, hs => by
    cases h with
    | cons h1 h2 h3 =>
      have hs' : (keyPy kv.1).showable = true ∧ PyData.showableAll ((vs.map (·.1)).map keyPy) = true := by simpa [PyData.showableAll] using hs
      refine Shs.cons (d := keyPy kv.1) ?_ (sh_keys h3 (fun t ht => hz t (by simp only [List.map_cons, PyData.shownAll]; exact List.mem_cons_of_mem _ ht)) hs'.2)
      have hz1 := hz (keyPy kv.1).shown (by simp only [List.map_cons, PyData.shownAll]; exact List.mem_cons_self ..)
      rcases keyIs_shape h1 with ⟨i, t, e1, e2⟩ | ⟨x, t, e1, e2⟩
      · show Sh X s (keyPy kv.1) e.key
        rw [e1, e2]
        rw [e1] at hs' hz1
        exact Sh.leaf (n := 0) ⟨_, .int i t⟩ hs'.1 rfl hz1
      · show Sh X s (keyPy kv.1) e.key
        rw [e1, e2]
        rw [e1] at hs' hz1
        exact Sh.leaf (n := 0) ⟨_, .str x t⟩ hs'.1 rfl hz1
  | [], kv :: vs, h, _, _ => by cases h
  | e :: es, [], h, _, _ => by cases h
theorem pairs_vals {P : Program} {w : World} : ∀ {es : List DictEntry} {vs : List (L2.Key × Value)}, Pairs (mixKind P w) es vs → es.map (·.val) = vs.map (·.2)
  | [], [], _ => rfl
  | e :: es, kv :: vs, h => by
    cases h with
    | cons h1 h2 h3 => rw [List.map_cons, List.map_cons, h2, pairs_vals h3]
  | [], kv :: vs, h => by cases h
  | e :: es, [], h => by cases h
theorem kv_parts : ∀ {kvs : List (L2.Key × V)} {vs : List (L2.Key × Value)}, KV kvs vs → kvs.map (·.1) = vs.map (·.1) ∧ Vals (kvs.map (·.2)) (vs.map (·.2))
  | [], _, h => by cases h; exact ⟨rfl, .nil⟩
  | p :: kvs, _, h => by
    cases h with
    | cons h1 h2 =>
      obtain ⟨e1, e2⟩ := kv_parts h2
      exact ⟨by rw [List.map_cons, List.map_cons, h1.1, e1], .cons h1.2 e2⟩
mutual
theorem sh_of (I : Inv X pins σ H s) (ex : Ex C H) : ∀ (d : D) (v : V) (u : Value), d.rf = true → d.py.showable = true → d.py.shown.length ≤ sizeLine → Dn X.K C pu d v → RelV v u → Sh X s d.py u
  | .non, v, u, _, h1, h2, dn, r => by
    cases dn_non.mp dn; cases r
    exact Sh.leaf (n := 0) ⟨_, .none⟩ h1 rfl h2
  | .bl b, v, u, _, h1, h2, dn, r => by
    cases dn_bl.mp dn; cases r
    exact Sh.leaf (n := 0) ⟨_, .bool b⟩ h1 rfl h2
  | .int i, v, u, _, h1, h2, dn, r => by
    cases dn_int.mp dn
    obtain ⟨t, rfl⟩ := r
    exact Sh.leaf (n := 0) ⟨_, .int i t⟩ h1 rfl h2
  | .str x, v, u, _, h1, h2, dn, r => by
    cases dn_str.mp dn
    obtain ⟨t, rfl⟩ := r
    exact Sh.leaf (n := 0) ⟨_, .str x t⟩ h1 rfl h2
  | .pur, v, u, h, _, _, _, _ => by simp [D.rf] at h
  | .lst ds, v, u, h, h1, h2, dn, r => by
    obtain ⟨a, xs, e1, e2, e3⟩ := dn_lst.mp dn
    subst e1
    cases r
    obtain ⟨its, rv, ⟨o, n, ho, hc, _, hd⟩, _⟩ := I.list (sq_of (ex _ _ e2))
    have h2' : (listText (PyData.shownAll (D.pys ds))).length ≤ sizeLine := by simpa only [D.py, PyData.shown] using h2
    exact Sh.lst ho hc hd (shs_of I ex ds _ _ (by simpa [D.rf] using h) (by simpa [D.py, PyData.showable] using h1) (fun t ht => Nat.le_trans (listText_mem_le ht) h2') e3 rv)
  | .tup ds, v, u, h, h1, h2, dn, r => by
    obtain ⟨a, xs, e1, e2, e3⟩ := dn_tup dn
    subst e1
    cases r
    obtain ⟨its, rv, ⟨o, ho, hc, n, hd⟩, _⟩ := I.tuple (ex_t ex e2)
    have h2' : (tupleText (PyData.shownAll (D.pys ds))).length ≤ sizeLine := by simpa only [D.py, PyData.shown] using h2
    exact Sh.tup ho hc hd (shs_of I ex ds _ _ (by simpa [D.rf] using h) (by simpa [D.py, PyData.showable] using h1) (fun t ht => Nat.le_trans (tupleText_mem_le ht) h2') e3 rv)
  | .pr ds, v, u, h, h1, h2, dn, r => by
    obtain ⟨a, xs, e1, e2, e3⟩ := dn_pr.mp dn
    subst e1
    cases r
    obtain ⟨its, rv, ⟨o, ho, hc, n, hd⟩, _⟩ := I.tuple (ex_t ex e2)
    have h2' : (tupleText (PyData.shownAll (D.pys ds))).length ≤ sizeLine := by simpa only [D.py, PyData.shown] using h2
    exact Sh.tup ho hc hd (shs_of I ex ds _ _ (by simpa [D.rf] using h) (by simpa [D.py, PyData.showable] using h1) (fun t ht => Nat.le_trans (tupleText_mem_le ht) h2') e3 rv)
  | .dic ks vs, v, u, h, h1, h2, dn, r => by
    obtain ⟨a, kvs, e1, e2, e3, e4⟩ := dn_dic.mp dn
    subst e1
    cases r
    have hr : D.rfs vs = true ∧ ks.length = vs.length := by simpa [D.rf] using h
    obtain ⟨_, hsy, vals, rel, o, es, ep, g1, g2, g3, _, g4, _⟩ := dk_of I.hok (ex _ _ e2)
    obtain ⟨q1, q2⟩ := kv_parts rel
    have hl : (ks.map keyPy).length = (D.pys vs).length := by rw [List.length_map, pys_len]; exact hr.2
    obtain ⟨z1, z2⟩ := map_fst_zip hl
    have h2' : (dictText (PyData.shownKv ((ks.map keyPy).zip (D.pys vs)))).length ≤ sizeLine := by simpa only [D.py, PyData.shown] using h2
    have hs : PyData.showableKv ((ks.map keyPy).zip (D.pys vs)) = true := by simpa [D.py, PyData.showable] using h1
    obtain ⟨s1, s2⟩ := PyData.showableKv_split _ hs
    have ek : ks = vals.map (·.1) := by rw [← q1, e3]
    refine Sh.dic g1 g2.1 g3 hsy ?_ ?_
    · rw [z1, ek]
      rw [z1, ek] at s1
      refine sh_keys g4 (fun t ht => ?_) s1
      rw [← ek, ← z1] at ht
      obtain ⟨p, hp, hl⟩ := PyData.shownKv_key_le _ t ht
      exact Nat.le_trans hl (Nat.le_trans (dictText_mem_le hp) h2')
    · rw [z2, pairs_vals g4]
      rw [z2] at s2
      refine shs_of I ex vs _ _ hr.1 s2 (fun t ht => ?_) e4 q2
      rw [← z2] at ht
      obtain ⟨p, hp, hl⟩ := PyData.shownKv_val_le _ t ht
      exact Nat.le_trans hl (Nat.le_trans (dictText_mem_le hp) h2')
theorem shs_of (I : Inv X pins σ H s) (ex : Ex C H) : ∀ (ds : List D) (vs : List V) (us : List Value), D.rfs ds = true → PyData.showableAll (D.pys ds) = true → (∀ t ∈ PyData.shownAll (D.pys ds), t.length ≤ sizeLine) → Dns X.K C pu ds vs → Vals vs us → Shs X s (D.pys ds) us
  | [], vs, us, _, _, _, dn, r => by
    rw [dns_nil.mp dn] at r
    cases r
    exact Shs.nil
  | d :: ds, vs, us, h, h1, h2, dn, r => by
    obtain ⟨v, q, e1, e2, e3⟩ := dns_cons.mp dn
    rw [e1] at r
    cases r with
    | cons r1 r2 =>
      have hh : d.rf = true ∧ D.rfs ds = true := by simpa [D.rfs] using h
      have hs : d.py.showable = true ∧ PyData.showableAll (D.pys ds) = true := by simpa [D.pys, PyData.showableAll] using h1
      exact Shs.cons (sh_of I ex d _ _ hh.1 hs.1 (h2 _ (by simp only [D.pys, PyData.shownAll]; exact List.mem_cons_self ..)) e2 r1)
        (shs_of I ex ds _ _ hh.2 hs.2 (fun t ht => h2 t (by simp only [D.pys, PyData.shownAll]; exact List.mem_cons_of_mem _ ht)) e3 r2)
end
/-! ### the call -/
section
variable {A : Around} {E : Value → Shared → Prop} {Q : Value → Shared → Prop}
theorem call_lst {a : Addr} {o : Obj} {n : Nat} {us : List Value} {ds : List PyData} (e : s.heap.get? a = some o) (c : o.cls = .type "list") (d : o.data = .seq us.toArray n) (h : Shs X s ds us) (hg : A.guards = some []) (hu : A.units + (PyData.list ds).depth + 1 < cLine) (hz : (PyData.list ds).shown.length ≤ sizeLine)
    (hQ : ∀ h' u tk, (∀ b o, s.heap.get? b = some o → h'.get? b = some o) → Q (.str (PyData.list ds).shown u) { s with heap := h', toks := tk }) : wpAny (model X.prog X.w) A (call (.builtin "repr") [.ref a]) Q E s := by
  obtain ⟨⟨as, rs⟩, bs, hb, hk⟩ := h
  have r : Reads s.heap (.ref a) (.list ds) _ := .list e c d (by simpa using rs)
  have hna : a ∉ bs := not_mem_of_deeper r (by simp only [PyData.depth]; omega) hb
  simp only [PyData.depth] at hu
  simp only [PyData.shown] at hQ hz
  refine call_repr_slot (by omega) ⟨o, e, c⟩ F.slot_list_repr.toG ?_
  cases us with
  | nil =>
    cases rs
    simp only [PyData.shownAll, listText_nil] at hQ
    exact call_list_repr_empty ⟨o, e, c⟩ e d ⟨_, _, rfl, hQ s.heap _ _ fun _ _ e => e⟩
  | cons x l => exact call_list_reprK (A := A.in1) e c d hna (by simpa using hk.length_eq) (fun i y q => hk.item i y (by simpa using q)) hg (fun b _ => Clear.nil b) (by show A.units + 1 + _ < cLine; omega) (fun _ _ e => e) (fun h' u tk hk => ⟨_, _, rfl, hQ h' u tk hk⟩) hz
theorem call_tup {a : Addr} {o : Obj} {n : Nat} {us : List Value} {ds : List PyData} (e : s.heap.get? a = some o) (c : o.cls = .type "tuple") (d : o.data = .seq us.toArray n) (h : Shs X s ds us) (hg : A.guards = some []) (hu : A.units + (PyData.tuple ds).depth + 1 < cLine) (hz : (PyData.tuple ds).shown.length ≤ sizeLine)
    (hQ : ∀ h' u tk, (∀ b o, s.heap.get? b = some o → h'.get? b = some o) → Q (.str (PyData.tuple ds).shown u) { s with heap := h', toks := tk }) : wpAny (model X.prog X.w) A (call (.builtin "repr") [.ref a]) Q E s := by
  obtain ⟨⟨as, rs⟩, bs, hb, hk⟩ := h
  have r : Reads s.heap (.ref a) (.tuple ds) _ := .tuple e c d (by simpa using rs)
  have hna : a ∉ bs := not_mem_of_deeper r (by simp only [PyData.depth]; omega) hb
  simp only [PyData.depth] at hu
  simp only [PyData.shown] at hQ hz
  exact call_repr_slot (by omega) ⟨o, e, c⟩ F.slot_tuple_repr (call_tuple_reprK (A := A.in1) e c d hna (by simpa using hk) hg (fun b _ => Clear.nil b) (by show A.units + 1 + _ < cLine; omega) (fun _ _ e => e) (fun h' u tk hk => ⟨_, _, rfl, hQ h' u tk hk⟩) hz)
theorem call_dic {a : Addr} {o : Obj} {n : Nat} {es : Array DictEntry} {kvs : List (PyData × PyData)} (e : s.heap.get? a = some o) (c : o.cls = .type "dict") (d : o.data = .dict es n) (hs : (a == sysModules) = false)
    (h : Shs X s (kvs.map (·.1)) (es.toList.map (·.key))) (k : Shs X s (kvs.map (·.2)) (es.toList.map (·.val))) (hg : A.guards = some []) (hu : A.units + (PyData.dict kvs).depth + 1 < cLine) (hz : (PyData.dict kvs).shown.length ≤ sizeLine)
    (hQ : ∀ h' u tk, (∀ b o, s.heap.get? b = some o → h'.get? b = some o) → Q (.str (PyData.dict kvs).shown u) { s with heap := h', toks := tk }) : wpAny (model X.prog X.w) A (call (.builtin "repr") [.ref a]) Q E s := by
  obtain ⟨⟨a1, r1⟩, b1, m1, k1⟩ := h
  obtain ⟨⟨a2, r2⟩, b2, m2, k2⟩ := k
  have r : Reads s.heap (.ref a) (.dict kvs) _ := .dict e c d r1 r2
  have hb : ReadAtMost s.heap (PyData.depthKv kvs) (b1 ++ b2) := (m1.mono (PyData.depthAll_keys_le kvs)).append (m2.mono (PyData.depthAll_vals_le kvs))
  have hna : a ∉ b1 ++ b2 := not_mem_of_deeper r (by simp only [PyData.depth]; omega) hb
  simp only [PyData.depth] at hu
  simp only [PyData.shown, PyData.shownKv_eq] at hQ hz
  exact call_repr_slot (by omega) ⟨o, e, c⟩ F.slot_dict_repr (call_dict_reprK (A := A.in1) e c d hs hna (ReprEntriesK.of_two es.toList _ _ (k1.more_le (fun b hb => List.mem_append_left _ hb) (PyData.depthAll_keys_le kvs)) (k2.more_le (fun b hb => List.mem_append_right _ hb) (PyData.depthAll_vals_le kvs))) hg (fun b _ => Clear.nil b) (by show A.units + 1 + _ < cLine; omega) (fun _ _ e => e) (fun h' u tk hk => ⟨_, _, rfl, hQ h' u tk hk⟩) hz)
end
/-- repr of data, dicts too -/
def okRepr2 (d : D) : Bool := d.rf && d.py.showable && decide (d.py.depth ≤ 60) && szOk d.py.shown.length
def repr2D : List D → Option D
  | [d] => if okRepr2 d = true then some (.str d.py.shown) else none
  | _ => none
def rRepr2 (K : PySem.W.Frag) : List V → Hp → VK → Prop := fun xs H Q => ∃ x d C pu, xs = [x] ∧ Ex C H ∧ Dn K C pu d x ∧ okRepr2 d = true ∧ Q (.str d.py.shown) H
theorem call_repr2D (hu : X.A.units + 64 < cLine) (hgd : X.A.guards = some []) : CallR X (.builtin "repr") (rRepr2 X.K) := by
  intro pins s σ H xs us Q I r h
  obtain ⟨x, d, C, pu, rfl, ex, hd, hz, q⟩ := h
  obtain ⟨u, rfl, ru⟩ := vals1 r
  have hl : sizeLine = 16777216 := sizeLine_eq
  have hz' : ((d.rf = true ∧ d.py.showable = true) ∧ d.py.depth ≤ 60) ∧ szOk d.py.shown.length = true := by simpa [okRepr2] using hz
  obtain ⟨⟨⟨h0, h1⟩, h3⟩, h4⟩ := hz'
  have h5 : d.py.shown.length ≤ 4000000 := of_decide_eq_true h4
  cases d with
  | non =>
    cases dn_non.mp hd; cases ru
    exact PySem.P.repr_of_none ⟨.str _, H, I.tok _, ⟨_, rfl⟩, q⟩
  | bl b =>
    cases dn_bl.mp hd; cases ru
    exact PySem.P.repr_of_bool ⟨.str _, H, I.tok _, ⟨_, rfl⟩, by cases b <;> exact q⟩
  | int i =>
    cases dn_int.mp hd
    obtain ⟨t, rfl⟩ := ru
    exact PySem.P.repr_of_int (by simpa [D.py, PyData.showable] using h1) ⟨.str _, H, I.tok _, ⟨_, rfl⟩, q⟩
  | str y =>
    cases dn_str.mp hd
    obtain ⟨t, rfl⟩ := ru
    have h6 : (reprText y).length ≤ sizeLine := by
      have : (reprText y).length ≤ 4000000 := h5
      omega
    exact PySem.P.repr_of_str ⟨.str _, H, I.tok _, ⟨_, rfl⟩, q⟩ h6
  | pur => simp [D.rf] at h0
  | lst ds =>
    obtain ⟨a, xs, e1, e2, e3⟩ := dn_lst.mp hd
    subst e1
    cases ru
    obtain ⟨its, rv, ⟨o, n, ho, hc, _, hdd⟩, _⟩ := I.list (sq_of (ex _ _ e2))
    have h2' : (listText (PyData.shownAll (D.pys ds))).length ≤ sizeLine := by
      have : (listText (PyData.shownAll (D.pys ds))).length ≤ 4000000 := by simpa only [D.py, PyData.shown] using h5
      omega
    refine call_lst ho hc hdd (shs_of I ex ds _ _ (by simpa [D.rf] using h0) (by simpa [D.py, PyData.showable] using h1) (fun t ht => Nat.le_trans (listText_mem_le ht) h2') e3 rv) hgd (by have : (D.lst ds).py.depth ≤ 60 := h3; simp only [D.py] at this; omega) (by simpa only [PyData.shown] using h2') fun h' u tk hk => ⟨.str _, H, I.kept hk, ⟨_, rfl⟩, q⟩
  | tup ds =>
    obtain ⟨a, xs, e1, e2, e3⟩ := dn_tup hd
    subst e1
    cases ru
    obtain ⟨its, rv, ⟨o, ho, hc, n, hdd⟩, _⟩ := I.tuple (ex_t ex e2)
    have h2' : (tupleText (PyData.shownAll (D.pys ds))).length ≤ sizeLine := by
      have : (tupleText (PyData.shownAll (D.pys ds))).length ≤ 4000000 := by simpa only [D.py, PyData.shown] using h5
      omega
    refine call_tup ho hc hdd (shs_of I ex ds _ _ (by simpa [D.rf] using h0) (by simpa [D.py, PyData.showable] using h1) (fun t ht => Nat.le_trans (tupleText_mem_le ht) h2') e3 rv) hgd (by have : (D.tup ds).py.depth ≤ 60 := h3; simp only [D.py] at this; omega) (by simpa only [PyData.shown] using h2') fun h' u tk hk => ⟨.str _, H, I.kept hk, ⟨_, rfl⟩, q⟩
  | pr ds =>
    obtain ⟨a, xs, e1, e2, e3⟩ := dn_pr.mp hd
    subst e1
    cases ru
    obtain ⟨its, rv, ⟨o, ho, hc, n, hdd⟩, _⟩ := I.tuple (ex_t ex e2)
    have h2' : (tupleText (PyData.shownAll (D.pys ds))).length ≤ sizeLine := by
      have : (tupleText (PyData.shownAll (D.pys ds))).length ≤ 4000000 := by simpa only [D.py, PyData.shown] using h5
      omega
    refine call_tup ho hc hdd (shs_of I ex ds _ _ (by simpa [D.rf] using h0) (by simpa [D.py, PyData.showable] using h1) (fun t ht => Nat.le_trans (tupleText_mem_le ht) h2') e3 rv) hgd (by have : (D.pr ds).py.depth ≤ 60 := h3; simp only [D.py] at this; omega) (by simpa only [PyData.shown] using h2') fun h' u tk hk => ⟨.str _, H, I.kept hk, ⟨_, rfl⟩, q⟩
  | dic ks vs =>
    obtain ⟨a, kvs, e1, e2, e3, e4⟩ := dn_dic.mp hd
    subst e1
    cases ru
    have hr : D.rfs vs = true ∧ ks.length = vs.length := by simpa [D.rf] using h0
    obtain ⟨_, hsy, vals, rel, o, es, ep, g1, g2, g3, _, g4, _⟩ := dk_of I.hok (ex _ _ e2)
    obtain ⟨q1, q2⟩ := kv_parts rel
    have hl : (ks.map keyPy).length = (D.pys vs).length := by rw [List.length_map, pys_len]; exact hr.2
    obtain ⟨z1, z2⟩ := map_fst_zip hl
    have h2' : (dictText (PyData.shownKv ((ks.map keyPy).zip (D.pys vs)))).length ≤ sizeLine := by
      have : (dictText (PyData.shownKv ((ks.map keyPy).zip (D.pys vs)))).length ≤ 4000000 := by simpa only [D.py, PyData.shown] using h5
      omega
    have hs : PyData.showableKv ((ks.map keyPy).zip (D.pys vs)) = true := by simpa [D.py, PyData.showable] using h1
    obtain ⟨s1, s2⟩ := PyData.showableKv_split _ hs
    have ek : ks = vals.map (·.1) := by rw [← q1, e3]
    refine call_dic g1 g2.1 g3 hsy (kvs := (ks.map keyPy).zip (D.pys vs)) ?_ ?_ hgd (by have : (D.dic ks vs).py.depth ≤ 60 := h3; simp only [D.py] at this; omega) (by simpa only [PyData.shown] using h2') fun h' u tk hk => ⟨.str _, H, I.kept hk, ⟨_, rfl⟩, q⟩
    · rw [z1, ek]
      rw [z1, ek] at s1
      refine sh_keys g4 (fun t ht => ?_) s1
      rw [← ek, ← z1] at ht
      obtain ⟨p, hp, hl⟩ := PyData.shownKv_key_le _ t ht
      exact Nat.le_trans hl (Nat.le_trans (dictText_mem_le hp) h2')
    · rw [z2, pairs_vals g4]
      rw [z2] at s2
      refine shs_of I ex vs _ _ hr.1 s2 (fun t ht => ?_) e4 q2
      rw [← z2] at ht
      obtain ⟨p, hp, hl⟩ := PyData.shownKv_val_le _ t ht
      exact Nat.le_trans hl (Nat.le_trans (dictText_mem_le hp) h2')
theorem cd_repr2 (hu : X.A.units + 64 < cLine) (hgd : X.A.guards = some []) : CallD X (.builtin "repr") repr2D := by
  refine ⟨_, call_repr2D hu hgd, fun z C H ds u xs Q o dn g k => ?_⟩
  unfold repr2D at g
  split at g
  · rename_i d
    obtain ⟨hz, rfl⟩ := ite_of g
    obtain ⟨v, e1, e2⟩ := dns1 dn
    exact ⟨v, d, C, _, e1, o.ex, e2, hz, k _ C H (Tr.refl o) (dn_str.mpr rfl)⟩
  · cases g
/-! ### {k: v, ..} with keys written as numbers and words -/
def mDisp (ks : List L2.Key) (m : MA) : ME := fun env Q => m env fun ds => Q (.dic ks ds)
end
end BV

/-! {k: v, ..} with keys written as numbers and words, by value. -/
namespace BV
open PySem PySem.Spec PyProof.Rows L2 Evl

theorem Tr.sealU {z : Pz} {C H C' H' : Hp} {a : Addr} {u : HO} (o : Ok z C H) (t : Tr z C H C' H') (h1 : H a = none) (h2 : C' a = none) (h3 : H' a = some u) : Tr z C H (upd C' a u) H' := by
  have hz : ∀ b, H b ≠ none → b ≠ a := fun b hb e => hb (by rw [e]; exact h1)
  refine ⟨t.cc.trans (Ex.new h2), ⟨fun b u e => ?_, ?_⟩, t.keep, fun b hb => ?_⟩
  · by_cases hb : b = a
    · subst hb; rw [upd_same] at e; cases e; exact h3
    · rw [upd_ne hb] at e; exact t.ok.ex b u e
  · obtain ⟨gs, cs, s, k, g1, g2, g3, g4⟩ := t.ok.pur.at_
    exact ⟨⟨gs, cs, s, k, g1, g2, g3, g4⟩, by rw [upd_ne (hz _ o.pur.pn)]; exact t.ok.pur.cp, by rw [upd_ne (hz _ o.pur.gn)]; exact t.ok.pur.cg, by rw [upd_ne (hz _ o.pur.cn)]; exact t.ok.pur.cc, t.ok.pur.pg, t.ok.pur.pc, t.ok.pur.gc⟩
  · rw [upd_ne (hz b hb)]; exact t.new b hb
structure PDP (X : Cx) (keys : List (Option Expr)) (values : List Expr) (ks : List L2.Key) (m : MA) : Prop where
  run : ∀ pos : Pos, ∃ trs, PPs X pos keys values trs ∧ ∀ (z : Pz) (C H : Hp) (env : Env) (σ : L2.St) (Q : List (V × V) → Hp → Prop) (P : List D → Prop), Ok z C H → EnvR X.K z C env σ → m env P → (∀ ds vs C' H', P ds → Tr z C H C' H' → Dns X.K C' z.p ds vs → ds.length = ks.length → Q ((ks.zip vs).map fun p => (kV p.1, p.2)) H') → tPairs trs σ H Q
  mono : MonoA m
section
variable {X : Cx} {e : Expr} {ma : ME} {mr : MA} {keys : List (Option Expr)} {values : List Expr} {ks : List L2.Key}
theorem pdp_nil : PDP X [] [] [] maNil := ⟨fun pos => ⟨[], pps_nil, fun z C H env σ Q P o r q k => k [] [] C H q (Tr.refl o) (dns_nil.mpr rfl) rfl⟩, fun env Q Q' i q => i _ q⟩
theorem pdp_cons {kx : Expr} {k0 : L2.Key} (hk : PE X kx (tC (kV k0))) (ha : PD X e ma) (hr : PDP X keys values ks mr) : PDP X (some kx :: keys) (e :: values) (k0 :: ks) (maCons ma mr) := by
  refine ⟨fun pos => ?_, fun env Q Q' i q => ha.mono env _ _ (fun d q => hr.mono env _ _ (fun ds q => i _ q) q) q⟩
  obtain ⟨trs, h1, h2⟩ := hr.run pos
  refine ⟨(tC (kV k0), lift X.K ma) :: trs, pps_cons hk ha.run h1, fun z C H env σ Q P o r q k => ?_⟩
  show lift X.K ma σ H _
  refine lift_use ha.mono o r q fun d v C' H' p t dn => ?_
  refine h2 z C' H' env σ _ _ t.ok (r.mono t.cc) p fun ds vs C2 H2 p2 t2 dns hl => ?_
  exact k (d :: ds) (v :: vs) C2 H2 p2 (t.trans t2) (dns_cons.mpr ⟨v, vs, rfl, dn.mono t2.cc, dns⟩) (by simp [hl])
theorem pk_int {i : Int} {j} {p : Pos} : PE X (.Constant (.int i) j p) (tC (kV (.inl i))) := pe_int
theorem pk_str {x : Str} {j} {p : Pos} : PE X (.Constant (.str x) j p) (tC (kV (.inr x))) := pe_str
theorem merge_new : ∀ (more acc : List (L2.Key × V)), ((acc ++ more).map (·.1)).Nodup → mergeK acc more = acc ++ more
  | [], acc, _ => by simp [mergeK]
  | p :: more, acc, h => by
    have hn : (acc.any fun kv => decide (kv.1 = p.1)) = false := by
      rw [List.any_eq_false]
      intro q hq hc
      have hc : q.1 = p.1 := by simpa using hc
      rw [List.map_append, List.map_cons, List.nodup_append] at h
      exact h.2.2 q.1 (List.mem_map_of_mem hq) p.1 (by simp) hc
    have e : putK acc p.1 p.2 = acc ++ [p] := by
      unfold putK
      rw [hn]
      rfl
    show mergeK (putK acc p.1 p.2) more = _
    rw [e, merge_new more (acc ++ [p]) (by simpa using h)]
    simp
theorem pd_disp {pos : Pos} (h : PDP X keys values ks mr) (hn : ks.Nodup := by decide) (hl2 : ks.length ≤ 15 := by decide) (hall : keys.all (·.isSome) = true := by rfl) (hl : keys.length = values.length := by rfl) (h0 : keys ≠ [] := by simp) (h15 : keys.length ≤ 15 := by decide) : PD X (.Dict keys values pos) (mDisp ks mr) := by
  obtain ⟨trs, h1, h2⟩ := h.run pos
  refine ⟨pe_imp (pe_disp h1 hall hl h0 h15) fun σ H Q q => ?_, fun env Q Q' i q => h.mono env _ _ (fun ds q => i _ q) q⟩
  obtain ⟨z, C, env, o, r, q⟩ := q
  intro p hp
  have hc : C p = none := fresh_back o.ex hp
  have t0 : Tr z C H C (upd H p (.dK [])) := Tr.ext o (Ex.new hp)
  have np : p ≠ z.p := fun e => o.pur.pn (by rw [← e]; exact hp)
  have ng : p ≠ z.g := fun e => o.pur.gn (by rw [← e]; exact hp)
  refine h2 z C _ env σ _ _ t0.ok r q fun ds vs C' H' p2 t dns hlen => ?_
  have hp' : H' p = some (.dK []) := t.keep p _ upd_same np ng
  have hc' : C' p = none := (t.new p (by rw [upd_same]; exact fun q => nomatch q)).trans hc
  have hvl : vs.length = ks.length := by rw [dns.len, hlen]
  obtain ⟨z1, z2⟩ := map_fst_zip hvl.symm
  have hm : mergeK [] (ks.zip vs) = ks.zip vs := by
    rw [merge_new _ [] (by rw [List.nil_append, z1]; exact hn), List.nil_append]
  refine ⟨hp', ks.zip vs, rfl, by rw [List.length_zip]; omega, ?_⟩
  rw [hm]
  have t2 : Tr z C H C' (upd H' p (.dK (ks.zip vs))) := Tr.mut o (t0.trans t) hp hc'
  refine p2 _ (upd C' p (.dK (ks.zip vs))) _ (Tr.sealU o t2 hp hc' upd_same) (dn_dic.mpr ⟨p, ks.zip vs, rfl, upd_same, z1, ?_⟩)
  rw [z2]
  exact dns.mono (Ex.new hc')
end
end BV

/-! in a list, a tuple, or (one sign) in a text; int of a text. -/
namespace BV
open PySem PySem.Spec PyProof.Rows L2 Evl
def oneC (x : Str) : Option Nat := match x.cps.toList with
  | [c] => some c
  | _ => none
def inU (neg : Bool) (d e : D) : Option D := match e with
  | .str z => (match d with
    | .str x => (oneC x).map fun c => .bl (if neg then !decide (c ∈ z.cps.toList) else decide (c ∈ z.cps.toList))
    | _ => none)
  | _ => inA neg d e
section
variable {X : Cx} {pos : Pos}
theorem oneC_of {x : Str} {c : Nat} (h : oneC x = some c) : x = ⟨#[c]⟩ := by
  obtain ⟨⟨l⟩⟩ := x
  unfold oneC at h
  cases l with
  | nil => cases h
  | cons a l => cases l with
    | nil => cases h; rfl
    | cons b l => cases h
theorem inU_of {neg : Bool} {d e u : D} (g : inU neg d e = some u) : (∃ c z, d = .str ⟨#[c]⟩ ∧ e = .str z ∧ u = .bl (if neg then !decide (c ∈ z.cps.toList) else decide (c ∈ z.cps.toList))) ∨ inA neg d e = some u := by
  cases e with
  | str z =>
    cases d with
    | str x =>
      obtain ⟨c, h1, h2⟩ := Option.map_eq_some_iff.mp (show (oneC x).map _ = some u from g)
      rw [oneC_of h1]
      exact .inl ⟨c, z, rfl, rfl, h2.symm⟩
    | _ => cases g
  | _ => exact .inr g
theorem opd_inU (hu : X.A.units + 65 < cLine) : OpD X (compareOp .In) (inU false) := by
  obtain ⟨R, hR, hi⟩ := opd_inA (X := X) hu
  refine OpD.of _ (hR.or op_in_sign) fun z C H d e u x y Q o dx dy g k => ?_
  rcases inU_of g with ⟨c, s, rfl, rfl, rfl⟩ | g
  · exact .inr ⟨c, s, dn_str.mp dx, dn_str.mp dy, k _ C H (Tr.refl o) (dn_bl.mpr rfl)⟩
  · exact .inl (hi z C H d e u x y Q o dx dy g k)
theorem opd_notinU (hu : X.A.units + 65 < cLine) : OpD X (compareOp .NotIn) (inU true) := by
  obtain ⟨R, hR, hi⟩ := opd_notinA (X := X) hu
  refine OpD.of _ (hR.or op_notIn_sign) fun z C H d e u x y Q o dx dy g k => ?_
  rcases inU_of g with ⟨c, s, rfl, rfl, rfl⟩ | g
  · exact .inr ⟨c, s, dn_str.mp dx, dn_str.mp dy, k _ C H (Tr.refl o) (dn_bl.mpr rfl)⟩
  · exact .inl (hi z C H d e u x y Q o dx dy g k)
/-- int of a number or of a text -/
def int2D : List D → Option D
  | [.int i] => some (.int i)
  | [.str s] => if s.length ≤ 640 then (intText? s).map .int else none
  | _ => none
theorem cd_int2 : CallD X (.type "int") int2D := by
  refine ⟨_, call_int1.or call_int_str, fun z C H ds u xs Q o dn g k => ?_⟩
  unfold int2D at g
  split at g
  · cases g
    obtain ⟨v, e1, e2⟩ := dns1 dn
    rw [dn_int.mp e2] at e1
    exact .inl (.inl ⟨_, e1, k _ C H (Tr.refl o) (dn_int.mpr rfl)⟩)
  · rename_i s
    have hz : s.length ≤ 640 := by
      by_cases hz : s.length ≤ 640
      · exact hz
      · rw [if_neg hz] at g; cases g
    rw [if_pos hz] at g
    obtain ⟨n, h1, h2⟩ := Option.map_eq_some_iff.mp g
    obtain ⟨v, e1, e2⟩ := dns1 dn
    rw [dn_str.mp e2] at e1
    subst h2
    exact .inr ⟨s, n, e1, h1, hz, k _ C H (Tr.refl o) (dn_int.mpr rfl)⟩
  · cases g
end
end BV

/-! is True, is False. -/
namespace BV
open PySem PySem.Spec PyProof.Rows L2 Evl
theorem op_isB {X : Cx} : OpR X (compareOp .Is) (fun x y H Q => ∃ a b, x = .bl a ∧ y = .bl b ∧ Q (.bl (a == b)) H) := by
  intro pins s σ H x y v u Q I rx ry h
  obtain ⟨a, b, rfl, rfl, q⟩ := h
  cases rx
  cases ry
  exact wpAny_is_plain rfl (fin_bl I q (by cases a <;> cases b <;> rfl))
theorem op_notB {X : Cx} : OpR X (compareOp .IsNot) (fun x y H Q => ∃ a b, x = .bl a ∧ y = .bl b ∧ Q (.bl (!(a == b))) H) := by
  intro pins s σ H x y v u Q I rx ry h
  obtain ⟨a, b, rfl, rfl, q⟩ := h
  cases rx
  cases ry
  exact wpAny_isNot_plain rfl (fin_bl I q (by cases a <;> cases b <;> rfl))
def isU (neg : Bool) (d e : D) : Option D := match d, e with
  | .bl a, .bl b => some (.bl (if neg then !(a == b) else a == b))
  | d, e => isD neg d e
theorem isU_of {neg : Bool} {d e u : D} (g : isU neg d e = some u) : (∃ a b, d = .bl a ∧ e = .bl b ∧ u = .bl (if neg then !(a == b) else a == b)) ∨ isD neg d e = some u := by
  cases d <;> cases e <;> first
    | exact .inl ⟨_, _, rfl, rfl, (Option.some.inj g).symm⟩
    | exact .inr g
section
variable {X : Cx}
theorem opd_isU : OpD X (compareOp .Is) (isU false) := by
  obtain ⟨R, hR, hi⟩ := opd_is (X := X)
  refine OpD.of _ (hR.or op_isB) fun z C H d e u x y Q o dx dy g k => ?_
  rcases isU_of g with ⟨a, b, rfl, rfl, rfl⟩ | g
  · exact .inr ⟨a, b, dn_bl.mp dx, dn_bl.mp dy, k _ C H (Tr.refl o) (dn_bl.mpr rfl)⟩
  · exact .inl (hi z C H d e u x y Q o dx dy g k)
theorem opd_isnotU : OpD X (compareOp .IsNot) (isU true) := by
  obtain ⟨R, hR, hi⟩ := opd_isnot (X := X)
  refine OpD.of _ (hR.or op_notB) fun z C H d e u x y Q o dx dy g k => ?_
  rcases isU_of g with ⟨a, b, rfl, rfl, rfl⟩ | g
  · exact .inr ⟨a, b, dn_bl.mp dx, dn_bl.mp dy, k _ C H (Tr.refl o) (dn_bl.mpr rfl)⟩
  · exact .inl (hi z C H d e u x y Q o dx dy g k)
end
end BV

/-! Common to the laws. -/
namespace BV
open PySem PySem.Spec PyProof.Rows L2 Evl
theorem pow109 : powD (.int 10) (.int 9) = some (.int 1000000000) := by rfl
theorem sz_of {n : Nat} (h : n ≤ 4000000) : szOk n = true := decide_eq_true h
def Pr (s : Str) : Prop := ∀ c ∈ s.cps.toList, 46 ≤ c ∧ c ≤ 122 ∧ c ≠ 92
theorem pr_char {c : Nat} (h : 46 ≤ c ∧ c ≤ 122 ∧ c ≠ 92) : Builtin.Str.reprChar 39 c = [c] := by
  have : ∀ c < 123, 46 ≤ c → c ≠ 92 → Builtin.Str.reprChar 39 c = [c] := by decide +kernel
  exact this c (by omega) h.1 h.2.2
theorem txt_pr {s : Str} (h : Pr s) : txt (.str s) = 39 :: (s.cps.toList ++ [39]) := by
  have hq : reprQuote s = 39 := by
    unfold reprQuote
    have : s.cps.contains 39 = false := by
      rw [Bool.eq_false_iff]
      intro hc
      have := h 39 (by rw [Array.contains_iff_mem] at hc; exact Array.mem_toList_iff.mpr hc)
      omega
    rw [this]
    rfl
  show (reprText s).cps.toList = _
  unfold reprText
  rw [hq, Array.toList_push, ← Array.foldl_toList]
  have : ∀ (l : List Nat) (a : Array Nat), (∀ c ∈ l, 46 ≤ c ∧ c ≤ 122 ∧ c ≠ 92) → (l.foldl (fun out c => out ++ (Builtin.Str.reprChar 39 c).toArray) a).toList = a.toList ++ l := by
    intro l
    induction l with
    | nil => intro a _; simp
    | cons c l ih =>
      intro a hl
      rw [List.foldl_cons, ih _ fun x hx => hl x (by simp [hx]), pr_char (hl c (by simp))]
      simp
  rw [this _ _ h]
  simp
theorem pl_str {s : Str} (h : Pr s) : PL 0 (s.length + 2) (.str s) := by
  refine ⟨fun c hc => ?_, rfl, rfl, ?_, Nat.le_refl _, ?_⟩
  · rw [txt_pr h] at hc
    simp only [List.mem_cons, List.mem_append, List.not_mem_nil, or_false] at hc
    rcases hc with hc | hc | hc
    · omega
    · have := h c hc
      omega
    · omega
  · show s.cps.all (· < 0x110000) = true
    rw [Array.all_eq_true_iff_forall_mem]
    intro c hc
    have := h c (Array.mem_toList_iff.mpr hc)
    simp only [decide_eq_true_eq]
    omega
  · rw [txt_len, txt_pr h, cps_len]
    simp
theorem low_pr {s : Str} (h : Low s) : Pr s := fun c hc => by have := h c hc; omega
def isW (n : Nat) (s : Str) : Prop := s.length ≤ n ∧ Pr s
theorem isW.app {m n : Nat} {a b : Str} (h : isW m a) (k : isW n b) : isW (m + n) (a ++ b) := by
  refine ⟨by rw [strLen_append]; have := h.1; have := k.1; omega, fun c hc => ?_⟩
  rw [cps_toList_append, List.mem_append] at hc
  exact hc.elim (h.2 c) (k.2 c)
theorem isW.mono {m n : Nat} {a : Str} (h : isW m a) (k : m ≤ n) : isW n a := ⟨Nat.le_trans h.1 k, h.2⟩
theorem lit_w (x : String) (n : Nat) (h : ((Str.ofString x).length ≤ n ∧ (Str.ofString x).cps.toList.all (fun c => decide (46 ≤ c ∧ c ≤ 122 ∧ c ≠ 92)) = true)) : isW n (Str.ofString x) := ⟨h.1, fun c hc => by
  have := List.all_eq_true.mp h.2 c hc
  exact of_decide_eq_true this⟩
theorem add_str {a b : Str} {m n : Nat} (h : isW m a) (k : isW n b) (hs : m + n ≤ 4000000) : addD (.str a) (.str b) = some (.str (a ++ b)) := if_pos (sz_of (by have := h.1; have := k.1; omega))
theorem frz_nil : ∀ (k : Nat) (env : SEnv), frz [] k env = env
  | _, [] => rfl
  | k, none :: r => by rw [frz, frz_nil (k + 1) r]
  | k, some (false, d) :: r => by rw [frz, frz_nil (k + 1) r]
  | k, some (true, d) :: r => by rw [frz, frz_nil (k + 1) r]; rfl
theorem aft_nil (d : D) (env : SEnv) : aft [] d env = env := by
  unfold aft
  rw [frz_nil]
  split <;> rfl
theorem aftL_nil (ds : List D) (env : SEnv) : aftL [] ds env = env := by
  unfold aftL
  rw [frz_nil]
  split <;> rfl
theorem pl_lst {k m n : Nat} {ds : List D} (h : ∀ d ∈ ds, PL k m d) (hn : 2 + ds.length * (m + 2) ≤ n) : PL (k + 1) n (.lst ds) := (PL.lst h).mono (Nat.le_refl _) hn
theorem shows {k m : Nat} {d : D} (h : PL k m d) (a : k ≤ 60) (b : m ≤ 4000000) : reprD [d] = some (.str d.py.shown) := if_pos (h.repr a b)
theorem same_eq {k m : Nat} {d : D} (h : PL k m d) : eqD (.str d.py.shown) (.str d.py.shown) = some (.bl true) := by
  rw [eqD, if_pos ⟨h.seen, h.seen⟩, (eqv_iff _ _ rfl rfl).mpr rfl]
theorem same_ne {k m : Nat} {d : D} (h : PL k m d) : neD (.str d.py.shown) (.str d.py.shown) = some (.bl false) := by
  rw [neD, if_pos ⟨h.seen, h.seen⟩, (eqv_iff _ _ rfl rfl).mpr rfl]
  rfl
theorem cut_to (ts : List D) {c : Nat} (h : c ≤ ts.length) : BV.cutD ts none (some (c : Int)) = ts.take c := by
  unfold BV.cutD
  rw [HT.sIx_nat, HT.sIx_none]
  simp only [List.drop_zero, Nat.sub_zero]
  rw [Nat.min_eq_left h]
theorem cut_from (ts : List D) {c : Nat} (h : c ≤ ts.length) : BV.cutD ts (some (c : Int)) none = ts.drop c := by
  unfold BV.cutD
  rw [HT.sIx_nat, HT.sIx_none, Nat.min_eq_left h]
  exact List.take_of_length_le (by rw [List.length_drop]; omega)
theorem lfs_app : ∀ {a b : List D}, D.lfs a = true → D.lfs b = true → D.lfs (a ++ b) = true
  | [], b, _, h => h
  | d :: a, b, h, k => by
    have h' : d.lf = true ∧ D.lfs a = true := by simpa [D.lfs] using h
    simp only [List.cons_append, D.lfs, h'.1, lfs_app h'.2 k, Bool.and_self]
theorem lfs_all {ds : List D} (h : ∀ d ∈ ds, d.lf = true) : D.lfs ds = true := by
  induction ds with
  | nil => rfl
  | cons d ds ih => simp only [D.lfs, h d (by simp), ih fun x hx => h x (by simp [hx]), Bool.and_self]
theorem lfs_one {d : D} (h : d.lf = true) : D.lfs [d] = true := by simp only [D.lfs, h, Bool.and_self]
theorem map_erase {α β : Type} (f : α → β) : ∀ (l : List α) (n : Nat), (l.eraseIdx n).map f = (l.map f).eraseIdx n
  | [], n => rfl
  | a :: l, 0 => rfl
  | a :: l, n + 1 => by simp only [List.eraseIdx_cons_succ, List.map_cons, map_erase f l n]
theorem add_tup {a b : List D} (h : a.length + b.length ≤ 4000000) : addD (.tup a) (.tup b) = some (.tup (a ++ b)) := if_pos (sz_of h)
theorem erase_perm {α : Type} : ∀ (l : List α) (n : Nat) (h : n < l.length), (l[n] :: l.eraseIdx n).Perm l
  | [], n, h => absurd h (by simp)
  | a :: l, 0, h => .refl _
  | a :: l, n + 1, h => by
    simp only [List.getElem_cons_succ, List.eraseIdx_cons_succ]
    exact (List.Perm.swap _ _ _).trans ((erase_perm l n (by simpa using h)).cons a)
theorem lcGo_some {t : Tgt} {mt : MT} {me : ME} {env : BV.Env} {Q : List D → Prop} (f : D → Prop) : ∀ (items acc : List D), (∀ x ∈ items, ∃ env1, t.put idD x env = some env1 ∧ ∀ (R : D → Prop) (S : Prop), (∀ y, f y → R y) → S → mt env1 fun b => if b = true then me env1 R else S) →
    (∀ ys, ys.length ≤ items.length → (∀ y ∈ ys, f y) → Q (acc ++ ys)) → lcGo t mt me env items acc Q
  | [], acc, _, hq => by have := hq [] (Nat.le_refl _) (fun y hy => by cases hy); simpa [lcGo] using this
  | x :: xs, acc, hs, hq => by
    obtain ⟨env1, e, h⟩ := hs x (by simp)
    refine ⟨env1, e, h _ _ (fun y hy => ?_) ?_⟩
    · refine lcGo_some f xs _ (fun z hz => hs z (by simp [hz])) fun ys hl p => ?_
      have := hq (y :: ys) (by simpa using hl) fun z hz => (List.mem_cons.mp hz).elim (fun e => by rw [e]; exact hy) (p z)
      simpa using this
    · exact lcGo_some f xs _ (fun z hz => hs z (by simp [hz])) fun ys hl p => hq ys (by simp only [List.length_cons]; omega) p
theorem aft_lf {rs : List Nat} {d : D} {env : SEnv} (h : d.lf = true) : aft rs d env = env := if_pos h
theorem str_ext {s t : Str} (h : s.cps.toList = t.cps.toList) : s = t := by
  cases s; cases t
  exact congrArg Str.mk (Array.toList_inj.mp h)
theorem low_rep {s : Str} (h : Low s) (n : Nat) : Low (repS s n) := fun c hc => by
  simp only [repS] at hc
  have hc : c ∈ (List.replicate n s.cps.toList).flatten := by simpa using hc
  obtain ⟨l, h1, h2⟩ := List.mem_flatten.mp hc
  rw [(List.mem_replicate.mp h1).2] at h2
  exact h c h2
theorem rep_len (s : Str) (n : Nat) : (repS s n).length = n * s.length := by
  rw [cps_len, cps_len]
  simp [repS, List.length_flatten, List.map_replicate, List.sum_replicate_nat]
theorem mul_rep {s : Str} {n : Nat} (h : s.length * n ≤ 1000) (hn : n ≤ 1000) : mulD (.str s) (.int (n : Int)) = some (.str (repS s n)) := by
  show (if 0 ≤ (n : Int) ∧ (n : Int) ≤ 4000000 ∧ s.length * (n : Int).toNat ≤ 4000000 then some (D.str (repS s (n : Int).toNat)) else none) = _
  rw [Int.toNat_natCast, if_pos ⟨by omega, by omega, by omega⟩]
theorem low_one {x : String} (h : ∀ c ∈ (Str.ofString x).cps.toList, 97 ≤ c ∧ c ≤ 122) {c : Nat} (hc : c ∈ (Str.ofString x).cps.toList) : ∃ s : Str, D.str ⟨#[c]⟩ = .str s ∧ Low s ∧ s.length = 1 := ⟨_, rfl, fun x hx => by
  have : x = c := by simpa using hx
  rw [this]
  exact h c hc, rfl⟩
theorem paired_len {α β : Type} {f : α → β → Prop} {xs : List α} {ys : List β} (p : Paired f xs ys) : ys.length = xs.length := by
  induction p with
  | nil => rfl
  | cons _ _ ih => simp [ih]
theorem nodup_le : ∀ {l m : List Str}, l.Nodup → (∀ s ∈ l, s ∈ m) → l.length ≤ m.length
  | [], m, _, _ => Nat.zero_le _
  | a :: l, m, h, k => by
    obtain ⟨h1, h2⟩ := List.nodup_cons.mp h
    have ha := k a (by simp)
    have := nodup_le (l := l) (m := m.erase a) h2 fun s hs => (List.mem_erase_of_ne (fun e => h1 (by rw [← e]; exact hs))).mpr (k s (by simp [hs]))
    rw [List.length_erase_of_mem ha] at this
    have := List.length_pos_of_mem ha
    simp only [List.length_cons]
    omega
theorem rng_len (n : Int) : (rngL 0 n.toNat).length = n.toNat := by simp [rngL]
end BV

/-! What repr shows of any plain data: sizes. -/
namespace BV
open PySem PySem.Spec PyProof.Rows L2 Evl

/-- printable signs and line feeds -/
def As (s : Str) : Prop := ∀ c ∈ s.cps.toList, c = 10 ∨ 32 ≤ c ∧ c ≤ 126
structure RL (k m : Nat) (d : D) : Prop where
  ch : ∀ c ∈ txt d, c < 1114112
  rf : d.rf = true
  sh : d.py.showable = true
  cl : d.pf = true → d.py.canLay0 = true
  dp : d.py.depth ≤ k
  ln : d.py.shown.length ≤ m
theorem RL.mono {k m k' m' : Nat} {d : D} (h : RL k m d) (a : k ≤ k') (b : m ≤ m') : RL k' m' d := ⟨h.ch, h.rf, h.sh, h.cl, Nat.le_trans h.dp a, Nat.le_trans h.ln b⟩
theorem RL.pl {k m : Nat} {d : D} (h : RL k m d) (p : d.pf = true) : PL k m d := ⟨h.ch, p, h.sh, h.cl p, h.dp, h.ln⟩
theorem RL.repr {k m : Nat} {d : D} (h : RL k m d) (a : k ≤ 60) (b : m ≤ 4000000) : repr2D [d] = some (.str d.py.shown) := if_pos (by
  have := h.dp
  have := h.ln
  simp only [okRepr2, h.rf, h.sh, Bool.true_and, Bool.and_eq_true, decide_eq_true_eq, szOk]
  omega)
theorem seen_of {d : D} (h : ∀ c ∈ txt d, c < 1114112) : okEq (.str d.py.shown) = true := by
  have h1 : d.py.shown.cps.all (· < 0x110000) = true := by
    rw [Array.all_eq_true_iff_forall_mem]
    intro c hc
    have := h c (Array.mem_toList_iff.mpr hc)
    simp only [decide_eq_true_eq]
    omega
  show (true && (d.py.shown.cps.all (· < 0x110000) && decide (0 ≤ 64))) = true
  rw [h1]
  rfl
theorem RL.seen {k m : Nat} {d : D} (h : RL k m d) : okEq (.str d.py.shown) = true := seen_of h.ch
theorem RL.same_eq {k m : Nat} {d : D} (h : RL k m d) : eqD (.str d.py.shown) (.str d.py.shown) = some (.bl true) := by
  rw [eqD, if_pos ⟨h.seen, h.seen⟩, (eqv_iff _ _ rfl rfl).mpr rfl]
theorem RL.same_ne {k m : Nat} {d : D} (h : RL k m d) : neD (.str d.py.shown) (.str d.py.shown) = some (.bl false) := by
  rw [neD, if_pos ⟨h.seen, h.seen⟩, (eqv_iff _ _ rfl rfl).mpr rfl]
  rfl
theorem as_char {q c : Nat} (hq : q = 39 ∨ q = 34) (h : c = 10 ∨ 32 ≤ c ∧ c ≤ 126) : (Builtin.Str.reprChar q c).length ≤ 2 ∧ ∀ x ∈ Builtin.Str.reprChar q c, x < 127 := by
  have : ∀ q ∈ [39, 34], ∀ c < 127, c = 10 ∨ 32 ≤ c → (Builtin.Str.reprChar q c).length ≤ 2 ∧ (Builtin.Str.reprChar q c).all (fun x => decide (x < 127)) = true := by decide +kernel
  obtain ⟨h1, h2⟩ := this q (by rcases hq with rfl | rfl <;> simp) c (by omega) (by omega)
  exact ⟨h1, fun x hx => by simpa using List.all_eq_true.mp h2 x hx⟩
theorem txt_as {s : Str} (h : As s) : (txt (.str s)).length ≤ 2 * s.length + 2 ∧ ∀ c ∈ txt (.str s), c < 127 := by
  have hq : reprQuote s = 39 ∨ reprQuote s = 34 := by
    unfold reprQuote
    split
    · exact .inr rfl
    · exact .inl rfl
  have key : ∀ (l : List Nat) (a : Array Nat), (∀ c ∈ l, c = 10 ∨ 32 ≤ c ∧ c ≤ 126) → (∀ c ∈ a.toList, c < 127) → (l.foldl (fun out c => out ++ (Builtin.Str.reprChar (reprQuote s) c).toArray) a).toList.length ≤ a.toList.length + 2 * l.length ∧ ∀ c ∈ (l.foldl (fun out c => out ++ (Builtin.Str.reprChar (reprQuote s) c).toArray) a).toList, c < 127 := by
    intro l
    induction l with
    | nil => intro a _ ha; exact ⟨by simp, ha⟩
    | cons c l ih =>
      intro a hl ha
      obtain ⟨h1, h2⟩ := as_char hq (hl c (by simp))
      have ih' := ih (a ++ (Builtin.Str.reprChar (reprQuote s) c).toArray) (fun x hx => hl x (by simp [hx])) fun x hx => by
        rw [Array.toList_append, List.mem_append] at hx
        rcases hx with hx | hx
        · exact ha x hx
        · exact h2 x (by simpa using hx)
      rw [List.foldl_cons]
      refine ⟨Nat.le_trans ih'.1 ?_, ih'.2⟩
      rw [Array.toList_append, List.length_append]
      simp only [List.length_cons]
      omega
  have e : txt (.str s) = (s.cps.toList.foldl (fun out c => out ++ (Builtin.Str.reprChar (reprQuote s) c).toArray) #[reprQuote s]).toList ++ [reprQuote s] := by
    show (reprText s).cps.toList = _
    unfold reprText
    rw [Array.toList_push, ← Array.foldl_toList]
  have hq' : reprQuote s < 127 := by rcases hq with h | h <;> rw [h] <;> decide
  obtain ⟨k1, k2⟩ := key s.cps.toList #[reprQuote s] h (fun c hc => by
    have : c = reprQuote s := by simpa using hc
    rw [this]; exact hq')
  rw [e]
  refine ⟨?_, fun c hc => ?_⟩
  · rw [List.length_append, cps_len s]
    simp only [List.length_cons, List.length_nil] at k1 ⊢
    omega
  · rcases List.mem_append.mp hc with hc | hc
    · exact k2 c hc
    · rw [List.mem_singleton.mp hc]; exact hq'
theorem as_lay {s : Str} (h : As s) : (D.str s).py.canLay0 = true := by
  show s.cps.all (· < 0x110000) = true
  rw [Array.all_eq_true_iff_forall_mem]
  intro c hc
  have := h c (Array.mem_toList_iff.mpr hc)
  simp only [decide_eq_true_eq]
  omega
theorem RL.str {s : Str} (h : As s) : RL 0 (2 * s.length + 2) (.str s) := by
  obtain ⟨h1, h2⟩ := txt_as h
  refine ⟨fun c hc => by have := h2 c hc; omega, rfl, rfl, fun _ => as_lay h, Nat.le_refl _, ?_⟩
  rw [txt_len]
  exact h1
theorem RL.non : RL 0 4 .non := ⟨by decide +kernel, rfl, rfl, fun _ => rfl, Nat.le_refl _, by decide +kernel⟩
theorem RL.bl (b : Bool) : RL 0 5 (.bl b) := ⟨by cases b <;> decide +kernel, rfl, rfl, fun _ => rfl, Nat.le_refl _, by cases b <;> decide +kernel⟩
theorem RL.int {i : Int} {k : Nat} (hk : 0 < k) (hk2 : k ≤ 450) (h : i.natAbs < 10 ^ k) : RL 0 (k + 1) (.int i) := by
  refine ⟨fun c hc => ?_, rfl, ?_, fun _ => rfl, Nat.le_refl _, ?_⟩
  · by_cases h1 : c < 1114112
    · exact h1
    · exact absurd hc (txt_int_free (by omega))
  · have : i.natAbs.log2 < 1920 := by
      by_cases h0 : i.natAbs = 0
      · rw [h0]; decide
      · have h2 : i.natAbs < 2 ^ 1920 := Nat.lt_of_lt_of_le h (Nat.le_trans (Nat.pow_le_pow_right (by decide) hk2) (by decide +kernel))
        exact (Nat.log2_lt h0).mpr h2
    simp only [D.py, PyData.showable, decide_eq_true_eq]
    exact this
  · rw [txt_len, txt_int]
    have := TL.numL_len (n := i.natAbs) (k := k) hk h
    split <;> (try simp only [List.length_cons]) <;> omega
theorem rfs_all {ds : List D} (h : ∀ d ∈ ds, d.rf = true) : D.rfs ds = true := by
  induction ds with
  | nil => rfl
  | cons d ds ih => simp only [D.rfs, h d (by simp), ih fun x hx => h x (by simp [hx]), Bool.and_self]
theorem pfs_mem : ∀ {ds : List D}, D.pfs ds = true → ∀ d ∈ ds, d.pf = true
  | [], _, d, hd => by cases hd
  | a :: ds, h, d, hd => by
    have h' : a.pf = true ∧ D.pfs ds = true := by simpa [D.pfs] using h
    rcases List.mem_cons.mp hd with rfl | hd
    · exact h'.1
    · exact pfs_mem h'.2 d hd
theorem RL.tup {k m : Nat} {ds : List D} (h : ∀ d ∈ ds, RL k m d) : RL (k + 1) (3 + ds.length * (m + 2)) (.tup ds) := by
  refine ⟨fun c hc => ?_, rfs_all fun d hd => (h d hd).rf, ?_, fun p => ?_, ?_, ?_⟩
  · rw [txt_tup] at hc
    simp only [List.mem_cons, List.mem_append] at hc
    rcases hc with hc | hc | hc
    · omega
    · rcases joinL_mem hc with h1 | h1 | ⟨t, h1, h2⟩
      · omega
      · omega
      · obtain ⟨d, hd, rfl⟩ := List.mem_map.mp h1
        exact (h d hd).ch c h2
    · split at hc <;> simp only [List.mem_cons, List.not_mem_nil, or_false] at hc <;> omega
  · simp only [D.py, PyData.showable, pys_map]
    exact all_sh fun p hp => by obtain ⟨d, hd, rfl⟩ := List.mem_map.mp hp; exact (h d hd).sh
  · simp only [D.py, PyData.canLay0, pys_map]
    exact all_cl fun q hp => by obtain ⟨d, hd, rfl⟩ := List.mem_map.mp hp; exact (h d hd).cl (pfs_mem p d hd)
  · simp only [D.py, PyData.depth, pys_map]
    have := all_dp (k := k) (ds := ds.map D.py) fun p hp => by obtain ⟨d, hd, rfl⟩ := List.mem_map.mp hp; exact (h d hd).dp
    omega
  · rw [txt_len, txt_tup]
    have := joinL_len (m := m) (ds.map txt) fun t ht => by obtain ⟨d, hd, rfl⟩ := List.mem_map.mp ht; rw [← txt_len]; exact (h d hd).ln
    rw [List.length_map] at this
    simp only [List.length_cons, List.length_append]
    split <;> simp only [List.length_cons, List.length_nil] <;> omega
theorem RL.lst {k m : Nat} {ds : List D} (h : ∀ d ∈ ds, RL k m d) : RL (k + 1) (2 + ds.length * (m + 2)) (.lst ds) := by
  refine ⟨fun c hc => ?_, rfs_all fun d hd => (h d hd).rf, ?_, fun p => ?_, ?_, ?_⟩
  · have hc : c ∈ (textFrom 0 (Str.ofString "[") (PyData.shownAll (D.pys ds)) ++ Str.ofString "]").cps.toList := hc
    rw [cps_toList_append, List.mem_append] at hc
    have e1 : (Str.ofString "[").cps.toList = [91] := by decide +kernel
    have e2 : (Str.ofString "]").cps.toList = [93] := by decide +kernel
    rcases hc with hc | hc
    · rcases textFrom_mem hc with h1 | h1 | h1 | ⟨t, h1, h2⟩
      · rw [e1] at h1
        simp only [List.mem_cons, List.not_mem_nil, or_false] at h1
        omega
      · omega
      · omega
      · rw [shownAll_map, pys_map] at h1
        obtain ⟨p, hp, rfl⟩ := List.mem_map.mp h1
        obtain ⟨d, hd, rfl⟩ := List.mem_map.mp hp
        exact (h d hd).ch c h2
    · rw [e2] at hc
      simp only [List.mem_cons, List.not_mem_nil, or_false] at hc
      omega
  · simp only [D.py, PyData.showable, pys_map]
    exact all_sh fun p hp => by obtain ⟨d, hd, rfl⟩ := List.mem_map.mp hp; exact (h d hd).sh
  · simp only [D.py, PyData.canLay0, pys_map]
    exact all_cl fun q hp => by obtain ⟨d, hd, rfl⟩ := List.mem_map.mp hp; exact (h d hd).cl (pfs_mem p d hd)
  · simp only [D.py, PyData.depth, pys_map]
    have := all_dp (k := k) (ds := ds.map D.py) fun p hp => by obtain ⟨d, hd, rfl⟩ := List.mem_map.mp hp; exact (h d hd).dp
    omega
  · show (textFrom 0 (Str.ofString "[") (PyData.shownAll (D.pys ds)) ++ Str.ofString "]").length ≤ _
    rw [strLen_append, shownAll_map, pys_map]
    have := textFrom_up (m := m) ((ds.map D.py).map PyData.shown) 0 (Str.ofString "[") fun t ht => by
      obtain ⟨p, hp, rfl⟩ := List.mem_map.mp ht
      obtain ⟨d, hd, rfl⟩ := List.mem_map.mp hp
      exact (h d hd).ln
    rw [List.length_map, List.length_map] at this
    have e1 : (Str.ofString "[").length = 1 := rfl
    have e2 : (Str.ofString "]").length = 1 := rfl
    omega
/-! a dict with few written keys -/
def keyTxt (k : L2.Key) : List Nat := (keyPy k).shown.cps.toList
def kvD (k : L2.Key) (d : D) : List Nat := keyTxt k ++ [58, 32] ++ txt d
theorem kv_zip : ∀ (ks : List L2.Key) (vs : List D), ks.length = vs.length → (PyData.shownKv ((ks.map keyPy).zip (D.pys vs))).map (fun t => t.cps.toList) = (ks.zip vs).map fun p => kvD p.1 p.2
  | [], [], _ => rfl
  | k :: ks, v :: vs, h => by
    have ih := kv_zip ks vs (by simpa using h)
    simp only [List.map_cons, D.pys, List.zip_cons_cons, PyData.shownKv, ih, List.cons.injEq, and_true]
    rw [cps_toList_append, cps_toList_append]
    rfl
  | [], v :: vs, h => by simp at h
  | k :: ks, [], h => by simp at h
theorem showKv : ∀ (ks : List L2.Key) (vs : List D), (∀ k ∈ ks, (keyPy k).showable = true) → (∀ d ∈ vs, d.py.showable = true) → PyData.showableKv ((ks.map keyPy).zip (D.pys vs)) = true
  | [], _, _, _ => by simp [PyData.showableKv]
  | k :: ks, [], _, _ => by simp [D.pys, PyData.showableKv]
  | k :: ks, v :: vs, h1, h2 => by
    simp only [List.map_cons, D.pys, List.zip_cons_cons, PyData.showableKv, h1 k (by simp), h2 v (by simp), showKv ks vs (fun x hx => h1 x (by simp [hx])) (fun x hx => h2 x (by simp [hx])), Bool.and_self]
theorem depthKv {n : Nat} : ∀ (ks : List L2.Key) (vs : List D), (∀ d ∈ vs, d.py.depth ≤ n) → PyData.depthKv ((ks.map keyPy).zip (D.pys vs)) ≤ n
  | [], _, _ => by simp [PyData.depthKv]
  | k :: ks, [], _ => by simp [D.pys, PyData.depthKv]
  | k :: ks, v :: vs, h => by
    have := depthKv ks vs fun x hx => h x (by simp [hx])
    have h1 := h v (by simp)
    have h0 : (keyPy k).depth = 0 := by cases k <;> rfl
    simp only [List.map_cons, D.pys, List.zip_cons_cons, PyData.depthKv]
    omega
theorem RL.dic {k m : Nat} {ks : List L2.Key} {vs : List D} (hl : ks.length = vs.length) (hk : ∀ x ∈ ks, (keyPy x).showable = true ∧ (keyTxt x).length ≤ 10 ∧ ∀ c ∈ keyTxt x, c < 127) (h : ∀ d ∈ vs, RL k m d) : RL (k + 1) (2 + vs.length * (m + 14)) (.dic ks vs) := by
  have e : txt (.dic ks vs) = 123 :: (joinL ((ks.zip vs).map fun p => kvD p.1 p.2) ++ [125]) := by
    show (dictText (PyData.shownKv ((ks.map keyPy).zip (D.pys vs)))).cps.toList = _
    unfold dictText
    have j := joinL_of (PyData.shownKv ((ks.map keyPy).zip (D.pys vs)))
    rw [kv_zip ks vs hl] at j
    rw [cps_toList_append, cps_toList_append, j]
    rfl
  have mem : ∀ p ∈ ks.zip vs, p.1 ∈ ks ∧ p.2 ∈ vs := fun p hp => List.of_mem_zip hp
  refine ⟨fun c hc => ?_, ?_, ?_, fun p => (by simp [D.pf] at p), ?_, ?_⟩
  · rw [e] at hc
    simp only [List.mem_cons, List.mem_append, List.not_mem_nil, or_false] at hc
    rcases hc with hc | hc | hc
    · omega
    · rcases joinL_mem hc with h1 | h1 | ⟨t, h1, h2⟩
      · omega
      · omega
      · obtain ⟨p, hp, rfl⟩ := List.mem_map.mp h1
        simp only [kvD, List.mem_append, List.mem_cons, List.not_mem_nil, or_false] at h2
        rcases h2 with (h2 | h2 | h2) | h2
        · have := (hk _ (mem p hp).1).2.2 c h2; omega
        · omega
        · omega
        · exact (h _ (mem p hp).2).ch c h2
    · omega
  · simp only [D.rf, rfs_all fun d hd => (h d hd).rf, hl, decide_true, Bool.and_self]
  · simp only [D.py, PyData.showable]
    exact showKv _ _ (fun x hx => (hk x hx).1) fun d hd => (h d hd).sh
  · simp only [D.py, PyData.depth]
    have := depthKv (n := k) ks vs fun d hd => (h d hd).dp
    omega
  · rw [txt_len, e]
    have := joinL_len (m := m + 12) ((ks.zip vs).map fun p => kvD p.1 p.2) fun t ht => by
      obtain ⟨p, hp, rfl⟩ := List.mem_map.mp ht
      have a := (hk _ (mem p hp).1).2.1
      have b := (h _ (mem p hp).2).ln
      rw [txt_len] at b
      simp only [kvD, List.length_append, List.length_cons, List.length_nil]
      omega
    rw [List.length_map, List.length_zip, hl, Nat.min_self, show m + 12 + 2 = m + 14 by omega] at this
    simp only [List.length_cons, List.length_append, List.length_nil]
    omega
/-! ### texts of printable signs -/
theorem As.app {a b : Str} (h : As a) (k : As b) : As (a ++ b) := fun c hc => by
  rw [cps_toList_append, List.mem_append] at hc
  exact hc.elim (h c) (k c)
theorem As.lit (x : String) (h : (Str.ofString x).cps.toList.all (fun c => decide (c = 10 ∨ 32 ≤ c ∧ c ≤ 126)) = true) : As (Str.ofString x) := fun c hc => by simpa using List.all_eq_true.mp h c hc
def isA (n : Nat) (s : Str) : Prop := s.length ≤ n ∧ As s
theorem str_len_app (a b : Str) : (a ++ b).length = a.length + b.length := strLen_append a b
theorem isA.app {m n : Nat} {a b : Str} (h : isA m a) (k : isA n b) : isA (m + n) (a ++ b) := ⟨by rw [str_len_app]; have := h.1; have := k.1; omega, h.2.app k.2⟩
theorem isA.mono {m n : Nat} {a : Str} (h : isA m a) (k : m ≤ n) : isA n a := ⟨Nat.le_trans h.1 k, h.2⟩
theorem lit_a (x : String) (n : Nat) (h : ((Str.ofString x).length ≤ n ∧ (Str.ofString x).cps.toList.all (fun c => decide (c = 10 ∨ 32 ≤ c ∧ c ≤ 126)) = true)) : isA n (Str.ofString x) := ⟨h.1, As.lit x h.2⟩
theorem add_strA {a b : Str} {m n : Nat} (h : isA m a) (k : isA n b) (hs : m + n ≤ 4000000) : addD (.str a) (.str b) = some (.str (a ++ b)) := if_pos (sz_of (by have := h.1; have := k.1; omega))
end BV

/-! Texts: parts, figures; values that come for certain. -/
namespace BV
open PySem PySem.Spec PyProof.Rows L2 Evl

/-- m gives d, whatever is wanted of it -/
def Ev (m : ME) (env : Env) (d : D) : Prop := ∀ R : D → Prop, R d → m env R
def EvT (m : MT) (env : Env) (b : Bool) : Prop := ∀ R : Bool → Prop, R b → m env R
theorem Ev.var {i : Nat} {env : Env} {d : D} (h : env[i]? = some (some d)) : Ev (mVar i) env d := fun R r => ⟨d, h, r⟩
theorem Ev.c {d : D} {env : Env} : Ev (mC d) env d := fun R r => r
theorem Ev.and {ma mb : ME} {env : Env} {a b : Bool} (ha : Ev ma env (.bl a)) (hb : a = true → Ev mb env (.bl b)) : Ev (mAndV ma mb) env (.bl (a && b)) := fun R r => ha _ ⟨a, rfl, by
  cases a with
  | true => exact hb rfl R r
  | false => exact r⟩
theorem Ev.or {ma mb : ME} {env : Env} {a b : Bool} (ha : Ev ma env (.bl a)) (hb : a = false → Ev mb env (.bl b)) : Ev (mOrV ma mb) env (.bl (a || b)) := fun R r => ha _ ⟨a, rfl, by
  cases a with
  | true => exact r
  | false => exact hb rfl R r⟩
theorem Ev.not {ma : ME} {env : Env} {a : Bool} (ha : Ev ma env (.bl a)) : Ev (mNotV ma) env (.bl (!a)) := fun R r => ha _ ⟨a, rfl, r⟩
theorem Ev.op {g : D → D → Option D} {ma mb : ME} {env : Env} {x y u : D} (ha : Ev ma env x) (hb : Ev mb env y) (h : g x y = some u) : Ev (mOp g ma mb) env u := fun R r => ha _ (hb _ ⟨u, h, r⟩)
theorem Ev.isi {T : String} {ma : ME} {env : Env} {x : D} {b : Bool} (ha : Ev ma env x) (h : isiD T x = some b) : Ev (mIsi T ma) env (.bl b) := fun R r => ha _ ⟨b, h, r⟩
theorem Ev.len {ma : ME} {env : Env} {x u : D} (ha : Ev ma env x) (h : lenD [x] = some u) : Ev (mCB lenD (maCons ma maNil)) env u := fun R r => ha _ ⟨u, h, r⟩
theorem Ev.call1 {sp : SpD} {ma : ME} {env : Env} {x u : D} (ha : Ev ma env x) (h : ∀ T : D → Prop, T u → sp [x] T) : Ev (mCall sp (maCons ma maNil)) env u := fun R r => ha _ ⟨fun d => d = u, h _ rfl, fun d e => by rw [e]; exact r⟩
theorem Ev.call2 {sp : SpD} {ma mb : ME} {env : Env} {x y u : D} (ha : Ev ma env x) (hb : Ev mb env y) (h : ∀ T : D → Prop, T u → sp [x, y] T) : Ev (mCall sp (maCons ma (maCons mb maNil))) env u := fun R r => ha _ (hb _ ⟨fun d => d = u, h _ rfl, fun d e => by rw [e]; exact r⟩)
theorem EvT.bl {m : ME} {env : Env} {b : Bool} (h : Ev m env (.bl b)) : EvT (tBl m) env b := fun R r => h _ ⟨b, rfl, r⟩
theorem EvT.not {m : MT} {env : Env} {b : Bool} (h : EvT m env b) : EvT (mNotT m) env (!b) := fun R r => h _ r
theorem EvT.and {ma mb : MT} {env : Env} {a b : Bool} (ha : EvT ma env a) (hb : a = true → EvT mb env b) : EvT (mAndT ma mb) env (a && b) := fun R r => ha _ (by
  cases a with
  | true => exact hb rfl R r
  | false => exact r)
theorem EvT.or {ma mb : MT} {env : Env} {a b : Bool} (ha : EvT ma env a) (hb : a = false → EvT mb env b) : EvT (mOrT ma mb) env (a || b) := fun R r => ha _ (by
  cases a with
  | true => exact r
  | false => exact hb rfl R r)
theorem Ev.of {m : ME} {env : Env} {d e : D} (h : Ev m env d) (q : d = e) : Ev m env e := q ▸ h
theorem EvT.of {m : MT} {env : Env} {d e : Bool} (h : EvT m env d) (q : d = e) : EvT m env e := q ▸ h
/-- if t: a, else b -/
theorem ifS {rs : List Nat} {t : MT} {a b : MS} {E : EndD} {env : SEnv} {c : Bool} (h : EvT t (view rs 0 env) c) (k : if c = true then a E env else b E env) : mIfS rs t a b E env := h _ k
theorem retS {rs : List Nat} {m : ME} {E : EndD} {env : SEnv} {d : D} (h : Ev m (view rs 0 env) d) (k : E.rt d) : mRet rs m E env := h _ k

/-! ### lists of codes -/
theorem part_spec (x : Str) (c : Nat) : (c ∉ x.cps.toList ∧ Txt.partition x ⟨#[c]⟩ = (x, Str.empty, Str.empty)) ∨ ∃ a f : Str, Txt.partition x ⟨#[c]⟩ = (a, ⟨#[c]⟩, f) ∧ x.cps.toList = a.cps.toList ++ c :: f.cps.toList ∧ c ∉ a.cps.toList := by
  rcases PySem.StrLaws.occ_head x ⟨#[c]⟩ 1 (Nat.le_refl _) with ⟨h, hn⟩ | ⟨i, r, h, ha, hn⟩
  · refine .inl ⟨?_, ?_⟩
    · have := PySem.StrLaws.part_free x c 0 x.length (Nat.le_refl _) fun k _ _ => hn k
      rwa [PySem.StrLaws.sub_whole] at this
    · unfold Txt.partition
      rw [h]
  · refine .inr ⟨Builtin.Str.strSub x 0 i, Builtin.Str.strSub x (i + 1) x.length, ?_, ?_, ?_⟩
    · unfold Txt.partition
      rw [h]
      rfl
    · have := PySem.StrLaws.sub_cat x ⟨#[c]⟩ (Nat.zero_le i) ha
      rw [PySem.StrLaws.sub_whole] at this
      have e := congrArg (fun s : Str => s.cps.toList) this
      rw [cps_toList_append, cps_toList_append] at e
      rw [← e, List.append_assoc]
      rfl
    · refine PySem.StrLaws.part_free x c 0 i ?_ fun k _ hk => hn k hk
      have := ha.1
      omega
theorem split_ne (x : Str) (c : Nat) : Txt.split x ⟨#[c]⟩ ≠ [] := fun e => by
  have := split_pos x ⟨#[c]⟩
  rw [e] at this
  simp at this
theorem free_uniq {c : Nat} : ∀ {a b f g : List Nat}, c ∉ a → c ∉ b → a ++ c :: f = b ++ c :: g → a = b ∧ f = g
  | [], [], f, g, _, _, h => ⟨rfl, by simpa using h⟩
  | [], y :: b, f, g, _, hb, h => by
    simp only [List.nil_append, List.cons_append, List.cons.injEq] at h
    exact absurd (by rw [h.1]; simp) hb
  | x :: a, [], f, g, ha, _, h => by
    simp only [List.nil_append, List.cons_append, List.cons.injEq] at h
    exact absurd (by rw [← h.1]; simp) ha
  | x :: a, y :: b, f, g, ha, hb, h => by
    simp only [List.cons_append, List.cons.injEq] at h
    obtain ⟨e1, e2⟩ := free_uniq (fun q => ha (by simp [q])) (fun q => hb (by simp [q])) h.2
    exact ⟨by rw [h.1, e1], e2⟩
/-- the parts: none, one, or more points -/
theorem split_cases (x : Str) (c : Nat) : (c ∉ x.cps.toList ∧ Txt.split x ⟨#[c]⟩ = [x]) ∨ (∃ a f : Str, Txt.split x ⟨#[c]⟩ = [a, f] ∧ x.cps.toList = a.cps.toList ++ c :: f.cps.toList ∧ c ∉ a.cps.toList ∧ c ∉ f.cps.toList) ∨
    ∃ (a : Str) (f : List Nat), 2 < (Txt.split x ⟨#[c]⟩).length ∧ x.cps.toList = a.cps.toList ++ c :: f ∧ c ∉ a.cps.toList ∧ c ∈ f := by
  have hf := PySem.StrLaws.split_free x c
  have hj := PySem.StrLaws.join_split x ⟨#[c]⟩
  have hn := split_ne x c
  generalize Txt.split x ⟨#[c]⟩ = ps at hf hj hn ⊢
  match ps, hf, hj, hn with
  | [], _, _, h => exact absurd rfl h
  | [a], hf, hj, _ =>
    have e : a = x := hj
    subst e
    exact .inl ⟨hf a (by simp), rfl⟩
  | [a, f], hf, hj, _ =>
    refine .inr (.inl ⟨a, f, rfl, ?_, hf a (by simp), hf f (by simp)⟩)
    have e := congrArg (fun s : Str => s.cps.toList) (show a ++ ⟨#[c]⟩ ++ f = x from hj)
    rw [cps_toList_append, cps_toList_append, List.append_assoc] at e
    exact e.symm
  | a :: b :: d :: r, hf, hj, _ =>
    have e := congrArg (fun s : Str => s.cps.toList) (show a ++ ⟨#[c]⟩ ++ (b ++ ⟨#[c]⟩ ++ Str.join ⟨#[c]⟩ (d :: r)) = x from hj)
    rw [cps_toList_append, cps_toList_append, List.append_assoc] at e
    refine .inr (.inr ⟨a, (b ++ (⟨#[c]⟩ : Str) ++ Str.join ⟨#[c]⟩ (d :: r)).cps.toList, by simp, e.symm, hf a (by simp), ?_⟩)
    rw [cps_toList_append, cps_toList_append, List.append_assoc]
    exact List.mem_append_right _ (by show c ∈ c :: _; simp)
end BV

/-! Leaders: the mathematics of the tree that made_alike grows. -/
namespace BV
open PySem PySem.Spec PyProof.Rows L2 Evl
abbrev Ky := L2.Key
/-- each key leads on, towards its leader; rk falls on the way -/
structure UF (kvs : List (Ky × V)) (rep : Ky → Ky) (rk : Ky → Nat) : Prop where
  up : ∀ t v, valV kvs t = some v → ∃ u, v = kV u ∧ rep u = rep t ∧ rk u < rk t
  top : ∀ t, valV kvs t = none → rep t = t
  ld : ∀ t, valV kvs (rep t) = none
theorem kV_inj {a b : Ky} (h : kV a = kV b) : a = b := by
  cases a <;> cases b <;> simp_all [kV]
theorem kV_eq {a b : Ky} : (kV a = kV b) ↔ a = b := ⟨kV_inj, fun h => by rw [h]⟩
section
variable {kvs : List (Ky × V)} {rep : Ky → Ky} {rk : Ky → Nat}
theorem UF.idem (U : UF kvs rep rk) (t : Ky) : rep (rep t) = rep t := U.top _ (U.ld t)
theorem UF.lt (U : UF kvs rep rk) : ∀ (n : Nat) (t : Ky), rk t ≤ n → rep t ≠ t → rk (rep t) < rk t
  | 0, t, h, ne => by
    cases e : valV kvs t with
    | none => exact absurd (U.top t e) ne
    | some v =>
      obtain ⟨u, _, _, q⟩ := U.up t v e
      omega
  | n + 1, t, h, ne => by
    cases e : valV kvs t with
    | none => exact absurd (U.top t e) ne
    | some v =>
      obtain ⟨u, _, r, q⟩ := U.up t v e
      by_cases hu : rep u = u
      · rw [← r, hu]; exact q
      · have := U.lt n u (by omega) hu
        rw [r] at this
        omega
theorem UF.some (U : UF kvs rep rk) {t : Ky} (h : rep t ≠ t) : ∃ v, valV kvs t = some v := by
  cases e : valV kvs t with
  | none => exact absurd (U.top t e) h
  | some v => exact ⟨v, rfl⟩
/-- a key on the way gets the leader itself -/
theorem UF.press (U : UF kvs rep rk) {t : Ky} (h : rep t ≠ t) : UF (putK kvs t (kV (rep t))) rep rk := by
  obtain ⟨v, hv⟩ := U.some h
  refine ⟨fun s w e => ?_, fun s e => ?_, fun s => ?_⟩
  · rw [valV_put] at e
    by_cases hs : s = t
    · rw [if_pos hs] at e
      cases e
      rw [hs]
      exact ⟨rep t, rfl, U.idem t, U.lt _ t (Nat.le_refl _) h⟩
    · rw [if_neg hs] at e
      exact U.up s w e
  · rw [valV_put] at e
    by_cases hs : s = t
    · rw [if_pos hs] at e; cases e
    · rw [if_neg hs] at e
      exact U.top s e
  · rw [valV_put, if_neg (fun e => by have := U.ld s; rw [e, hv] at this; cases this)]
    exact U.ld s
theorem put_len {k : Ky} {v w : V} (h : valV kvs k = some w) : (putK kvs k v).length = kvs.length := by
  unfold putK
  rw [valV_any, h]
  simp
/-- b's lot gets a as its leader -/
def joinR (rep : Ky → Ky) (a b : Ky) : Ky → Ky := fun t => if rep t = b then a else rep t
theorem UF.join (U : UF kvs rep rk) {x y : Ky} (h : rep x ≠ rep y) : ∃ rk', UF (putK kvs (rep y) (kV (rep x))) (joinR rep (rep x) (rep y)) rk' := by
  refine ⟨fun t => if rep t = rep y then rk t + rk (rep x) + 1 else rk t, fun s w e => ?_, fun s e => ?_, fun s => ?_⟩
  · rw [valV_put] at e
    by_cases hs : s = rep y
    · rw [if_pos hs] at e
      cases e
      refine ⟨rep x, rfl, ?_, ?_⟩
      · unfold joinR
        rw [U.idem, if_neg h, hs, U.idem, if_pos rfl]
      · show (if rep (rep x) = rep y then _ else _) < (if rep s = rep y then _ else _)
        rw [U.idem, if_neg h, hs, U.idem, if_pos rfl]
        omega
    · rw [if_neg hs] at e
      obtain ⟨u, e1, e2, e3⟩ := U.up s w e
      refine ⟨u, e1, ?_, ?_⟩
      · unfold joinR
        rw [e2]
      · show (if rep u = rep y then _ else _) < (if rep s = rep y then _ else _)
        rw [e2]
        split <;> omega
  · rw [valV_put] at e
    by_cases hs : s = rep y
    · rw [if_pos hs] at e; cases e
    · rw [if_neg hs] at e
      have := U.top s e
      unfold joinR
      rw [this, if_neg hs]
  · rw [valV_put]
    unfold joinR
    by_cases hs : rep s = rep y
    · rw [if_pos hs, if_neg h]
      exact U.ld x
    · rw [if_neg hs, if_neg hs]
      exact U.ld s
theorem UF.start : UF [] id fun _ => 0 := ⟨fun t v e => (nomatch e), fun _ _ => rfl, fun _ => rfl⟩
end
/-- begins with a question mark -/
def frS (s : Str) : Bool := decide (s.cps.toList.take 1 = [63])
def frK : Ky → Bool
  | .inl _ => false
  | .inr s => frS s
def ltK : Ky → Ky → Bool
  | .inr s, .inr t => decide (s.cps.toList < t.cps.toList)
  | _, _ => false
/-- whether the second is to lead -/
def swK (a b : Ky) : Bool := frK a && (!frK b || ltK b a)
/-- two terms are made alike -/
def mrg (rep : Ky → Ky) (x y : Ky) : Option (Ky → Ky) :=
  if rep x = rep y then some rep
  else if frK (rep x) = false ∧ frK (rep y) = false then none
  else if swK (rep x) (rep y) = true then some (joinR rep (rep y) (rep x)) else some (joinR rep (rep x) (rep y))
def runU : Nat → (Ky → Ky) → List (Ky × Ky) → Sum Nat (Ky → Ky)
  | _, rep, [] => .inr rep
  | i, rep, (x, y) :: r => match mrg rep x y with
    | none => .inl i
    | some rep' => runU (i + 1) rep' r
end BV

/-! Promises of is_free, leader_of, made_alike over the heap. -/
namespace BV
open PySem PySem.Spec PyProof.Rows L2 Evl
theorem upd_self {H : Hp} {a : Addr} {x : HO} (h : H a = some x) : upd H a x = H := by
  funext b
  by_cases e : b = a
  · rw [e, upd_same, h]
  · rw [upd_ne e]
def kOf : V → Ky
  | .int i => .inl i
  | .str s => .inr s
  | _ => .inl 0
theorem kOf_kV (k : Ky) : kOf (kV k) = k := by cases k <;> rfl
theorem scal_k (a b : Ky) : scal (kV a) (kV b) = true := by cases a <;> cases b <;> rfl
theorem dec_k (a b : Ky) : decide (kV a = kV b) = decide (a = b) := by
  by_cases h : a = b
  · rw [h]; simp
  · rw [decide_eq_false h, decide_eq_false fun e => h (kV_inj e)]
/-- leader_of(leaders, term) -/
def spLead : Sp := fun vs H Q _ => ∃ (a : Addr) (kvs : List (Ky × V)) (t : Ky) (rep : Ky → Ky) (rk : Ky → Nat), vs = [.ref a, kV t] ∧ H a = some (.dK kvs) ∧ kvs.length ≤ 100000 ∧ UF kvs rep rk ∧
  ∀ kvs', UF kvs' rep rk → kvs'.length = kvs.length → Q (kV (rep t)) (upd H a (.dK kvs'))
/-- made_alike(leaders, one, other) -/
def spMade : Sp := fun vs H Q _ => ∃ (a : Addr) (kvs : List (Ky × V)) (x y : Ky) (rep : Ky → Ky) (rk : Ky → Nat), vs = [.ref a, kV x, kV y] ∧ H a = some (.dK kvs) ∧ kvs.length ≤ 90000 ∧ UF kvs rep rk ∧ (∀ s, rep x = .inr s → s.length ≤ 100000) ∧ (∀ s, rep y = .inr s → s.length ≤ 100000) ∧
  (mrg rep x y = none → ∀ kvs', Q (.bl false) (upd H a (.dK kvs'))) ∧
  ∀ rep', mrg rep x y = some rep' → ∀ kvs' rk', UF kvs' rep' rk' → kvs'.length ≤ kvs.length + 1 → Q (.bl true) (upd H a (.dK kvs'))
/-- is_free(term) -/
def spFree : Sp := fun vs H Q _ => ∃ t : Ky, vs = [kV t] ∧ (∀ s, t = .inr s → s.length ≤ 100000) ∧ Q (.bl (frK t)) H
/-- a def of the program, by a promise over the heap -/
structure KG (P : Program) (w : World) (K : PySem.W.Frag) (mg : Str → Option Value) (base : Heap) (CX : CXT) (x : Str) (k : Nat) (ps : List Str) (sp : Sp) : Prop where
  ex : ∃ (f : Addr) (fd : FuncData), FnG P w K mg base CX k f fd ps sp ∧ Binds K fd ps [] ∧ PySem.W.keepIn K (.ref f) = true ∧ mg x = some (.ref f)
section
variable {X : Cx} {CX : CXT} {j k : Nat} {ps : List Str} {sp : Sp} {x : Str} {p pos : Pos} {e : Expr} {es : List Expr} {t : TA}
theorem pe_callH (G : KG X.prog X.w X.K X.mg X.base CX0 x j ps sp) (hr : Room k X.A) (hj : j ≤ k) (hgd : X.A.guards = some []) (ha : PA X (e :: es) t) (hg : Gl X x := by rfl) (hdb : (x == ("__debug__" : Str)) = false := by decide) (he : starEach (e :: es) X.env = (false, eval e X.env) :: starEach es X.env := by rfl)
    (hpl : (backTo pos (starEach es X.env)).any (·.1) = false := by rfl) : PE X (.Call (.Name x p) (e :: es) [] pos) (tCall sp [] E0 t) := by
  obtain ⟨f, fd, F, b, kp, gm⟩ := G.ex
  exact pe_callG F (hr.mono hj) hgd hg gm kp b pass0 ha hdb he hpl
end
/-- what is known of the class NoUnifier and of its __init__ -/
structure NoU (K : PySem.W.Frag) (mg : Str → Option Value) (C fI : Addr) : Prop where
  ox : OexC K C
  gC : mg "NoUnifier" = some (.ref C)
  iC : PySem.W.findIn K (.ref C) "__init__" = some (some (.ref fI))
  tI : PySem.W.typeIn K (.ref fI) = some (.type "function")
  nf : PySem.W.findIn K (.ref C) "place" = some none
/-- self.place = place -/
def spInit (C : Addr) : Sp := fun vs H Q _ => ∃ (a : Addr) (v : V), vs = [.ref a, v] ∧ H a = some (exo a C none) ∧ ∀ dx, H dx = none → dx ≠ a → Q .non (upd (upd H dx (exd dx [("place", v)])) a (exo a C (some dx)))
def kd : Ky → D
  | .inl i => .int i
  | .inr s => .str s
/-- an equation as data -/
def isEq (d : D) (e : Ky × Ky) : Prop := d = .tup [kd e.1, kd e.2] ∨ d = .pr [kd e.1, kd e.2]
/-- the terms of equations, in order -/
def termsOf : List (Ky × Ky) → List Ky
  | [] => []
  | e :: r => e.1 :: e.2 :: termsOf r
def frStr : Ky → Option Str
  | .inr s => if frS s then some s else none
  | .inl _ => none
/-- their variables, ascending, as the program's own variables_of tells them -/
structure EqsD (d : D) (es : List (Ky × Ky)) : Prop where
  ex : ∃ items, d = .tup items ∧ Paired isEq items es
  len : es.length ≤ 80000
  sh : ∀ t ∈ termsOf es, ∀ s, t = .inr s → s.length ≤ 100000
/-- unified(equations): vars is what variables_of tells of the terms -/
def spUni (K : PySem.W.Frag) (C : Addr) (spV : SpD) : Sp := fun vs H Q E => ∃ (v : V) (z : Pz) (C0 : Hp) (d : D) (es : List (Ky × Ky)), vs = [v] ∧ Ok z C0 H ∧ Dn K C0 z.p d v ∧ EqsD d es ∧
  match runU 0 id es with
  | .inl i => ∀ dx C' H', H dx = none → Tr z C0 H C' H' → C' dx = none → H' dx = some (.xd [("place", .int (i : Nat))]) → E (.ref C) (some dx) H'
  | .inr rep => ∃ T : D → Prop, spV [.lst ((termsOf es).map kd)] T ∧ ∀ u, T u → ∃ xs : List Str, u = .tup (xs.map D.str) ∧ xs.length ≤ 80000 ∧
      ∀ v C' H', Tr z C0 H C' H' → Dn K C' z.p (.tup (xs.map fun s => .tup [.str s, kd (rep (.inr s))])) v → Q v H'
theorem dn_kd {K : PySem.W.Frag} {C : Hp} {pu : Addr} {k : Ky} {v : V} : Dn K C pu (kd k) v ↔ v = kV k := by
  cases k with
  | inl i => exact dn_int
  | inr s => exact dn_str
theorem eq_dn {K : PySem.W.Frag} {C : Hp} {pu : Addr} {d : D} {e : Ky × Ky} {v : V} (h : isEq d e) (dn : Dn K C pu d v) : ∃ a, v = .ref a ∧ SqT K C a [kV e.1, kV e.2] := by
  have key : ∀ xs, Dns K C pu [kd e.1, kd e.2] xs → xs = [kV e.1, kV e.2] := fun xs q => by
    obtain ⟨v, w, e1, e2, e3⟩ := dns2 q
    rw [e1, dn_kd.mp e2, dn_kd.mp e3]
  rcases h with h | h
  · rw [h] at dn
    obtain ⟨a, xs, e1, e2, e3⟩ := dn_tup dn
    rw [key xs e3] at e2
    exact ⟨a, e1, e2⟩
  · rw [h] at dn
    obtain ⟨a, xs, e1, e2, e3⟩ := dn_pr.mp dn
    rw [key xs e3] at e2
    exact ⟨a, e1, e2⟩
theorem mem_terms {es : List (Ky × Ky)} {e : Ky × Ky} (h : e ∈ es) : e.1 ∈ termsOf es ∧ e.2 ∈ termsOf es := by
  induction es with
  | nil => cases h
  | cons f r ih =>
    rcases List.mem_cons.mp h with h | h
    · subst h; simp [termsOf]
    · have := ih h
      simp only [termsOf, List.mem_cons]
      exact ⟨.inr (.inr this.1), .inr (.inr this.2)⟩
theorem mrg_in {S : Ky → Prop} {rep rep' : Ky → Ky} {x y : Ky} (h : mrg rep x y = some rep') (hS : ∀ t, S t → S (rep t)) (hx : S x) (hy : S y) : ∀ t, S t → S (rep' t) := fun t ht => by
  unfold mrg at h
  split at h
  · cases h; exact hS t ht
  · split at h
    · cases h
    · split at h
      · cases h
        unfold joinR
        split
        · exact hS y hy
        · exact hS t ht
      · cases h
        unfold joinR
        split
        · exact hS x hx
        · exact hS t ht
theorem runU_at {es : List (Ky × Ky)} {i : Nat} {e : Ky × Ky} (h : es[i]? = some e) (j : Nat) (rep : Ky → Ky) : runU j rep (es.drop i) = match mrg rep e.1 e.2 with
    | none => .inl j
    | some rep' => runU (j + 1) rep' (es.drop (i + 1)) := by
  have hi : i < es.length := (List.getElem?_eq_some_iff.mp h).1
  rw [List.drop_eq_getElem_cons hi]
  have : es[i] = e := by rw [List.getElem?_eq_getElem hi] at h; exact Option.some.inj h
  rw [this]
  rfl
/-- the heap behind a raise, as the caller tells it -/
theorem heap_raised {H1 : Hp} {a2 dx : Addr} {u : HO} {x : HO} (h2 : H1 a2 = none) (ne : dx ≠ a2) {y z : HO} : upd (del (upd (upd (upd H1 a2 x) dx y) a2 z) a2) dx u = upd H1 dx u := by
  funext b
  by_cases hb : b = dx
  · rw [hb, upd_same, upd_same]
  · rw [upd_ne hb, upd_ne hb]
    by_cases hc : b = a2
    · rw [hc, del_same, h2]
    · rw [del_ne hc, upd_ne hc, upd_ne hb, upd_ne hc]
/-- the terms of equations are gone through -/
theorem lc2_terms {env : BV.Env} (h6 : 8 < env.length) {Q : List D → Prop} : ∀ {items : List D} {es : List (Ky × Ky)} (acc : List D), Paired isEq items es → acc.length + 2 * es.length ≤ 1000000 → Q (acc ++ (termsOf es).map kd) →
    lcGo2 (.nm 6) (mSeqI (mVar 6)) [7] (.nm 7) mYes (mVar 7) env items acc Q
  | _, _, acc, .nil, _, q => by simpa [lcGo2, termsOf] using q
  | _, e :: es, acc, .cons h hs, hl, q => by
    rw [List.length_cons] at hl
    have g6 : ∀ d : D, (env.set 6 (some (idD d)))[6]? = some (some d) := fun d => List.getElem?_set_self (by omega)
    have step : ∀ (d : D), itemsD d = some [kd e.1, kd e.2] → ∃ env1, (Tgt.nm 6).put idD d env = some env1 ∧ mSeqI (mVar 6) env1 fun items => szOk (acc.length + items.length + 1) = true ∧ lcGo (.nm 7) mYes (mVar 7) (wipeE env1 [7]) items acc fun acc' => lcGo2 (.nm 6) (mSeqI (mVar 6)) [7] (.nm 7) mYes (mVar 7) env _ acc' Q := fun d hd => by
      refine ⟨_, rfl, d, g6 d, _, hd, decide_eq_true (by simp only [List.length_cons, List.length_nil]; omega), ?_⟩
      have g7 : ∀ (env' : BV.Env) (d : D), 8 < env'.length → (env'.set 7 (some (idD d)))[7]? = some (some d) := fun env' d h => List.getElem?_set_self (by omega)
      have hl' : 8 < (wipeE (env.set 6 (some (idD d))) [7]).length := by
        show 8 < ((env.set 6 (some (idD d))).set 7 none).length
        rw [List.length_set, List.length_set]
        exact h6
      refine ⟨_, rfl, kd e.1, g7 _ _ hl', _, rfl, kd e.2, g7 _ _ hl', ?_⟩
      show lcGo2 _ _ _ _ _ _ _ _ ((acc ++ [kd e.1]) ++ [kd e.2]) _
      refine lc2_terms h6 _ hs (by simp only [List.length_append, List.length_cons, List.length_nil]; omega) ?_
      have : (acc ++ [kd e.1] ++ [kd e.2]) ++ (termsOf es).map kd = acc ++ (termsOf (e :: es)).map kd := by simp [termsOf]
      rw [this]
      exact q
    rcases h with h | h
    · rw [h]; exact step _ rfl
    · rw [h]; exact step _ rfl
theorem paired_ix {α β : Type} {F : α → β → Prop} : ∀ {l : List α} {r : List β} {i : Nat}, Paired F l r → (h : i < l.length) → (h' : i < r.length) → F l[i] r[i]
  | _, _, 0, .cons q _, _, _ => q
  | _ :: _, _ :: _, i + 1, .cons _ t, h, h' => paired_ix t (i := i) (by simpa using h) (by simpa using h')
end BV

/-! Terms that equations make alike; the place where two values become alike. -/
namespace BV
open PySem PySem.Spec PyProof.Rows L2 Evl
abbrev Eqs := List (Ky × Ky)
inductive Al (es : Eqs) : Ky → Ky → Prop
  | rf (a : Ky) : Al es a a
  | st {e : Ky × Ky} (h : e ∈ es) : Al es e.1 e.2
  | sy {a b : Ky} (h : Al es a b) : Al es b a
  | tr {a b c : Ky} (h : Al es a b) (k : Al es b c) : Al es a c
theorem Al.by {es fs : Eqs} (h : ∀ e ∈ es, Al fs e.1 e.2) {a b : Ky} (k : Al es a b) : Al fs a b := by
  induction k with
  | rf a => exact .rf a
  | st m => exact h _ m
  | sy _ i => exact .sy i
  | tr _ _ i j => exact .tr i j
theorem Al.sub {es fs : Eqs} (h : ∀ e ∈ es, e ∈ fs) {a b : Ky} (k : Al es a b) : Al fs a b := k.by fun e m => .st (h e m)
def Clash (es : Eqs) : Prop := ∃ a b, frK a = false ∧ frK b = false ∧ a ≠ b ∧ Al es a b
theorem Clash.by {es fs : Eqs} (h : ∀ e ∈ es, Al fs e.1 e.2) (c : Clash es) : Clash fs := by
  obtain ⟨a, b, h1, h2, h3, h4⟩ := c
  exact ⟨a, b, h1, h2, h3, h4.by h⟩
theorem Clash.sub {es fs : Eqs} (h : ∀ e ∈ es, e ∈ fs) (c : Clash es) : Clash fs := c.by fun e m => .st (h e m)
theorem no_clash : ¬ Clash [] := fun ⟨a, b, h1, h2, h3, h4⟩ => by
  have : ∀ {x y}, Al [] x y → x = y := fun {x y} k => by
    induction k with
    | rf a => rfl
    | st m => cases m
    | sy _ i => exact i.symm
    | tr _ _ i j => exact i.trans j
  exact h3 (this h4)
/-- the place of the first clash -/
def IsPl (es : Eqs) : Option Nat → Prop
  | none => ¬ Clash es
  | some p => p < es.length ∧ Clash (es.take (p + 1)) ∧ ¬ Clash (es.take p)
theorem clash_take {es : Eqs} {m n : Nat} (h : m ≤ n) (c : Clash (es.take m)) : Clash (es.take n) := c.sub fun e he => List.mem_of_mem_take (by
  have : es.take m = (es.take n).take m := by rw [List.take_take, Nat.min_eq_left h]
  rw [this] at he
  exact he)
theorem clash_all {es : Eqs} {m : Nat} (c : Clash (es.take m)) : Clash es := c.sub fun e he => List.mem_of_mem_take he
theorem IsPl.uniq {es : Eqs} : ∀ {o o' : Option Nat}, IsPl es o → IsPl es o' → o = o'
  | none, none, _, _ => rfl
  | none, some p, h, h' => absurd (clash_all h'.2.1) h
  | some p, none, h, h' => absurd (clash_all h.2.1) h'
  | some p, some q, h, h' => by
    by_cases e : p = q
    · rw [e]
    · rcases Nat.lt_or_gt_of_ne e with l | l
      · exact absurd (clash_take l h.2.1) h'.2.2
      · exact absurd (clash_take l h'.2.1) h.2.2
theorem IsPl.clash {es : Eqs} {o : Option Nat} (h : IsPl es o) : Clash es ↔ o ≠ none := by
  cases o with
  | none => exact ⟨fun c => absurd c h, fun c => absurd rfl c⟩
  | some p => exact ⟨fun _ => fun e => (nomatch e), fun _ => clash_all h.2.1⟩
/-! ### the program's leaders -/
structure RI (es : Eqs) (rep : Ky → Ky) : Prop where
  al : ∀ a b, rep a = rep b ↔ Al es a b
  im : ∀ a, rep (rep a) = rep a
  vl : ∀ a, frK a = false → rep a = a
theorem RI.free {es : Eqs} {rep : Ky → Ky} (r : RI es rep) : ¬ Clash es := fun ⟨a, b, h1, h2, h3, h4⟩ => h3 (by
  have := (r.al a b).mpr h4
  rwa [r.vl a h1, r.vl b h2] at this)
theorem RI.start : RI [] id := ⟨fun a b => ⟨fun h => by cases h; exact .rf _, fun k => by
    induction k with
    | rf a => rfl
    | st m => cases m
    | sy _ i => exact i.symm
    | tr _ _ i j => exact i.trans j⟩, fun _ => rfl, fun _ _ => rfl⟩
theorem al_snoc {β : Type} {es : Eqs} {e : Ky × Ky} {a b : Ky} (f : Ky → β) (hf : ∀ s t, Al es s t → f s = f t) (he : f e.1 = f e.2) (k : Al (es ++ [e]) a b) : f a = f b := by
  induction k with
  | rf a => rfl
  | @st e' m =>
    rcases List.mem_append.mp m with m | m
    · exact hf _ _ (.st m)
    · have : e' = e := by simpa using m
      rw [this]
      exact he
  | sy _ i => exact i.symm
  | tr _ _ i j => exact i.trans j
theorem al_up {es : Eqs} {e : Ky × Ky} {a b : Ky} (k : Al es a b) : Al (es ++ [e]) a b := k.sub fun x hx => List.mem_append_left _ hx
theorem al_new {es : Eqs} {e : Ky × Ky} : Al (es ++ [e]) e.1 e.2 := .st (by simp)
theorem RI.rep {es : Eqs} {rep : Ky → Ky} (r : RI es rep) (a : Ky) : Al es (rep a) a := (r.al _ _).mp (r.im a)
theorem RI.joined {es : Eqs} {rep : Ky → Ky} (r : RI es rep) {a b : Ky} {e : Ky × Ky} (hab : (a = rep e.1 ∧ b = rep e.2) ∨ (a = rep e.2 ∧ b = rep e.1)) (hne : a ≠ b) (hb : frK b = true) : RI (es ++ [e]) (joinR rep a b) := by
  have ha : rep a = a := by rcases hab with ⟨h, _⟩ | ⟨h, _⟩ <;> (rw [h]; exact r.im _)
  have hb' : rep b = b := by rcases hab with ⟨_, h⟩ | ⟨_, h⟩ <;> (rw [h]; exact r.im _)
  have hl : Al (es ++ [e]) a b := by
    rcases hab with ⟨h1, h2⟩ | ⟨h1, h2⟩
    · rw [h1, h2]; exact .tr (al_up (r.rep _)) (.tr al_new (.sy (al_up (r.rep _))))
    · rw [h1, h2]; exact .tr (al_up (r.rep _)) (.tr (.sy al_new) (.sy (al_up (r.rep _))))
  have hj : ∀ s, Al (es ++ [e]) (joinR rep a b s) s := fun s => by
    unfold joinR
    by_cases h : rep s = b
    · rw [if_pos h]; exact .tr hl (by rw [← h]; exact al_up (r.rep s))
    · rw [if_neg h]; exact al_up (r.rep s)
  have heq : joinR rep a b e.1 = joinR rep a b e.2 := by
    unfold joinR
    rcases hab with ⟨h1, h2⟩ | ⟨h1, h2⟩
    · rw [← h1, ← h2, if_neg hne, if_pos rfl]
    · rw [← h1, ← h2, if_neg hne, if_pos rfl]
  refine ⟨fun s t => ⟨fun h => .tr (.sy (hj s)) (by rw [h]; exact hj t), fun k => al_snoc _ (fun s t q => by unfold joinR; rw [(r.al s t).mpr q]) heq k⟩, fun s => ?_, fun v hv => ?_⟩
  · unfold joinR
    by_cases h : rep s = b
    · rw [if_pos h, ha, if_neg hne]
    · rw [if_neg h, r.im, if_neg h]
  · unfold joinR
    rw [r.vl v hv, if_neg fun q => by rw [q, hb] at hv; cases hv]
theorem RI.mrg {es : Eqs} {rep : Ky → Ky} (r : RI es rep) (e : Ky × Ky) : (∀ rep', BV.mrg rep e.1 e.2 = some rep' → RI (es ++ [e]) rep') ∧ (BV.mrg rep e.1 e.2 = none → Clash (es ++ [e])) := by
  unfold BV.mrg
  by_cases h : rep e.1 = rep e.2
  · rw [if_pos h]
    refine ⟨fun rep' q => ?_, fun q => nomatch q⟩
    cases q
    refine ⟨fun s t => ⟨fun k => al_up ((r.al s t).mp k), fun k => al_snoc rep (fun s t q => (r.al s t).mpr q) h k⟩, r.im, r.vl⟩
  · rw [if_neg h]
    by_cases hv : frK (rep e.1) = false ∧ frK (rep e.2) = false
    · rw [if_pos hv]
      exact ⟨fun _ q => (nomatch q), fun _ => ⟨_, _, hv.1, hv.2, h, .tr (al_up (r.rep _)) (.tr al_new (.sy (al_up (r.rep _))))⟩⟩
    · rw [if_neg hv]
      by_cases hs : swK (rep e.1) (rep e.2) = true
      · rw [if_pos hs]
        refine ⟨fun rep' q => ?_, fun q => nomatch q⟩
        cases q
        have hf : frK (rep e.1) = true := by
          unfold swK at hs
          exact (Bool.and_eq_true_iff.mp hs).1
        exact r.joined (.inr ⟨rfl, rfl⟩) (fun q => h q.symm) hf
      · rw [if_neg hs]
        refine ⟨fun rep' q => ?_, fun q => nomatch q⟩
        cases q
        have hf : frK (rep e.2) = true := by
          cases h2 : frK (rep e.2) with
          | true => rfl
          | false =>
            exfalso
            cases h1 : frK (rep e.1) with
            | false => exact hv ⟨h1, h2⟩
            | true => exact hs (by unfold swK; rw [h1, h2]; rfl)
        exact r.joined (.inl ⟨rfl, rfl⟩) h hf
theorem runU_spec : ∀ (rest pre : Eqs) (rep : Ky → Ky), RI pre rep → match runU pre.length rep rest with
    | .inr rep' => RI (pre ++ rest) rep'
    | .inl p => p < (pre ++ rest).length ∧ Clash ((pre ++ rest).take (p + 1)) ∧ ¬ Clash ((pre ++ rest).take p)
  | [], pre, rep, r => by
    show RI (pre ++ []) rep
    rwa [List.append_nil]
  | e :: rest, pre, rep, r => by
    have h := r.mrg e
    show match (match mrg rep e.1 e.2 with | none => Sum.inl pre.length | some rep' => runU (pre.length + 1) rep' rest) with
      | .inr rep' => RI (pre ++ e :: rest) rep'
      | .inl p => p < (pre ++ e :: rest).length ∧ Clash ((pre ++ e :: rest).take (p + 1)) ∧ ¬ Clash ((pre ++ e :: rest).take p)
    cases q : mrg rep e.1 e.2 with
    | none =>
      refine ⟨by simp, ?_, ?_⟩
      · have : (pre ++ e :: rest).take (pre.length + 1) = pre ++ [e] := by
          rw [List.take_append, List.take_of_length_le (by omega)]
          simp
        rw [this]
        exact h.2 q
      · rw [List.take_left']
        · exact r.free
        · rfl
    | some rep' =>
      have ih := runU_spec rest (pre ++ [e]) rep' (h.1 rep' q)
      rw [List.length_append, List.length_cons, List.length_nil, List.append_assoc] at ih
      exact ih
/-- the place that unified tells -/
def plU (es : Eqs) : Option Nat := match runU 0 id es with
  | .inl i => some i
  | .inr _ => none
theorem plU_is (es : Eqs) : IsPl es (plU es) := by
  have h := runU_spec es [] id RI.start
  unfold plU
  cases e : runU 0 id es with
  | inl p => rw [List.length_nil, e] at h; exact h
  | inr rep => rw [List.length_nil, e] at h; exact RI.free h
/-! ### equations put otherwise -/
def swapE (es : Eqs) : Eqs := es.map fun e => (e.2, e.1)
theorem swap_al {es fs : Eqs} (h : ∀ e ∈ es, (e ∈ fs ∨ (e.2, e.1) ∈ fs)) : ∀ e ∈ es, Al fs e.1 e.2 := fun e he => by
  rcases h e he with q | q
  · exact .st q
  · exact .sy (.st (e := (e.2, e.1)) q)
theorem mem_swap {es : Eqs} {e : Ky × Ky} : e ∈ swapE es ↔ (e.2, e.1) ∈ es := by
  unfold swapE
  rw [List.mem_map]
  constructor
  · rintro ⟨f, hf, rfl⟩; exact hf
  · intro h; exact ⟨_, h, rfl⟩
theorem clash_swap {es : Eqs} : Clash (swapE es) ↔ Clash es :=
  ⟨fun c => c.by (swap_al fun e he => .inr (mem_swap.mp he)), fun c => c.by (swap_al fun e he => .inr (mem_swap.mpr he))⟩
theorem take_swap (es : Eqs) (n : Nat) : (swapE es).take n = swapE (es.take n) := by unfold swapE; rw [List.map_take]
theorem IsPl.swap {es : Eqs} {o : Option Nat} (h : IsPl es o) : IsPl (swapE es) o := by
  cases o with
  | none => exact fun c => h (clash_swap.mp c)
  | some p =>
    refine ⟨by unfold swapE; rw [List.length_map]; exact h.1, ?_, ?_⟩
    · rw [take_swap]; exact clash_swap.mpr h.2.1
    · rw [take_swap]; exact fun c => h.2.2 (clash_swap.mp c)
def twiceE : Eqs → Eqs
  | [] => []
  | e :: r => e :: e :: twiceE r
theorem mem_twice {es : Eqs} {e : Ky × Ky} : e ∈ twiceE es ↔ e ∈ es := by
  induction es with
  | nil => simp [twiceE]
  | cons f r ih => simp [twiceE, ih]
theorem twice_len (es : Eqs) : (twiceE es).length = 2 * es.length := by
  induction es with
  | nil => rfl
  | cons f r ih => simp only [twiceE, List.length_cons, ih]; omega
theorem take_twice : ∀ (es : Eqs) (p : Nat), (twiceE es).take (2 * p) = twiceE (es.take p)
  | [], p => by simp [twiceE]
  | e :: r, 0 => rfl
  | e :: r, p + 1 => by
    show (e :: e :: twiceE r).take (2 * p + 1 + 1) = e :: e :: twiceE (r.take p)
    rw [List.take_succ_cons, List.take_succ_cons, take_twice r p]
theorem mem_take_twice {es : Eqs} {p : Nat} {e : Ky × Ky} : e ∈ (twiceE es).take (2 * p + 1) ↔ e ∈ es.take (p + 1) := by
  induction es generalizing p with
  | nil => simp [twiceE]
  | cons f r ih =>
    cases p with
    | zero => simp [twiceE]
    | succ p =>
      have : 2 * (p + 1) + 1 = 2 * p + 1 + 1 + 1 := by omega
      rw [this]
      show e ∈ (f :: f :: twiceE r).take (2 * p + 1 + 1 + 1) ↔ _
      rw [List.take_succ_cons, List.take_succ_cons, List.take_succ_cons, List.mem_cons, List.mem_cons, List.mem_cons, ih]
      simp
theorem IsPl.twice {es : Eqs} {o : Option Nat} (h : IsPl es o) : IsPl (twiceE es) (o.map (2 * ·)) := by
  cases o with
  | none => exact fun c => h (c.sub fun e he => mem_twice.mp he)
  | some p =>
    refine ⟨by rw [twice_len]; have := h.1; show 2 * p < _; omega, h.2.1.sub fun e he => mem_take_twice.mpr he, fun c => h.2.2 ?_⟩
    rw [take_twice] at c
    exact c.sub fun e he => mem_twice.mp he
theorem clash_idle {ds es : Eqs} (hd : ∀ e ∈ ds, e.1 = e.2) : Clash (ds ++ es) ↔ Clash es :=
  ⟨fun c => c.by fun e he => by
    rcases List.mem_append.mp he with h | h
    · rw [hd e h]; exact .rf _
    · exact .st h, fun c => c.sub fun e he => List.mem_append_right _ he⟩
theorem IsPl.idle {ds es : Eqs} {o : Option Nat} (hd : ∀ e ∈ ds, e.1 = e.2) (h : IsPl es o) : IsPl (ds ++ es) (o.map (· + ds.length)) := by
  cases o with
  | none => exact fun c => h ((clash_idle hd).mp c)
  | some p =>
    have ht : ∀ n, (ds ++ es).take (n + ds.length) = ds ++ es.take n := fun n => by
      rw [List.take_append, List.take_of_length_le (by omega)]
      congr 2
      omega
    refine ⟨by rw [List.length_append]; have := h.1; show p + ds.length < _; omega, ?_, ?_⟩
    · have : p + ds.length + 1 = p + 1 + ds.length := by omega
      show Clash ((ds ++ es).take (p + ds.length + 1))
      rw [this, ht]
      exact (clash_idle hd).mpr h.2.1
    · show ¬ Clash ((ds ++ es).take (p + ds.length))
      rw [ht]
      exact fun c => h.2.2 ((clash_idle hd).mp c)
theorem IsPl.more {es fs : Eqs} {p : Nat} (h : IsPl es (some p)) : IsPl (es ++ fs) (some p) := by
  obtain ⟨h1, h2, h3⟩ := h
  refine ⟨by rw [List.length_append]; omega, ?_, ?_⟩
  · rw [List.take_append_of_le_length (by omega)]; exact h2
  · rw [List.take_append_of_le_length (by omega)]; exact h3
theorem IsPl.wrong {es : Eqs} (h : IsPl es none) {a b : Ky} (ha : frK a = false) (hb : frK b = false) (hab : a ≠ b) : IsPl (es ++ [(a, b)]) (some es.length) := by
  refine ⟨by simp, ?_, ?_⟩
  · rw [List.take_of_length_le (by simp)]
    exact ⟨a, b, ha, hb, hab, al_new (e := (a, b))⟩
  · rw [List.take_left']
    · exact h
    · rfl
theorem IsPl.about {es : Eqs} {o : Option Nat} (h : IsPl es o) : IsPl (es ++ swapE es) o := by
  cases o with
  | none => exact fun c => h (c.by (swap_al fun e he => by
      rcases List.mem_append.mp he with q | q
      · exact .inl q
      · exact .inr (mem_swap.mp q)))
  | some p => exact h.more
theorem IsPl.cut {es : Eqs} {o : Option Nat} (h : IsPl es o) (m : Nat) (hm : m ≤ es.length) : IsPl (es.take m) (o.bind fun p => if p < m then some p else none) := by
  cases o with
  | none => exact fun c => h (clash_all c)
  | some p =>
    show IsPl (es.take m) (if p < m then some p else none)
    by_cases q : p < m
    · rw [if_pos q]
      refine ⟨by rw [List.length_take]; omega, ?_, ?_⟩
      · rw [List.take_take, Nat.min_eq_left q]; exact h.2.1
      · rw [List.take_take, Nat.min_eq_left (by omega)]; exact h.2.2
    · rw [if_neg q]
      exact fun c => h.2.2 (clash_take (by omega) c)
theorem clash_perm {es fs : Eqs} (h : fs.Perm es) : Clash fs ↔ Clash es := ⟨fun c => c.sub fun e he => h.mem_iff.mp he, fun c => c.sub fun e he => h.mem_iff.mpr he⟩
def optD : Option Nat → D
  | none => .non
  | some i => .int (i : Nat)
end BV

/-! x, y = {}, {}. -/
namespace BV
open PySem PySem.Spec PyProof.Rows L2 Evl
section
variable {X : Cx} {pos : Pos}
def mNewDD (i j : Nat) : MS := fun E env => E.nx ((env.set i (some (true, dicOf []))).set j (some (true, dicOf [])))
theorem pds_newDD (i j : Nat) {x y : Str} {px py pt p1 p2 pt2 : Pos} {kt k2 : Nat} (hc : X.calm = true) (hN : X.N.Nodup) (hi : X.N[i]? = some x := by rfl) (hj : X.N[j]? = some y := by rfl) (hij : i ≠ j := by decide)
    (hx : X.env.scope.names.lookup x = some .local := by rfl) (hy : X.env.scope.names.lookup y = some .local := by rfl) (hw : swappedStores [.Tuple [.Name x px, .Name y py] kt pt] (.Tuple [.Dict [] [] p1, .Dict [] [] p2] k2 pt2) X.env = pure (some [x, y]) := by rfl)
    (hs : swapsWithSole [.Tuple [.Name x px, .Name y py] kt pt] (.Tuple [.Dict [] [] p1, .Dict [] [] p2] k2 pt2) pos.line X.env = pure false := by rfl)
    (sa : starEach [.Dict [] [] p1, .Dict [] [] p2] X.env = (false, eval (.Dict [] [] p1) X.env) :: starEach [.Dict [] [] p2] X.env := by rfl) (sb : starEach [.Dict [] [] p2] X.env = (false, eval (.Dict [] [] p2) X.env) :: starEach [] X.env := by rfl) :
    PDS X (.Assign [.Tuple [.Name x px, .Name y py] kt pt] (.Tuple [.Dict [] [] p1, .Dict [] [] p2] k2 pt2) pos) (mNewDD i j) := by
  refine ⟨fun z C0 H0 Cb => ps_imp (ps_par hc hN hi hj hij hx hy (pa_cons pe_dnewK (pa_cons pe_dnewK pa_nil sb) sa) hw hs) fun N σ H ⟨C, env, s, q⟩ => ?_, fun E E' env l q => l.nx _ q⟩
  refine fun p hp q' hq => ?_
  have t1 : Tr z C H C (upd H p (.dK [])) := Tr.ext s.tr.ok (Ex.new hp)
  have t2 : Tr z C (upd H p (.dK [])) C (upd (upd H p (.dK [])) q' (.dK [])) := Tr.ext t1.ok (Ex.new hq)
  have hpq : p ≠ q' := fun e => by rw [← e, upd_same] at hq; cases hq
  have hq0 : H q' = none := by rw [upd_ne (Ne.symm hpq)] at hq; exact hq
  have s2 := (s.next t1).next t2
  refine ⟨.ref p, .ref q', rfl, q _ C _ ?_⟩
  exact (s2.setOwnU (d := dicOf []) i (fresh_back s.tr.ok.ex hp) (by rw [upd_ne hpq]; exact upd_same) (hl_dicOf.mpr ⟨[], rfl, rfl⟩) (s.tr.free hp) (s.fresh hp)).setOwnU (d := dicOf []) j (fresh_back s.tr.ok.ex hq0) upd_same (hl_dicOf.mpr ⟨[], rfl, rfl⟩) (s.tr.free hq0) (ne_set (s.fresh hq0) hpq)
end
end BV

/-! len and list of a dict. -/
namespace BV
open PySem PySem.Spec PyProof.Rows L2 Evl
def kdD : L2.Key → D
  | .inl i => .int i
  | .inr s => .str s
theorem dn_kdD {K : PySem.W.Frag} {C : Hp} {pu : Addr} {k : L2.Key} : Dn K C pu (kdD k) (kV k) := by
  cases k with
  | inl i => exact dn_int.mpr rfl
  | inr s => exact dn_str.mpr rfl
def len3D : List D → Option D
  | [.dic ks vs] => some (.int ks.length)
  | ds => lenD ds
theorem cd_len3 {X : Cx} : CallD X (.builtin "len") len3D := by
  obtain ⟨R, hR, hi⟩ := cd_len (X := X)
  refine ⟨_, hR.or call_lenD, fun z C H ds u xs Q o dn g k => ?_⟩
  unfold len3D at g
  split at g
  · cases g
    obtain ⟨v, e1, e2⟩ := dns1 dn
    obtain ⟨a, kvs, f1, f2, f3, f4⟩ := dn_dic.mp e2
    subst f1
    exact .inr ⟨a, kvs, e1, o.ex _ _ f2, by have := k (.int kvs.length) C H (Tr.refl o) (dn_int.mpr (by rw [← f3, List.length_map])); exact this⟩
  · exact .inl (hi z C H ds u xs Q o dn g k)
def list3D : List D → Option D
  | [.dic ks vs] => some (.lst (ks.map kdD))
  | ds => listD ds
theorem cd_list3 {X : Cx} (hc : X.calm = true) : CallD X (.type "list") list3D := by
  obtain ⟨R, hR, hi⟩ := cd_list (X := X)
  refine ⟨_, hR.or (call_listD hc), fun z C H ds u xs Q o dn g k => ?_⟩
  unfold list3D at g
  split at g
  · cases g
    obtain ⟨v, e1, e2⟩ := dns1 dn
    obtain ⟨a, kvs, f1, f2, f3, f4⟩ := dn_dic.mp e2
    subst f1
    refine .inr ⟨a, kvs, e1, .inl (o.ex _ _ f2), fun p hp => k (.ref p) _ _ (Tr.put o hp) (dn_new_lst ?_ (fresh_back o.ex hp))⟩
    rw [← f3]
    have : ∀ l : List (L2.Key × V), Dns X.K C z.p ((l.map (·.1)).map kdD) (l.map fun kv => kV kv.1) := by
      intro l
      induction l with
      | nil => exact dns_nil.mpr rfl
      | cons a l ih => exact dns_cons.mpr ⟨_, _, rfl, dn_kdD, ih⟩
    exact this kvs
  · exact .inl (hi z C H ds u xs Q o dn g k)
end BV

/-! Texts cut and compared; terms as data; what a drawn term is. -/
namespace BV
open PySem PySem.Spec PyProof.Rows L2 Evl
theorem eqStrs {a b : Str} (h : As a) (k : As b) : eqD (.str a) (.str b) = some (.bl (decide (a = b))) := by
  rw [eqD, if_pos ⟨(RL.str h).pl rfl |>.eq (by decide), (RL.str k).pl rfl |>.eq (by decide)⟩]
  congr 2
theorem neStrs {a b : Str} (h : As a) (k : As b) : neD (.str a) (.str b) = some (.bl (!decide (a = b))) := by
  rw [neD, if_pos ⟨(RL.str h).pl rfl |>.eq (by decide), (RL.str k).pl rfl |>.eq (by decide)⟩]
  congr 3
theorem cutTake {α : Type} (l : List α) (c : Nat) : BV.cutD l none (some (c : Int)) = l.take c := by
  unfold BV.cutD
  have e : HT.sIx l.length l.length (some (c : Int)) = min c l.length := by
    show (if (c : Int) < 0 then ((c : Int) + (l.length : Int)).toNat else min (c : Int).toNat l.length) = _
    rw [if_neg (by omega), Int.toNat_natCast]
  rw [e]
  show (l.drop 0).take (min c l.length - 0) = _
  rw [List.drop_zero, Nat.sub_zero]
  by_cases h : c ≤ l.length
  · rw [Nat.min_eq_left h]
  · rw [Nat.min_eq_right (by omega), List.take_of_length_le (Nat.le_refl _), List.take_of_length_le (by omega)]
theorem slTo {s : Str} {n : Nat} (h : isA n s) (hn : n ≤ 4000000) (c : Nat) : slD (.str s) none (some (c : Int)) = some (.str ⟨(s.cps.toList.take c).toArray⟩) := by
  show (if szOk s.length = true then some (D.str ⟨(BV.cutD s.cps.toList none (some (c : Int))).toArray⟩) else none) = _
  rw [if_pos (BV.sz_of (by have := h.1; omega)), cutTake]
theorem takeAs {s : Str} {n : Nat} (h : isA n s) (c : Nat) : As ⟨(s.cps.toList.take c).toArray⟩ := fun x hx => h.2 x (List.mem_of_mem_take hx)
theorem qAs : As (Str.ofString "?") := As.lit "?" (by decide +kernel)
theorem qL : (Str.ofString "?").cps.toList = [63] := by decide +kernel
theorem q_dec (s : Str) : decide ((⟨(s.cps.toList.take 1).toArray⟩ : Str) = Str.ofString "?") = frS s := by
  unfold frS
  refine decide_eq_decide.mpr ⟨fun e => ?_, fun e => str_ext ?_⟩
  · have := congrArg (fun x : Str => x.cps.toList) e
    rw [qL] at this
    exact this
  · rw [qL]
    exact e
/-- a term that is not too great -/
def tm : Ky → Prop
  | .inl i => i.natAbs ≤ 1000000000
  | .inr s => isA 60 s
theorem tm.rl {t : Ky} (h : tm t) : RL 0 130 (kd t) := by
  cases t with
  | inl i => exact (RL.int (k := 10) (by decide) (by decide) (Nat.lt_of_le_of_lt h (by decide))).mono (Nat.le_refl _) (by decide)
  | inr s => exact (RL.str h.2).mono (Nat.le_refl _) (by have := h.1; omega)
theorem tm.lf {t : Ky} : (kd t).lf = true := by cases t <;> rfl
theorem kd_ne {t : Ky} : kd t ≠ .pur := by cases t <;> exact fun e => (nomatch e)
theorem keyOf_kd (t : Ky) : keyOf (kd t) = some t := by cases t <;> rfl
theorem kd_inj {a b : Ky} (h : kd a = kd b) : a = b := by
  cases a <;> cases b <;> simp_all [kd]
theorem kdD_kd (t : Ky) : kdD t = kd t := by cases t <;> rfl
def eqd (e : Ky × Ky) : D := .tup [kd e.1, kd e.2]
def tmE (es : Eqs) : Prop := ∀ e ∈ es, tm e.1 ∧ tm e.2
theorem terms_tm {es : Eqs} (h : tmE es) : ∀ t ∈ termsOf es, tm t := by
  induction es with
  | nil => intro t ht; cases ht
  | cons e r ih =>
    intro t ht
    simp only [termsOf, List.mem_cons] at ht
    rcases ht with rfl | rfl | ht
    · exact (h e (by simp)).1
    · exact (h e (by simp)).2
    · exact ih (fun f hf => h f (by simp [hf])) t ht
theorem terms_len (es : Eqs) : (termsOf es).length = 2 * es.length := by
  induction es with
  | nil => rfl
  | cons e r ih => simp only [termsOf, List.length_cons, ih]; omega
theorem eqs_of {es : Eqs} (h : tmE es) (hl : es.length ≤ 80000) : EqsD (.tup (es.map eqd)) es := by
  refine ⟨⟨_, rfl, ?_⟩, hl, fun t ht s e => ?_⟩
  · clear h hl
    induction es with
    | nil => exact .nil
    | cons e r ih => exact .cons (.inl rfl) ih
  · have := terms_tm h t ht
    rw [e] at this
    exact Nat.le_trans this.1 (by decide)
theorem eqs_lf (es : Eqs) : D.lfs (es.map eqd) = true := lfs_all fun d hd => by
  obtain ⟨e, _, rfl⟩ := List.mem_map.mp hd
  show D.lfs [kd e.1, kd e.2] = true
  simp only [D.lfs, tm.lf, Bool.and_self]
theorem optD_lf (o : Option Nat) : (optD o).lf = true := by cases o <;> rfl
theorem optD_rl {o : Option Nat} (h : ∀ p, o = some p → p ≤ 1000) : RL 0 11 (optD o) := by
  cases o with
  | none => exact RL.non.mono (Nat.le_refl _) (by decide)
  | some p => exact (RL.int (k := 10) (by decide) (by decide) (by have := h p rfl; show (p : Int).natAbs < _; omega)).mono (Nat.le_refl _) (Nat.le_refl _)
end BV

/-! Marks: terms that are alike have one mark; some marks have an owner. -/
namespace BV
open PySem PySem.Spec PyProof.Rows L2 Evl
theorem valD_cons (p : Ky × D) (r : KL) (j : Ky) : valD (p :: r) j = if p.1 = j then some p.2 else valD r j := by
  unfold valD
  rw [List.find?_cons]
  by_cases h : p.1 = j
  · rw [if_pos h, decide_eq_true h]; rfl
  · rw [if_neg h, decide_eq_false h]
theorem valD_map (k j : Ky) (y : D) : ∀ kvs : KL, valD (kvs.map fun kv => if kv.1 = k then (kv.1, y) else kv) j = (valD kvs j).map fun x => if j = k then y else x
  | [] => rfl
  | p :: r => by
    rw [List.map_cons, valD_cons, valD_cons, valD_map k j y r]
    by_cases h : p.1 = k
    · rw [if_pos h]
      by_cases e : p.1 = j
      · rw [if_pos e, if_pos e, Option.map_some, if_pos (e.symm.trans h)]
      · rw [if_neg e, if_neg e]
    · rw [if_neg h]
      by_cases e : p.1 = j
      · rw [if_pos e, if_pos e, Option.map_some, if_neg (fun z => h (e.trans z))]
      · rw [if_neg e, if_neg e]
theorem valD_any (k : Ky) : ∀ kvs : KL, (kvs.any fun kv => decide (kv.1 = k)) = (valD kvs k).isSome
  | [] => rfl
  | p :: r => by
    rw [List.any_cons, valD_cons, valD_any k r]
    by_cases e : p.1 = k
    · rw [if_pos e, decide_eq_true e]; rfl
    · rw [if_neg e, decide_eq_false e, Bool.false_or]
theorem valD_snoc (k j : Ky) (y : D) : ∀ kvs : KL, valD kvs k = none → valD (kvs ++ [(k, y)]) j = if j = k then some y else valD kvs j
  | [], _ => by
    rw [List.nil_append, valD_cons]
    by_cases e : k = j
    · rw [if_pos e, if_pos e.symm]
    · rw [if_neg e, if_neg (fun z => e z.symm)]
  | p :: r, hn => by
    rw [List.cons_append, valD_cons, valD_cons]
    rw [valD_cons] at hn
    have hk : ¬ p.1 = k := fun z => by rw [if_pos z] at hn; cases hn
    rw [if_neg hk] at hn
    rw [valD_snoc k j y r hn]
    by_cases e : p.1 = j
    · rw [if_pos e, if_pos e, if_neg (fun z => hk (e.trans z))]
    · rw [if_neg e, if_neg e]
theorem valD_put (kvs : KL) (k j : Ky) (y : D) : valD (putD kvs k y) j = if j = k then some y else valD kvs j := by
  unfold putD
  by_cases a : (kvs.any fun kv => decide (kv.1 = k)) = true
  · rw [if_pos a, valD_map]
    rw [valD_any] at a
    by_cases e : j = k
    · obtain ⟨x, hx⟩ := Option.isSome_iff_exists.mp a
      rw [if_pos e, e, hx, Option.map_some, if_pos rfl]
    · rw [if_neg e]
      cases valD kvs j with
      | none => rfl
      | some x => rw [Option.map_some, if_neg e]
  · rw [if_neg a]
    refine valD_snoc k j y kvs ?_
    rw [valD_any] at a
    cases q : valD kvs k with
    | none => rfl
    | some x => rw [q] at a; exact (a rfl).elim
theorem putD_new {kvs : KL} {k : Ky} {v : D} (h : valD kvs k = none) : (putD kvs k v).length = kvs.length + 1 := by
  unfold putD
  rw [valD_any, h, if_neg (by decide), List.length_append]
  rfl
theorem putD_old {kvs : KL} {k : Ky} {v u : D} (h : valD kvs k = some u) : (putD kvs k v).length = kvs.length := by
  unfold putD
  rw [valD_any, h, if_pos (show (some u).isSome = true from rfl), List.length_map]
theorem putD_keys {kvs : KL} {k : Ky} {v u : D} (h : valD kvs k = some u) : (putD kvs k v).map (·.1) = kvs.map (·.1) := by
  unfold putD
  rw [valD_any, h, if_pos (show (some u).isSome = true from rfl), List.map_map]
  refine List.map_congr_left fun p _ => ?_
  show (if p.1 = k then (p.1, v) else p).1 = p.1
  split <;> rfl
theorem valD_mem {kvs : KL} {k : Ky} (h : k ∈ kvs.map (·.1)) : (valD kvs k).isSome = true := by
  rw [← valD_any, List.any_eq_true]
  obtain ⟨p, hp, e⟩ := List.mem_map.mp h
  exact ⟨p, hp, decide_eq_true e⟩
theorem mem_valD {kvs : KL} {k : Ky} (h : (valD kvs k).isSome = true) : k ∈ kvs.map (·.1) := by
  rw [← valD_any, List.any_eq_true] at h
  obtain ⟨p, hp, e⟩ := h
  exact List.mem_map.mpr ⟨p, hp, of_decide_eq_true e⟩
/-- an owner stands at the mark -/
def owned (o : KL) (n : Nat) : Prop := (valD o (.inl (n : Nat))).isSome = true
theorem al_nil {x y : Ky} (k : Al [] x y) : x = y := by
  induction k with
  | rf a => rfl
  | st m => cases m
  | sy _ i => exact i.symm
  | tr _ _ i j => exact i.trans j
structure Mrk (es : Eqs) (m o : KL) : Prop where
  num : ∀ t d, valD m t = some d → ∃ n : Nat, d = .int (n : Nat) ∧ n < m.length
  al : ∀ (s t : Ky) (a b : D), valD m s = some a → valD m t = some b → (a = b ↔ Al es s t)
  own : ∀ (t : Ky) (n : Nat), valD m t = some (.int (n : Nat)) → (owned o n ↔ ∃ v, frK v = false ∧ valD m v = some (.int (n : Nat)))
  lt : ∀ k d, valD o k = some d → d.lf = true ∧ ∃ n : Nat, k = .inl (n : Nat) ∧ n < m.length
  nc : ¬ Clash es
  out : ∀ s t, valD m s = none → Al es s t → s = t
theorem Mrk.start : Mrk [] [] [] := ⟨fun t d e => (nomatch e), fun s t a b e => (nomatch e), fun t n e => (nomatch e), fun k d e => (nomatch e), no_clash, fun s t _ h => al_nil h⟩
theorem int_nat {a b : Nat} (h : D.int (a : Nat) = D.int (b : Nat)) : a = b := by
  have := D.int.inj h
  omega
section
variable {es : Eqs} {m o : KL}
theorem Mrk.fresh (I : Mrk es m o) : ¬ owned o m.length := fun h => by
  obtain ⟨d, hd⟩ := Option.isSome_iff_exists.mp h
  obtain ⟨_, n, e, hn⟩ := I.lt _ _ hd
  have : (m.length : Int) = (n : Nat) := Sum.inl.inj e
  omega
/-- a new term gets a new mark -/
theorem Mrk.add (I : Mrk es m o) {t : Ky} (h : valD m t = none) {o' : KL} (ho : o' = if frK t = false then putD o (.inl (m.length : Nat)) (kd t) else o) : Mrk es (putD m t (.int (m.length : Nat))) o' := by
  have hv : ∀ s, valD (putD m t (.int (m.length : Nat))) s = if s = t then some (.int (m.length : Nat)) else valD m s := fun s => valD_put m t s _
  have hlen : (putD m t (.int (m.length : Nat))).length = m.length + 1 := putD_new h
  have hoo : ∀ n : Nat, owned o' n ↔ (owned o n ∨ (frK t = false ∧ n = m.length)) := fun n => by
    rw [ho]
    cases hf : frK t with
    | false =>
      rw [if_pos rfl]
      unfold owned
      rw [valD_put]
      by_cases e : n = m.length
      · rw [if_pos (by rw [e])]; exact ⟨fun _ => .inr ⟨rfl, e⟩, fun _ => rfl⟩
      · rw [if_neg (fun q => e (by have := Sum.inl.inj q; omega))]
        exact ⟨fun q => .inl q, fun q => q.elim id fun q => absurd q.2 e⟩
    | true =>
      rw [if_neg (by decide)]
      exact ⟨fun q => .inl q, fun q => q.elim id fun q => nomatch q.1⟩
  have num' : ∀ s d, valD m s = some d → ∃ n : Nat, d = .int (n : Nat) ∧ n < m.length := I.num
  refine ⟨fun s d e => ?_, fun s u a b e1 e2 => ?_, fun s n e => ?_, fun k d e => ?_, I.nc, fun s u e hA => ?_⟩
  · rw [hv] at e
    by_cases hs : s = t
    · rw [if_pos hs] at e; cases e; exact ⟨_, rfl, by omega⟩
    · rw [if_neg hs] at e
      obtain ⟨n, e1, e2⟩ := I.num s d e
      exact ⟨n, e1, by omega⟩
  · rw [hv] at e1 e2
    by_cases hs : s = t
    · rw [if_pos hs] at e1
      cases e1
      by_cases hu : u = t
      · rw [if_pos hu] at e2
        cases e2
        rw [hs, hu]
        exact ⟨fun _ => .rf t, fun _ => rfl⟩
      · rw [if_neg hu] at e2
        obtain ⟨n, e3, e4⟩ := I.num u b e2
        rw [e3]
        refine ⟨fun q => ?_, fun q => ?_⟩
        · have := int_nat q; omega
        · exact absurd (I.out t u h (hs ▸ q)).symm hu
    · rw [if_neg hs] at e1
      by_cases hu : u = t
      · rw [if_pos hu] at e2
        cases e2
        obtain ⟨n, e3, e4⟩ := I.num s a e1
        rw [e3]
        refine ⟨fun q => ?_, fun q => ?_⟩
        · have := int_nat q; omega
        · exact absurd (I.out t s h (.sy (hu ▸ q))).symm hs
      · rw [if_neg hu] at e2
        exact I.al s u a b e1 e2
  · rw [hoo]
    rw [hv] at e
    by_cases hs : s = t
    · rw [if_pos hs] at e
      have hn : m.length = n := int_nat (Option.some.inj e)
      rw [← hn]
      refine ⟨fun q => ?_, fun ⟨v, hv1, hv2⟩ => ?_⟩
      · rcases q with q | q
        · exact absurd q I.fresh
        · exact ⟨t, q.1, by rw [hv, if_pos rfl]⟩
      · rw [hv] at hv2
        by_cases hvt : v = t
        · exact .inr ⟨by rw [← hvt]; exact hv1, rfl⟩
        · rw [if_neg hvt] at hv2
          obtain ⟨k, e3, e4⟩ := I.num v _ hv2
          have := int_nat e3; omega
    · rw [if_neg hs] at e
      obtain ⟨k, e3, e4⟩ := I.num s _ e
      have hk := int_nat e3
      rw [I.own s n e]
      refine ⟨fun q => ?_, fun ⟨v, hv1, hv2⟩ => ?_⟩
      · rcases q with ⟨v, hv1, hv2⟩ | q
        · refine ⟨v, hv1, ?_⟩
          rw [hv, if_neg fun z => by rw [z, h] at hv2; cases hv2]
          exact hv2
        · omega
      · rw [hv] at hv2
        by_cases hvt : v = t
        · rw [if_pos hvt] at hv2
          have := int_nat (Option.some.inj hv2)
          omega
        · rw [if_neg hvt] at hv2
          exact .inl ⟨v, hv1, hv2⟩
  · rw [hlen]
    rw [ho] at e
    split at e
    · rw [valD_put] at e
      split at e
      · rename_i hk
        cases e
        exact ⟨tm.lf, m.length, hk, by omega⟩
      · obtain ⟨q, n, h1, h2⟩ := I.lt k d e
        exact ⟨q, n, h1, by omega⟩
    · obtain ⟨q, n, h1, h2⟩ := I.lt k d e
      exact ⟨q, n, h1, by omega⟩
  · rw [hv] at e
    split at e
    · cases e
    · exact I.out s u e hA
/-- an equation of terms that have marks -/
theorem Mrk.join (I : Mrk es m o) {e : Ky × Ky} {lo hi : Nat} (h1 : valD m e.1 = some (.int (lo : Nat))) (h2 : valD m e.2 = some (.int (hi : Nat))) (hb : lo ≠ hi → ¬ (owned o lo ∧ owned o hi)) {m' o' : KL} (hl : m'.length = m.length)
    (hm : ∀ t, valD m' t = if valD m t = some (.int (hi : Nat)) then some (.int (lo : Nat)) else valD m t) (ho : ∀ n, owned o' n ↔ (owned o n ∨ (n = lo ∧ owned o hi))) (hlt : ∀ k d, valD o' k = some d → d.lf = true ∧ ∃ n : Nat, k = .inl (n : Nat) ∧ n < m.length) : Mrk (es ++ [e]) m' o' := by
  have f : ∃ g : Ky → Sum D Ky, ∀ t, g t = match valD m' t with | some d => .inl d | none => .inr t := ⟨_, fun _ => rfl⟩
  obtain ⟨g, hg⟩ := f
  have g1 : ∀ {t : Ky} {d : D}, valD m' t = some d → g t = .inl d := fun {t d} q => by rw [hg, q]
  have g0 : ∀ {t : Ky}, valD m' t = none → g t = .inr t := fun {t} q => by rw [hg, q]
  have none' : ∀ {t : Ky}, valD m' t = none → valD m t = none := fun {t} q => by
    rw [hm] at q
    split at q
    · cases q
    · exact q
  have eqm : ∀ {s t : Ky} {d : D}, valD m s = some d → valD m t = some d → valD m' s = valD m' t := fun {s t d} q1 q2 => by rw [hm, hm, q1, q2]
  have gf : ∀ s t, Al es s t → g s = g t := fun s t q => by
    cases hs : valD m s with
    | none => rw [I.out s t hs q]
    | some a =>
      cases ht : valD m t with
      | none => rw [I.out t s ht (.sy q)]
      | some b =>
        have := (I.al s t a b hs ht).mpr q
        subst this
        rw [hg, hg, eqm hs ht]
        cases hq : valD m' t with
        | some d => rfl
        | none => have := none' hq; rw [ht] at this; cases this
  have e1' : valD m' e.1 = some (.int (lo : Nat)) := by
    rw [hm, h1]
    split
    · rfl
    · rfl
  have e2' : valD m' e.2 = some (.int (lo : Nat)) := by rw [hm, h2, if_pos rfl]
  have ge : g e.1 = g e.2 := by rw [g1 e1', g1 e2']
  have gA : ∀ {s t}, Al (es ++ [e]) s t → g s = g t := fun {s t} q => al_snoc g gf ge q
  -- what a mark behind says of the marks ahead
  have back : ∀ {t : Ky} {d : D}, valD m' t = some d → (valD m t = some d) ∨ (valD m t = some (.int (hi : Nat)) ∧ d = .int (lo : Nat)) := fun {t d} q => by
    rw [hm] at q
    split at q
    · rename_i h; exact .inr ⟨h, (Option.some.inj q).symm⟩
    · exact .inl q
  have alL : ∀ {t : Ky}, valD m' t = some (.int (lo : Nat)) → Al (es ++ [e]) t e.1 := fun {t} q => by
    rcases back q with h | ⟨h, _⟩
    · exact al_up ((I.al t e.1 _ _ h h1).mp rfl)
    · exact .tr (al_up ((I.al t e.2 _ _ h h2).mp rfl)) (.sy al_new)
  refine ⟨fun t d q => ?_, fun s t a b q1 q2 => ⟨fun q => ?_, fun q => ?_⟩, fun t n q => ?_, fun k d q => by rw [hl]; exact hlt k d q, fun ⟨v, w, f1, f2, ne, hA⟩ => ?_, fun s t q hA => ?_⟩
  · rw [hl]
    rcases back q with h | ⟨_, h⟩
    · exact I.num t d h
    · obtain ⟨n, e3, e4⟩ := I.num e.1 _ h1
      exact ⟨lo, h, by have := int_nat e3; omega⟩
  · subst q
    rcases back q1 with h | ⟨h, h'⟩
    · rcases back q2 with k | ⟨k, k'⟩
      · exact al_up ((I.al s t a a h k).mp rfl)
      · subst k'; exact .tr (alL q1) (.sy (alL q2))
    · subst h'; exact .tr (alL q1) (.sy (alL q2))
  · have := gA q
    rw [g1 q1, g1 q2] at this
    exact Sum.inl.inj this
  · rw [ho]
    have hown : ∀ {t : Ky} {k : Nat}, valD m t = some (.int (k : Nat)) → (owned o k ↔ ∃ v, frK v = false ∧ valD m v = some (.int (k : Nat))) := fun {t k} q => I.own t k q
    refine ⟨fun z => ?_, fun ⟨v, v1, v2⟩ => ?_⟩
    · rcases back q with h | ⟨h, h'⟩
      · by_cases hn : n = hi
        · -- then lo = hi
          have hlo : lo = hi := by
            rw [hm, h, hn, if_pos rfl] at q
            have := int_nat (Option.some.inj q)
            omega
          rcases z with z | ⟨_, z⟩
          · obtain ⟨v, v1, v2⟩ := (hown h).mp z
            exact ⟨v, v1, by rw [hm, v2, hn, if_pos rfl, hlo]⟩
          · obtain ⟨v, v1, v2⟩ := (hown h2).mp z
            exact ⟨v, v1, by rw [hm, v2, if_pos rfl, hn, hlo]⟩
        · rcases z with z | ⟨z', z⟩
          · obtain ⟨v, v1, v2⟩ := (hown h).mp z
            exact ⟨v, v1, by rw [hm, v2, if_neg (fun y => hn (int_nat (Option.some.inj y)))]⟩
          · obtain ⟨v, v1, v2⟩ := (hown h2).mp z
            exact ⟨v, v1, by rw [hm, v2, if_pos rfl, z']⟩
      · have hn : n = lo := int_nat h'
        rcases z with z | ⟨_, z⟩
        · rw [hn] at z
          obtain ⟨v, v1, v2⟩ := (hown h1).mp z
          refine ⟨v, v1, ?_⟩
          rw [hm, v2, hn]
          split <;> rfl
        · obtain ⟨v, v1, v2⟩ := (hown h2).mp z
          exact ⟨v, v1, by rw [hm, v2, if_pos rfl, hn]⟩
    · rcases back v2 with h | ⟨h, h'⟩
      · exact .inl ((I.own v n h).mpr ⟨v, v1, h⟩)
      · exact .inr ⟨int_nat h', (I.own v hi h).mpr ⟨v, v1, h⟩⟩
  · have hq := gA hA
    cases hv : valD m' v with
    | none =>
      rw [g0 hv] at hq
      cases hw : valD m' w with
      | none => rw [g0 hw] at hq; exact ne (Sum.inr.inj hq)
      | some b => rw [g1 hw] at hq; cases hq
    | some a =>
      rw [g1 hv] at hq
      cases hw : valD m' w with
      | none => rw [g0 hw] at hq; cases hq
      | some b =>
        rw [g1 hw] at hq
        have hab : a = b := Sum.inl.inj hq
        subst hab
        rcases back hv with h | ⟨h, h'⟩
        · rcases back hw with k | ⟨k, k'⟩
          · exact I.nc ⟨v, w, f1, f2, ne, (I.al v w a a h k).mp rfl⟩
          · subst k'
            by_cases hlh : lo = hi
            · subst hlh; exact I.nc ⟨v, w, f1, f2, ne, (I.al v w _ _ h k).mp rfl⟩
            · exact hb hlh ⟨(I.own v lo h).mpr ⟨v, f1, h⟩, (I.own w hi k).mpr ⟨w, f2, k⟩⟩
        · rcases back hw with k | ⟨k, k'⟩
          · subst h'
            by_cases hlh : lo = hi
            · subst hlh; exact I.nc ⟨v, w, f1, f2, ne, (I.al v w _ _ h k).mp rfl⟩
            · exact hb hlh ⟨(I.own w lo k).mpr ⟨w, f2, k⟩, (I.own v hi h).mpr ⟨v, f1, h⟩⟩
          · exact I.nc ⟨v, w, f1, f2, ne, (I.al v w _ _ h k).mp rfl⟩
  · have hq := gA hA
    rw [g0 q] at hq
    cases ht : valD m' t with
    | none => rw [g0 ht] at hq; exact Sum.inr.inj hq
    | some b => rw [g1 ht] at hq; cases hq
/-- two owners -/
theorem Mrk.both (I : Mrk es m o) {e : Ky × Ky} {lo hi : Nat} (h1 : valD m e.1 = some (.int (lo : Nat))) (h2 : valD m e.2 = some (.int (hi : Nat))) (ne : lo ≠ hi) (a : owned o lo) (b : owned o hi) : Clash (es ++ [e]) := by
  obtain ⟨v, v1, v2⟩ := (I.own _ _ h1).mp a
  obtain ⟨w, w1, w2⟩ := (I.own _ _ h2).mp b
  refine ⟨v, w, v1, w1, fun q => ne ?_, .tr (al_up ((I.al v e.1 _ _ v2 h1).mp rfl)) (.tr al_new (.sy (al_up ((I.al w e.2 _ _ w2 h2).mp rfl))))⟩
  rw [q, w2] at v2
  exact int_nat (Option.some.inj v2) |>.symm
end
end BV

/-! Calls that may raise, of defs told at no repr; isinstance of a caught error with its own fields. -/
namespace BV
open PySem PySem.Spec PyProof.Rows L2 Evl
section
variable {X : Cx} {CX : CXT} {k : Nat} {f : Addr} {fd : FuncData} {ps ks : List Str} {sp : Sp} {E : L2.St → XK} {x : Str} {p pos : Pos} {e : Expr} {es : List Expr} {t tk : TA} {kws : List Keyword}
theorem end_ofS {pins : List (Addr × Obj)} {σ : L2.St} {H : Hp} {s : Shared} {Q : VK} (I : Inv X pins σ H s) (hx : PassesAt CX X σ (E σ)) : ∀ (r : Result) (s' : Shared), CR CX X.stack X.prog X.w H s Q (E σ) r s' → match r with
    | .ok (.ret u) => EP X pins σ Q u s'
    | .ok _ => False
    | .error e => X.xe e s'
  | .error e, s', q => hx pins H s e s' I q
  | .ok (.ret u), s', q => I.after q
  | .ok .next, s', q => q
  | .ok .brk, s', q => q
  | .ok .cont, s', q => q
theorem pe_callGS (F : FnG X.prog X.w X.K X.mg X.base CX k f fd ps sp) (hr : Room k X.A) (hgd : X.A.guards = some []) (hm : X.mg x = some (.ref f)) (hk : PySem.W.keepIn X.K (.ref f) = true) (hb : Binds X.K fd ps []) (hx : ∀ σ, PassesAt CX X σ (E σ))
    (ha : PA X (e :: es) t) (hg : Gl X x := by rfl) (hdb : (x == ("__debug__" : Str)) = false := by decide) (he : starEach (e :: es) X.env = (false, eval e X.env) :: starEach es X.env := by rfl) (hpl : (backTo pos (starEach es X.env)).any (·.1) = false := by rfl) :
    PE X (.Call (.Name x p) (e :: es) [] pos) (tCallS sp E t) := by
  refine ⟨fun pins s σ H Q I q0 => wpAny_Call_Name_kw (ld_glob I hg hm ?_ hdb)⟩
  refine PySem.W.callWith_K (h₀ := X.base) I.ok.mod.kin hk (thn (ha.run pos pins s σ H _ I q0) fun us s1 ⟨vs, H1, I1, r1, q1⟩ => ⟨I1.kIn, ?_⟩) he hpl
  have q2 : sp vs H1 Q (E σ) := q1
  have hn : us.length = ps.length := by rw [← r1.length]; exact F.many _ _ _ _ q2
  have hbt := hb s1 us I1.kIn (by rw [List.append_nil]; exact hn)
  rw [List.append_nil] at hbt
  refine wpAny_call (codeAny_mono (F.go X.A X.stack s1 H1 _ us vs Q (E σ) hr hgd I1.env0 hbt r1 q2) fun r s' z => ?_)
  have z' := end_ofS I1 (hx σ) r s' z
  match r, z' with
  | .error _, z' => exact z'
  | .ok (.ret _), z' => exact z'
  | .ok .next, z' => exact z'.elim
  | .ok .brk, z' => exact z'.elim
  | .ok .cont, z' => exact z'.elim
def tCallGS (sp : Sp) (gV : List V → List V) (n : Nat) (E : L2.St → XK) (tk : TA) : TE := fun σ H Q => tk σ H fun zs H1 => zs.length = n ∧ sp (gV zs) H1 Q (E σ)
theorem pe_callGKS {g : List Value → List Value} {gV : List V → List V} (F : FnG X.prog X.w X.K X.mg X.base CX k f fd ps sp) (hr : Room k X.A) (hgd : X.A.guards = some []) (hm : X.mg x = some (.ref f)) (hk : PySem.W.keepIn X.K (.ref f) = true)
    (hb : KwB X.K fd ps ks g gV) (hx : ∀ σ, PassesAt CX X σ (E σ)) (hkw : PK X kws tk) (hall : (backToKw pos (keywordEach kws X.env)).all (·.1.isSome) = true := by rfl) (hks : (backToKw pos (keywordEach kws X.env)).filterMap (·.1) = ks := by rfl)
    (hg : Gl X x := by rfl) (hdb : (x == ("__debug__" : Str)) = false := by decide) (hpl : ((backTo pos (starEach [] X.env)).any (·.1) || (backToKw pos (keywordEach kws X.env)).any (·.1.isNone)) = false := by rfl) :
    PE X (.Call (.Name x p) [] kws pos) (tCallGS sp gV ks.length E tk) := by
  refine ⟨fun pins s σ H Q I q0 => wpAny_Call_Name_kw (ld_glob I hg hm ?_ hdb)⟩
  refine PySem.W.callWith_KW0 (h₀ := X.base) I.ok.mod.kin hk hall (thn (hkw.run pos pins s σ H _ I q0) fun ws s1 ⟨zs, H1, I1, r1, hl, q1⟩ => ⟨I1.kIn, ?_⟩) hpl
  rw [hks]
  have r2 := hb.rel r1
  have hn : (g ws).length = ps.length := by rw [← r2.length]; exact F.many _ _ _ _ q1
  refine wpAny_call (codeAny_mono (F.go X.A X.stack s1 H1 _ (g ws) (gV zs) Q (E σ) hr hgd I1.env0 (hb.to s1 ws I1.kIn (by rw [← r1.length]; exact hl) hn) r2 q1) fun r s' z => ?_)
  have z' := end_ofS I1 (hx σ) r s' z
  match r, z' with
  | .error _, z' => exact z'
  | .ok (.ret _), z' => exact z'
  | .ok .next, z' => exact z'.elim
  | .ok .brk, z' => exact z'.elim
  | .ok .cont, z' => exact z'.elim
end
/-- a def of the program that may raise, by a promise over the heap; also by names -/
structure KX (P : Program) (w : World) (K : PySem.W.Frag) (mg : Str → Option Value) (base : Heap) (x : Str) (k : Nat) (ps : List Str) (sp : Sp) : Prop where
  ex : ∃ (f : Addr) (fd : FuncData), FnG P w K mg base (L2.CX P w) k f fd ps sp ∧ Binds K fd ps [] ∧ PySem.W.keepIn K (.ref f) = true ∧ mg x = some (.ref f) ∧ KwB K fd ps ps id id
section
variable {X : Cx} {j k : Nat} {ps : List Str} {sp : Sp} {E : L2.St → XK} {x : Str} {p pos : Pos} {e : Expr} {es : List Expr} {t tk : TA} {kws : List Keyword}
theorem pe_callX (G : KX X.prog X.w X.K X.mg X.base x j ps sp) (hr : Room k X.A) (hj : j ≤ k) (hgd : X.A.guards = some []) (hx : ∀ σ, PassesAt (L2.CX X.prog X.w) X σ (E σ)) (ha : PA X (e :: es) t) (hg : Gl X x := by rfl) (hdb : (x == ("__debug__" : Str)) = false := by decide)
    (he : starEach (e :: es) X.env = (false, eval e X.env) :: starEach es X.env := by rfl) (hpl : (backTo pos (starEach es X.env)).any (·.1) = false := by rfl) : PE X (.Call (.Name x p) (e :: es) [] pos) (tCallS sp E t) := by
  obtain ⟨f, fd, F, b, kp, gm, kb⟩ := G.ex
  exact pe_callGS F (hr.mono hj) hgd gm kp b hx ha hg hdb he hpl
theorem pe_callXK (G : KX X.prog X.w X.K X.mg X.base x j ps sp) (hr : Room k X.A) (hj : j ≤ k) (hgd : X.A.guards = some []) (hx : ∀ σ, PassesAt (L2.CX X.prog X.w) X σ (E σ)) (hkw : PK X kws tk) (hall : (backToKw pos (keywordEach kws X.env)).all (·.1.isSome) = true := by rfl) (hks : (backToKw pos (keywordEach kws X.env)).filterMap (·.1) = ps := by rfl)
    (hg : Gl X x := by rfl) (hdb : (x == ("__debug__" : Str)) = false := by decide) (hpl : ((backTo pos (starEach [] X.env)).any (·.1) || (backToKw pos (keywordEach kws X.env)).any (·.1.isNone)) = false := by rfl) :
    PE X (.Call (.Name x p) [] kws pos) (tCallGS sp id ps.length E tk) := by
  obtain ⟨f, fd, F, b, kp, gm, kb⟩ := G.ex
  exact pe_callGKS F (hr.mono hj) hgd gm kp kb hx hkw hall hks hg hdb hpl
end
/-- what the class must say, so that isinstance asks its instances rightly -/
structure ExD (K : PySem.W.Frag) (C : Addr) : Prop where
  cl : (PySem.W.clsIn K C).isSome = true
  ga : PySem.W.findIn K (.ref C) "__getattribute__" = some (some (.builtin "BaseException.__getattribute__"))
  gt : PySem.W.findIn K (.ref C) "__getattr__" = some none
  sb : PySem.W.subIn K (.ref C) (.type "BaseException") = some true
  ca : PySem.W.findIn K (.ref C) "__class__" = some (some (.builtin "object.__class__"))
  sg : PySem.W.specialIn K (.builtin "object.__class__") "__get__" = some (some (.builtin "getset_descriptor.__get__"))
  tk : PySem.W.takesIn K (.builtin "object.__class__") = some true
  mo : PySem.W.mroIn K C (.type "object") = some true
section
variable {X : Cx} {a C : Addr} {oe : Obj} {cls : Value} {d : Option Addr} {pn : List (Addr × Obj)}
theorem inst_at {pins : List (Addr × Obj)} {s : Shared} {σ : L2.St} {H : Hp} {dd : Addr} {fs : List (Str × V)} (I : Inv (X.suite a ((a, oe) :: pn)) pins σ H s) (hz : Zc (.ref C) (some dd) oe) (hf : ∃ vs, oe.data = .fields vs) (hd : H dd = some (.xd fs)) :
    ∃ od, PySem.W.InstAt s.heap a oe C (some od) := by
  obtain ⟨hget, _⟩ := I.pin (a, oe) (List.mem_append.mpr (.inl List.mem_cons_self))
  obtain ⟨vs, hv⟩ := hf
  obtain ⟨mA, hns, hr⟩ : ∃ mA, s.heap.Ns1 dd mA ∧ ∀ f, RelO (fs.lookup f) (mA f) := I.hok dd _ hd
  obtain ⟨od, ho, hl⟩ := lookIn_ns hns
  exact ⟨od, hget, hz.1, by unfold PySem.W.notCls; rw [hv], by rw [hz.2]; exact ho⟩
/-- isinstance(the caught error, a class) -/
def rIsD (K : PySem.W.Frag) (C a : Addr) (cls : Value) (d : Option Addr) : List V → Hp → VK → Prop := fun xs H Q => ∃ (c : V) (cv : Value) (b : Bool) (dd : Addr) (fs : List (Str × V)), xs = [.ref a, c] ∧ cls = .ref C ∧ d = some dd ∧ H dd = some (.xd fs) ∧ ClsV c cv ∧ PySem.W.kitOne K (.ref C) cv = some b ∧ Q (.bl b) H
theorem call_isD (T : ExD X.K C) (hz : Zc cls d oe) (hf : ∃ vs, oe.data = .fields vs) : CallR (X.suite a ((a, oe) :: pn)) (.builtin "isinstance") (rIsD X.K C a cls d) := by
  intro pins s σ H xs us Q I r h
  obtain ⟨c, cv, b, dd, fs, rfl, rfl, rfl, hd, hc, e, q⟩ := h
  obtain ⟨u1, u2, rfl, r1, r2⟩ := vals2 r
  cases (show u1 = Value.ref a from r1)
  have e2 := hc.eq r2
  subst e2
  obtain ⟨od, J⟩ := inst_at I hz hf hd
  exact PySem.W.kia_one (PySem.W.kitx_exc T.cl T.ga T.gt T.sb T.ca T.sg T.tk T.mo) I.kIn J e (fun z => nomatch z) fun tk => ⟨.bl b, H, I.tok tk, rfl, q⟩
/-- isinstance(the caught error, (a class, ..)) -/
def rIsDT (K : PySem.W.Frag) (C a : Addr) (cls : Value) (d : Option Addr) : List V → Hp → VK → Prop := fun xs H Q => ∃ (tp : Addr) (cs : List V) (us : List Value) (b : Bool) (dd : Addr) (fs : List (Str × V)), xs = [.ref a, .ref tp] ∧ cls = .ref C ∧ d = some dd ∧ H dd = some (.xd fs) ∧ H tp = some (.tup cs) ∧ Paired ClsV cs us ∧ PySem.W.kitAny K (.ref C) us = some b ∧ Q (.bl b) H
theorem call_isDT (T : ExD X.K C) (hz : Zc cls d oe) (hf : ∃ vs, oe.data = .fields vs) : CallR (X.suite a ((a, oe) :: pn)) (.builtin "isinstance") (rIsDT X.K C a cls d) := by
  intro pins s σ H xs us Q I r h
  obtain ⟨tp, cs, ws, b, dd, fs, rfl, rfl, rfl, hd, hT, hc, e, q⟩ := h
  obtain ⟨u1, u2, rfl, r1, r2⟩ := vals2 r
  cases (show u1 = Value.ref a from r1)
  cases (show u2 = Value.ref tp from r2)
  obtain ⟨od, J⟩ := inst_at I hz hf hd
  obtain ⟨_, its, rv, o, h1, h2, n, h3⟩ := (show ObjOk X.prog X.w H s.heap tp (.tup cs) from I.hok tp _ hT)
  have e3 := ClsV.all hc rv
  subst e3
  obtain ⟨oc, od', dt, sl⟩ := o
  simp only at h2 h3
  subst h2 h3
  exact PySem.W.kia_tup (PySem.W.kitx_exc T.cl T.ga T.gt T.sb T.ca T.sg T.tk T.mo) I.kIn J h1 e (fun z => nomatch z) fun tk => ⟨.bl b, H, I.tok tk, rfl, q⟩
end
end BV

/-! for x in list(d), d an own dict that the body changes. -/
namespace BV
open PySem PySem.Spec PyProof.Rows L2 Evl
section
variable {X : Cx} {tg o : Expr} {body : List Stmt} {mo : ME} {t : Tgt} {mb : MS} {pos : Pos}
def mForK (rs : List Nat) (mo : ME) (t : Tgt) (body : MS) : MS := fun E env => mo (view rs 0 env) fun d => ∃ ks vs, d = .dic ks vs ∧ forGo t body E (ks.map kdD) env
theorem dns_keys {K : PySem.W.Frag} {C : Hp} {pu : Addr} : ∀ ks : List L2.Key, Dns K C pu (ks.map kdD) (ks.map kV)
  | [] => dns_nil.mpr rfl
  | k :: ks => dns_cons.mpr ⟨_, _, rfl, dn_kdD, dns_keys ks⟩
theorem pds_forK (rs : List Nat) {p lp : Pos} (hp : PassesOwn (model X.prog X.w) X.A X.env X.xe) (hc : X.calm = true) (hg' : Gl X "list") (hm : X.mg "list" = none) (ho : PD X o mo) (hg : PG X tg (t.g X.K)) (hb : PDSs X body mb) (hso : starEach [o] X.env = (false, eval o X.env) :: starEach [] X.env := by rfl)
    (hs : ∀ x, foldedSetIterable (.Call (.Name "list" p) [o] [] lp) X.env x = pure x := by intro _; rfl) : PDS X (.For tg (.Call (.Name "list" p) [o] [] lp) body [] pos) (mForK rs mo t mb) := by
  refine ⟨fun z C0 H0 Cb => ?_, fun E E' env l q => ho.mono _ _ _ (fun d ⟨ks, vs, e, q⟩ => ⟨ks, vs, e, forGo_mono hb.mono l _ _ q⟩) q⟩
  refine ps_imp (ps_for hp hc (pi_list (pe_callTy (call_listD hc) hg' hm boot_list (pa_cons ho.run pa_nil hso) (by decide) (by decide) hso)) hg (hb.runX z C0 H0) hs) fun N σ H ⟨C, env, s, q⟩ => ?_
  refine ⟨z, _, _, s.okP rs, s.envP rs, ho.mono _ _ _ (fun d ⟨ks, vs, e, q⟩ v C1 H1 t1 dn => ?_) q⟩
  subst e
  obtain ⟨a, kvs, e1, e2, e3, e4⟩ := dn_dic.mp dn
  subst e1
  refine ⟨a, kvs, rfl, .inl (t1.ok.ex _ _ e2), fun l hl => ⟨l, rfl, ⟨_, sq_of upd_same⟩, ?_⟩⟩
  have t2 := t1.trans (Tr.put (u := .lst (kvs.map fun kv => kV kv.1)) t1.ok hl)
  have hl0 : H l = none := t1.free hl
  have ho' : ¬ OwnAt rs env σ l := fun h => by
    obtain ⟨_, ⟨u, hu, _⟩, _⟩ := s.ownAt h
    rw [hl0] at hu
    cases hu
  have ek : kvs.map (fun kv => kV kv.1) = ks.map kV := by rw [← e3, List.map_map]; rfl
  have it : ItD X.K z (Itl X.K l) (ks.map kdD) (coreM rs env σ (upd C1 l (.lst (kvs.map fun kv => kV kv.1)))) := itd_list (xs := ks.map kV) (sq_of (by rw [coreM_out ho', upd_same, ek])) (dns_keys ks)
  obtain ⟨W, w1, w2⟩ := for_core rfl (s.thaw rs t2) it hb q
  exact ⟨W, w1, w2⟩
end
end BV

namespace K07
open PySem PySem.Spec PyProof.Rows L2 Evl BV
def topS (i : Nat) : Stmt := PySem.Challenge.pw_onlywith_k07_where_equations_cannot_be_u.main.body.getD i (.Pass ⟨0, 0, 0, 0⟩)

abbrev s_draw : Stmt := topS 17
theorem sc_draw : FnScope ["_law_purse_here", "_law_many", "_law_great", "_law_cell", "_law_turn", "_law_mixed"] ["_law_purse_here", "_law_many"] (defScope s_draw) := ⟨rfl, rfl, rfl, by decide +kernel, rfl, by decide +kernel, by decide +kernel⟩
section
variable {P : Program} {w : World} {K : PySem.W.Frag} {mg : Str → Option Value} {base : Heap}
theorem ok_draw {f : Addr} {fd : FuncData} (F : Fun K "_law_draw" "_law_draw" s_draw f fd) (ml : mg "len" = none) (mi : mg "int" = none) : FnD P w K mg base 1 f fd ["_law_purse_here", "_law_many"] spDraw := by
  have nd := sc_draw.nd
  refine fnG_of F sc_draw (fun vs H Q E ⟨z, C, ds, T, o, dn, ⟨k, e, _⟩, _⟩ => by rw [dn.len, e]; rfl) fun cdv A out s H vs Q E hr gd ⟨z, C, ds, T, o, dn, ⟨k, e, k1, k2, hT⟩, fin⟩ => ?_
  subst e
  obtain ⟨v0, v1, e1, e2, e3⟩ := dns2 dn
  rw [dn_pur.mp e2, dn_int.mp e3] at e1
  subst e1
  obtain ⟨gs, cs, sm, n, hp, hgg, hc, hgl, hcn, hcl⟩ := o.pur.at_
  have pe_i : ∀ {X : Cx} {e : Expr} {t : TE} {p pos : Pos}, Gl X "int" → X.mg "int" = none → PE X e t → (starEach [e] X.env = (false, eval e X.env) :: starEach [] X.env) → ((backTo pos (starEach [] X.env)).any (·.1) = false) → PE X (.Call (.Name "int" p) [e] [] pos) (tCB _ (tCons t tNil)) := fun g m h h1 h2 => pe_callTy call_int1 g m PyProof.Rows.boot_int (pa_cons h pa_nil h1) (by decide) (by decide) h1 h2
  refine ⟨_, (pss_cons (ps_set (i := 2) nd rfl (.inl rfl) (pe_ix ix_list (pv 0) pe_int (fun _ _ => rfl)))
    (pss_cons (ps_if (pt_cmpR (op_neD (by have := hr.units; exact this)) (pv 2) (pe_lst pa_nil) (nomark _))
      (pss_cons (ps_set (i := 3) nd rfl (.inl rfl) (pe_bm0 PySem.F.plainAttrs_list PySem.F.slot_list_pop PySem.F.type_list_pop mt_pop (pv 2)))
      (pss_cons (ps_if (pt_cmpR op_ge (pv 3) (pv 1) (nomark _))
        (pss_one (ps_expr (pe_bm PySem.F.plainAttrs_list PySem.F.slot_list_append PySem.F.type_list_append mt_append (pv 2) (pa_cons (pe_op op_fdiv (pv 3) (pv 1)) pa_nil)))) pss_nil)
      (pss_one (ps_ret (pe_op op_mod (pe_i (by rfl) mi (pv 3) rfl rfl) (pv 1)))))) pss_nil)
    (pss_cons (ps_asg (pe_op op_add (pe_ix ix_list (pv 0) pe_int (fun _ _ => rfl)) pe_int) (pg_sub (pv 0) pe_int set_list))
    (pss_cons (ps_set (i := 4) nd rfl (.inl rfl) (pe_ix ix_list (pv 0) pe_int (fun _ _ => rfl)))
    (pss_cons (ps_set (i := 3) nd rfl (.inl rfl) (pe_ix ix_list (pe_ix ix_list (pv 0) pe_int (fun _ _ => rfl)) (pe_op op_mod (pe_i (by rfl) mi (pv 4) rfl rfl) (pe_callB call_len_seq (by rfl) ml PySem.boot_len (pa_cons (pe_ix ix_list (pv 0) pe_int (fun _ _ => rfl)) pa_nil))) (fun _ _ => rfl)))
    (pss_cons (ps_set (i := 5) nd rfl (.inl rfl) (pe_i (by rfl) mi (pe_op op_add (pe_op op_add (pe_op op_mul (pv 3) pe_int) (pe_op op_mul (pe_ix ix_list (pv 0) pe_int (fun _ _ => rfl)) pe_int)) (pe_op op_mul (pv 4) pe_int)) rfl rfl))
    (pss_cons (ps_set (i := 5) nd rfl (.inl rfl) (pe_op op_mod (pe_i (by rfl) mi (pv 5) rfl rfl) pe_int))
    (pss_cons (ps_set (i := 5) nd rfl (.inl rfl) (pe_op op_mod (pe_i (by rfl) mi (pe_op op_add (pe_op op_add (pe_op op_mul (pv 5) (pv 5)) (pe_op op_mul (pv 4) pe_int)) pe_int) rfl rfl) pe_int))
    (pss_one (ps_ret (pe_op op_mod (pe_op op_fdiv (pe_op op_mod (pe_i (by rfl) mi (pe_op op_add (pe_op op_add (pe_op op_mul (pv 5) (pv 5)) (pe_op op_mul pe_int (pv 5))) (pv 4)) rfl rfl) pe_int) pe_int) (pv 1))))))))))) : PSs _ (defBody s_draw) _).nox, ?_⟩
  -- great = the purse's first
  refine ⟨.ref z.p, rfl, z.p, _, 0, .ref z.g, rfl, rfl, sq_of hp, rfl, ?_⟩
  -- great != []
  refine ⟨.ref z.g, rfl, Nat.zero_le _, fun q hq => ?_⟩
  have nqg : z.g ≠ q := fun e => o.pur.gn (by rw [e]; exact hq)
  have nqp : z.p ≠ q := fun e => o.pur.pn (by rw [e]; exact hq)
  have nqc : z.c ≠ q := fun e => o.pur.cn (by rw [e]; exact hq)
  have hg1 : (upd H q (.lst [])) z.g = some (.lst (gs.map V.int)) := by rw [upd_ne nqg]; exact hgg
  have hp1 : (upd H q (.lst [])) z.p = some (.lst [.ref z.g, .ref z.c, .int sm, .int n]) := by rw [upd_ne nqp]; exact hp
  have hc1 : (upd H q (.lst [])) z.c = some (.lst (cs.map V.int)) := by rw [upd_ne nqc]; exact hc
  have kp1 : ∀ a u, H a = some u → (upd H q (.lst [])) a = some u := Ex.new hq
  generalize hH1 : upd H q (.lst []) = H1 at hg1 hp1 hc1 kp1
  have hq1 : H1 q = some (.lst []) := by rw [← hH1]; exact upd_same
  refine ⟨.list (gs.map PyData.int), .list [], .lst (sq_of hg1) (dpAll_ints gs), .lst (sq_of hq1) .nil, shaped_ints gs, shaped_ints [], _, rfl, ?_⟩
  rcases List.eq_nil_or_concat gs with hgs | ⟨gs', g, hgs⟩
  · subst hgs
    refine iteF ?_
    -- the count
    refine ⟨.ref z.p, rfl, z.p, _, 3, .int n, rfl, rfl, sq_of hp1, rfl, n, 1, rfl, rfl, ?_⟩
    refine ⟨.ref z.p, rfl, z.p, _, 3, 3, rfl, rfl, hp1, rfl, ?_⟩
    have hp2 : (upd H1 z.p (.lst [.ref z.g, .ref z.c, .int sm, .int (n + 1)])) z.p = some (.lst [.ref z.g, .ref z.c, .int sm, .int (n + 1)]) := upd_same
    have hg2 : (upd H1 z.p (.lst [.ref z.g, .ref z.c, .int sm, .int (n + 1)])) z.g = some (.lst []) := by rw [upd_ne o.pur.pg.symm]; exact hg1
    have hc2 : (upd H1 z.p (.lst [.ref z.g, .ref z.c, .int sm, .int (n + 1)])) z.c = some (.lst (cs.map V.int)) := by rw [upd_ne o.pur.pc.symm]; exact hc1
    have kp2 : ∀ a u, H a = some u → a ≠ z.p → a ≠ z.g → (upd H1 z.p (.lst [.ref z.g, .ref z.c, .int sm, .int (n + 1)])) a = some u := fun a u e n1 _ => by rw [upd_ne n1]; exact kp1 a u e
    show tSeq _ _ _ _ (upd H1 z.p (.lst [.ref z.g, .ref z.c, .int sm, .int (n + 1)]))
    generalize upd H1 z.p (.lst [.ref z.g, .ref z.c, .int sm, .int (n + 1)]) = H2 at hp2 hg2 hc2 kp2
    -- turn
    refine ⟨.ref z.p, rfl, z.p, _, 3, .int (n + 1), rfl, rfl, sq_of hp2, rfl, ?_⟩
    -- cell
    have hcl0 : (0 : Int) < (cs.map V.int).length := by
      rw [List.length_map]
      cases cs with
      | nil => exact absurd rfl hcn
      | cons => simp only [List.length_cons]; omega
    obtain ⟨m1, m2⟩ := fmod_pos (i := n + 1) hcl0
    have hat : ∃ c, atI (cs.map V.int) ((n + 1) % ((cs.map V.int).length : Int)) = some (.int c) := by
      have hj : ((n + 1) % ((cs.map V.int).length : Int)).toNat < cs.length := by
        rw [List.length_map] at m2 ⊢
        rw [List.length_map] at m1
        omega
      refine ⟨cs[((n + 1) % ((cs.map V.int).length : Int)).toNat], ?_⟩
      refine at_of (j := ((n + 1) % ((cs.map V.int).length : Int)).toNat) (by omega) ?_
      rw [List.getElem?_map, List.getElem?_eq_getElem hj]
      rfl
    obtain ⟨c, hat⟩ := hat
    refine ⟨.ref z.p, rfl, z.p, _, 1, .ref z.c, rfl, rfl, sq_of hp2, rfl, ?_⟩
    refine ⟨.int (n + 1), rfl, .inl ⟨n + 1, rfl, ?_⟩⟩
    refine ⟨.ref z.p, rfl, z.p, _, 1, .ref z.c, rfl, rfl, sq_of hp2, rfl, z.c, _, rfl, .inl (sq_of hc2), ?_⟩
    refine ⟨n + 1, _, rfl, rfl, hcl0, ?_⟩
    refine ⟨z.c, _, _, .int c, rfl, rfl, sq_of hc2, hat, ?_⟩
    -- mixed
    refine ⟨.int c, rfl, c, 1181783497276652981, rfl, rfl, .inr ⟨by decide, by decide⟩, ?_⟩
    refine ⟨.ref z.p, rfl, z.p, _, 2, .int sm, rfl, rfl, sq_of hp2, rfl, sm, 7046029254386353131, rfl, rfl, .inr ⟨by decide, by decide⟩, ?_⟩
    refine ⟨_, _, rfl, rfl, ?_⟩
    refine ⟨.int (n + 1), rfl, n + 1, 3037000507, rfl, rfl, .inr ⟨by decide, by decide⟩, ?_⟩
    refine ⟨_, _, rfl, rfl, .inl ⟨_, rfl, ?_⟩⟩
    generalize c * 1181783497276652981 + sm * 7046029254386353131 + (n + 1) * 3037000507 = x1
    refine ⟨.int x1, rfl, .inl ⟨x1, rfl, x1, 2305843009213693951, rfl, rfl, by show (0:Int) < 2305843009213693951; decide, ?_⟩⟩
    obtain ⟨a1, a2⟩ := fmod_pos (i := x1) (j := 2305843009213693951) (by decide)
    dsimp only
    generalize x1 % 2305843009213693951 = x2 at a1 a2 ⊢
    refine ⟨.int x2, rfl, .int x2, rfl, x2, x2, rfl, rfl, .inl ⟨by omega, by omega⟩, ?_⟩
    refine ⟨.int (n + 1), rfl, n + 1, 2862933555777941757, rfl, rfl, .inr ⟨by decide, by decide⟩, ?_⟩
    refine ⟨_, _, rfl, rfl, _, _, rfl, rfl, .inl ⟨_, rfl, ?_⟩⟩
    generalize x2 * x2 + (n + 1) * 2862933555777941757 + 1442695041 = x3
    refine ⟨x3, 2305843009213693921, rfl, rfl, by show (0:Int) < 2305843009213693921; decide, ?_⟩
    obtain ⟨b1, b2⟩ := fmod_pos (i := x3) (j := 2305843009213693921) (by decide)
    dsimp only
    generalize x3 % 2305843009213693921 = x4 at b1 b2 ⊢
    refine ⟨.int x4, rfl, .int x4, rfl, x4, x4, rfl, rfl, .inl ⟨by omega, by omega⟩, ?_⟩
    refine ⟨.int x4, rfl, 3, x4, rfl, rfl, .inl ⟨by decide, by decide⟩, ?_⟩
    refine ⟨_, _, rfl, rfl, .int (n + 1), rfl, _, _, rfl, rfl, .inl ⟨_, rfl, ?_⟩⟩
    generalize x4 * x4 + 3 * x4 + (n + 1) = x5
    refine ⟨x5, 2305843009213693951, rfl, rfl, by show (0:Int) < 2305843009213693951; decide, ?_⟩
    refine ⟨_, 1048576, rfl, rfl, ⟨by decide, by decide⟩, ?_⟩
    refine ⟨.int k, rfl, _, k, rfl, rfl, by show 0 < k; omega, ?_⟩
    obtain ⟨c1, c2⟩ := fmod_pos (i := x5 % 2305843009213693951 / 1048576) (j := k) (by omega)
    exact fin _ _ C H2 (hT _ c1 c2) (Tr.drawn o kp2 ⟨[], cs, sm, n + 1, hp2, hg2, hc2, by simp, hcn, hcl⟩) (dn_int.mpr rfl)
  · have hgs' : gs = gs' ++ [g] := by simpa using hgs
    subst hgs'
    have hne : (!PyData.eqv (.list ((gs' ++ [g]).map PyData.int)) (.list [])) = true := by
      cases gs' <;> rfl
    rw [hne]
    refine iteT ?_
    -- pop
    have hpop : ((gs' ++ [g]).map V.int)[((gs' ++ [g]).map V.int).length - 1]? = some (.int g) := by simp
    have hdl : ((gs' ++ [g]).map V.int).dropLast = gs'.map V.int := by simp
    have hgl' : gs'.length + 1 ≤ 64 := by simpa using hgl
    refine ⟨.ref z.g, rfl, .inl ⟨rfl, _, sq_of hg1⟩, z.g, _, .int g, rfl, rfl, hg1, hpop, ?_⟩
    rw [hdl]
    have hg2 : (upd H1 z.g (.lst (gs'.map V.int))) z.g = some (.lst (gs'.map V.int)) := upd_same
    have hp2 : (upd H1 z.g (.lst (gs'.map V.int))) z.p = some (.lst [.ref z.g, .ref z.c, .int sm, .int n]) := by rw [upd_ne o.pur.pg]; exact hp1
    have hc2 : (upd H1 z.g (.lst (gs'.map V.int))) z.c = some (.lst (cs.map V.int)) := by rw [upd_ne o.pur.gc.symm]; exact hc1
    have kp2 : ∀ a u, H a = some u → a ≠ z.p → a ≠ z.g → (upd H1 z.g (.lst (gs'.map V.int))) a = some u := fun a u e _ n2 => by rw [upd_ne n2]; exact kp1 a u e
    generalize upd H1 z.g (.lst (gs'.map V.int)) = H2 at hp2 hg2 hc2 kp2
    -- what is left of the cell goes back
    have last : ∀ H3, (∃ (gs cs : List Int) (s k : Int), H3 z.p = some (.lst [.ref z.g, .ref z.c, .int s, .int k]) ∧ H3 z.g = some (.lst (gs.map V.int)) ∧ H3 z.c = some (.lst (cs.map V.int)) ∧ gs.length ≤ 64 ∧ cs ≠ [] ∧ cs.length ≤ 64) → (∀ a u, H a = some u → a ≠ z.p → a ≠ z.g → H3 a = some u) →
        Q (.int (g % k)) H3 := fun H3 h1 h2 => by
      obtain ⟨c1, c2⟩ := fmod_pos (i := g) (j := k) (by omega)
      exact fin _ _ C H3 (hT _ c1 c2) (Tr.drawn o h2 h1) (dn_int.mpr rfl)
    refine ⟨.int g, rfl, .int k, rfl, g, k, rfl, rfl, _, rfl, ite2 (fun _ => ?_) (fun _ => ?_)⟩
    · refine ⟨.ref z.g, rfl, .inl ⟨rfl, _, sq_of hg2⟩, .int g, rfl, .int k, rfl, g, k, rfl, rfl, ⟨by omega, k2⟩, ?_⟩
      refine ⟨z.g, _, .int (g / k), rfl, rfl, hg2, by rw [List.length_map]; exact Nat.lt_of_lt_of_le (by omega : gs'.length < 1000) (by decide), ?_⟩
      refine ⟨.int g, rfl, .inl ⟨g, rfl, .int k, rfl, g, k, rfl, rfl, by show 0 < k; omega, ?_⟩⟩
      refine last _ ⟨gs' ++ [g / k], cs, sm, n, by rw [upd_ne o.pur.pg]; exact hp2, by rw [upd_same]; simp, by rw [upd_ne o.pur.gc.symm]; exact hc2, by simpa using hgl', hcn, hcl⟩ fun a u e n1 n2 => by rw [upd_ne n2]; exact kp2 a u e n1 n2
    · refine ⟨.int g, rfl, .inl ⟨g, rfl, .int k, rfl, g, k, rfl, rfl, by show 0 < k; omega, ?_⟩⟩
      exact last _ ⟨gs', cs, sm, n, hp2, hg2, hc2, by omega, hcn, hcl⟩ kp2
end
end K07

namespace K07
open PySem PySem.Spec PyProof.Rows L2 Evl BV
abbrev s_is_free : Stmt := topS 9
abbrev N_is_free : List Str := ["term"]
theorem sc_is_free : FnScope N_is_free ["term"] (defScope s_is_free) := ⟨rfl, rfl, rfl, by decide +kernel, rfl, by decide +kernel, by decide +kernel⟩
def m_is_free : MS :=
    (mRet [] (mAndV (mIsi "str" (mVar 0)) (mOp eqD (mSl (mVar 0) moNo (moYes (mC (.int 1)))) (mC (.str (Str.ofString "?"))))))
theorem ok_is_free {P : Program} {w : World} {K : PySem.W.Frag} {mg : Str → Option Value} {base : Heap} {f : Addr} {fd : FuncData} (F : Fun K "is_free" "is_free" s_is_free f fd) (bi_isinstance : mg "isinstance" = none) (bi_str : mg "str" = none) : FnD P w K mg base 1 f fd ["term"] (spOf 1 N_is_free.length (m_is_free )) := by
  have nd := sc_is_free.nd
  refine fnD_of F sc_is_free fun cdv A out s H E hr hgd => ?_
  have hu := hr.units
  exact (pdss_one (pds_ret [] (pd_and (pd_isi (pd_v 0) bi_isinstance bi_str boot_str) (pd_one (pd_cmp (opd_eq hu) (pd_slice (pd_v 0) pdp_none (pdp_some pd_int)) pd_str (nomark _))))))
abbrev s_variables_of : Stmt := topS 10
abbrev N_variables_of : List Str := ["pattern", "term"]
theorem sc_variables_of : FnScope N_variables_of ["pattern"] (defScope s_variables_of) := ⟨rfl, rfl, rfl, by decide +kernel, rfl, by decide +kernel, by decide +kernel⟩
def m_variables_of (sp_is_free : SpD) : MS :=
    (mRet [] (mCB tupleD (maCons (mLstO (mSortSet [1] (mSeqI (mVar 0)) (.nm 1) (tBl (mCall sp_is_free (maCons (mVar 1) maNil))) (mVar 1))) maNil)))
theorem ok_variables_of {P : Program} {w : World} {K : PySem.W.Frag} {mg : Str → Option Value} {base : Heap} {f : Addr} {fd : FuncData} (F : Fun K "variables_of" "variables_of" s_variables_of f fd) (bi_tuple : mg "tuple" = none) (bi_sorted : mg "sorted" = none) {sp_is_free : SpD} (G_is_free : Kn P w K mg base "is_free" 1 ["term"] sp_is_free) : FnD P w K mg base 2 f fd ["pattern"] (spOf 1 N_variables_of.length (m_variables_of sp_is_free)) := by
  have nd := sc_variables_of.nd
  refine fnD_of F sc_variables_of fun cdv A out s H E hr hgd => ?_
  have hu := hr.units
  exact (pdss_one (pds_ret [] (pd_callTy cd_tuple (by rfl) bi_tuple boot_tuple (pda_cons (pd_ofO (pd_sortSet (x := "sorted") (own := [("term", 1)]) (t := (.nm 1)) (mt := (tBl (mCall sp_is_free (maCons (mVar 1) maNil)))) (me := (mVar 1)) rfl nd bi_sorted (pdi_seq (pd_v 0)) (blkOk_by (N := N_variables_of) (sc := defScope s_variables_of) (by decide +kernel)) (by decide) (fun _ _ _ _ _ => (pgt_nm 1 nd)) (fun _ _ _ _ _ => (pdts_one (pdt_val (pd_callN G_is_free hr (by decide) hgd (pda_cons (pd_v 1) pda_nil))))) (fun _ _ _ _ _ => (pd_v 1)))) pda_nil))))
abbrev s_leader_of : Stmt := topS 12
abbrev N_leader_of : List Str := ["leaders", "term", "leader", "further"]
abbrev s_made_alike : Stmt := topS 13
abbrev N_made_alike : List Str := ["leaders", "one", "other", "first", "second"]
abbrev s_unified : Stmt := topS 14
abbrev N_unified : List Str := ["equations", "leaders", "place", "one", "other", "variables", "pair", "term", "variable"]
abbrev s_purse : Stmt := topS 16
abbrev N_purse : List Str := ["_law_script", "_law_cells", "_law_cell"]
abbrev N_draw : List Str := ["_law_purse_here", "_law_many", "_law_great", "_law_cell", "_law_turn", "_law_mixed"]
abbrev s_pick : Stmt := topS 18
abbrev N_pick : List Str := ["_law_purse_here", "_law_some"]
theorem sc_pick : FnScope N_pick ["_law_purse_here", "_law_some"] (defScope s_pick) := ⟨rfl, rfl, rfl, by decide +kernel, rfl, by decide +kernel, by decide +kernel⟩
def m_pick (sp_draw : SpD) : MS :=
    (mRet [] (mOp ixD (mVar 1) (mCall sp_draw (maCons (mVar 0) (maCons (mCB len3D (maCons (mVar 1) maNil)) maNil)))))
theorem ok_pick {P : Program} {w : World} {K : PySem.W.Frag} {mg : Str → Option Value} {base : Heap} {f : Addr} {fd : FuncData} (F : Fun K "_law_pick" "_law_pick" s_pick f fd) (bi_len : mg "len" = none) {sp_draw : SpD} (G_draw : Kn P w K mg base "_law_draw" 1 ["_law_purse_here", "_law_many"] sp_draw) : FnD P w K mg base 2 f fd ["_law_purse_here", "_law_some"] (spOf 2 N_pick.length (m_pick sp_draw)) := by
  have nd := sc_pick.nd
  refine fnD_of F sc_pick fun cdv A out s H E hr hgd => ?_
  have hu := hr.units
  exact (pdss_one (pds_ret [] (pd_ix (pd_v 1) (pd_callN G_draw hr (by decide) hgd (pda_cons (pd_v 0) (pda_cons (pd_callB cd_len3 (by rfl) bi_len boot_len (pda_cons (pd_v 1) pda_nil)) pda_nil))) (fun _ _ => rfl))))
abbrev s_terms : Stmt := topS 19
abbrev N_terms : List Str := ["_law_purse_here", "_law_letter", "_law_further", "_law_some", "_law_stock", "_law_names", "_law_turn"]
theorem sc_terms : FnScope N_terms ["_law_purse_here"] (defScope s_terms) := ⟨rfl, rfl, rfl, by decide +kernel, rfl, by decide +kernel, by decide +kernel⟩
def m_terms (sp_pick sp_draw : SpD) : MS :=
    (mSeq (mPar2 [] 1 2 (maCons (mCall sp_pick (maCons (mVar 0) (maCons (mC (.str (Str.ofString "abcxyz"))) maNil))) (maCons (mCall sp_pick (maCons (mVar 0) (maCons (mC (.str (Str.ofString "abcxyz"))) maNil))) maNil)))
    (mSeq (mAsg [] 3 (mLst (maCons (mOp addD (mC (.str (Str.ofString "?"))) (mVar 1)) (maCons (mOp addD (mOp addD (mC (.str (Str.ofString "?"))) (mVar 1)) (mVar 2)) (maCons (mOp addD (mOp addD (mC (.str (Str.ofString "?"))) (mVar 1)) (mC (.str (Str.ofString ".7")))) (maCons (mOp addD (mOp addD (mC (.str (Str.ofString "?"))) (mVar 1)) (mC (.str (Str.ofString ".10")))) (maCons (mOp addD (mC (.str (Str.ofString "?"))) (mOp mulD (mVar 1) (mC (.int 3)))) maNil)))))))
    (mSeq (mAsg [] 3 (mOp addD (mVar 3) (mLst (maCons (mOp addD (mC (.str (Str.ofString "?"))) (mVar 2)) (maCons (mOp addD (mOp addD (mC (.str (Str.ofString "?"))) (mVar 2)) (mC (.str (Str.ofString ".0")))) (maCons (mC (.str (Str.ofString "?q"))) (maCons (mOp addD (mC (.str (Str.ofString "?q."))) (mCB strD (maCons (mCall sp_draw (maCons (mVar 0) (maCons (mOp addD (mOp powD (mC (.int 10)) (mC (.int 9))) (mC (.int 1))) maNil))) maNil))) maNil)))))))
    (mSeq (mAsg [] 4 (mLst (maCons (mC (.int 0)) (maCons (mC (.int 7)) (maCons (mOp powD (mC (.int 10)) (mC (.int 9))) (maCons (mUn negD (mCall sp_draw (maCons (mVar 0) (maCons (mOp addD (mOp powD (mC (.int 10)) (mC (.int 9))) (mC (.int 1))) maNil)))) (maCons (mVar 1) (maCons (mOp mulD (mVar 1) (mC (.int 2))) (maCons (mC (.str (Str.ofString "q"))) maNil)))))))))
    (mSeq (mAsgS [] 5 (moLc [6] (mRng1 (maCons (mOp addD (mC (.int 1)) (mCall sp_draw (maCons (mVar 0) (maCons (mC (.int 7)) maNil)))) maNil)) (.nm 6) mYes (mCall sp_pick (maCons (mVar 0) (maCons (mVar 3) maNil)))))
    (mRet [] (mLst (maCons (mVar 5) (maCons (mLstO (moLc [6] (mRng1 (maCons (mOp addD (mC (.int 1)) (mCall sp_draw (maCons (mVar 0) (maCons (mC (.int 4)) maNil)))) maNil)) (.nm 6) mYes (mCall sp_pick (maCons (mVar 0) (maCons (mVar 4) maNil))))) maNil)))))))))
theorem ok_terms {P : Program} {w : World} {K : PySem.W.Frag} {mg : Str → Option Value} {base : Heap} {f : Addr} {fd : FuncData} (F : Fun K "_law_terms" "_law_terms" s_terms f fd) (bi_str : mg "str" = none) (bi_range : mg "range" = none) {sp_pick : SpD} (G_pick : Kn P w K mg base "_law_pick" 2 ["_law_purse_here", "_law_some"] sp_pick) {sp_draw : SpD} (G_draw : Kn P w K mg base "_law_draw" 1 ["_law_purse_here", "_law_many"] sp_draw) : FnD P w K mg base 3 f fd ["_law_purse_here"] (spOf 1 N_terms.length (m_terms sp_pick sp_draw)) := by
  have nd := sc_terms.nd
  refine fnD_of F sc_terms fun cdv A out s H E hr hgd => ?_
  have hu := hr.units
  exact (pdss_cons (pds_p2 [] 1 2 rfl nd (pda_cons (pd_callN G_pick hr (by decide) hgd (pda_cons (pd_v 0) (pda_cons pd_str pda_nil))) (pda_cons (pd_callN G_pick hr (by decide) hgd (pda_cons (pd_v 0) (pda_cons pd_str pda_nil))) pda_nil)))
    (pdss_cons (pds_set [] 3 nd (pd_lst (pda_cons (pd_op opd_add pd_str (pd_v 1)) (pda_cons (pd_op opd_add (pd_op opd_add pd_str (pd_v 1)) (pd_v 2)) (pda_cons (pd_op opd_add (pd_op opd_add pd_str (pd_v 1)) pd_str) (pda_cons (pd_op opd_add (pd_op opd_add pd_str (pd_v 1)) pd_str) (pda_cons (pd_op opd_add pd_str (pd_op opd_mul (pd_v 1) pd_int)) pda_nil)))))))
    (pdss_cons (pds_set [] 3 nd (pd_op opd_add (pd_v 3) (pd_lst (pda_cons (pd_op opd_add pd_str (pd_v 2)) (pda_cons (pd_op opd_add (pd_op opd_add pd_str (pd_v 2)) pd_str) (pda_cons pd_str (pda_cons (pd_op opd_add pd_str (pd_callTy cd_str (by rfl) bi_str boot_str (pda_cons (pd_callN G_draw hr (by decide) hgd (pda_cons (pd_v 0) (pda_cons (pd_op opd_add (pd_op opd_pow pd_int pd_int) pd_int) pda_nil))) pda_nil))) pda_nil)))))))
    (pdss_cons (pds_set [] 4 nd (pd_lst (pda_cons pd_int (pda_cons pd_int (pda_cons (pd_op opd_pow pd_int pd_int) (pda_cons (pd_un und_neg (pd_callN G_draw hr (by decide) hgd (pda_cons (pd_v 0) (pda_cons (pd_op opd_add (pd_op opd_pow pd_int pd_int) pd_int) pda_nil)))) (pda_cons (pd_v 1) (pda_cons (pd_op opd_mul (pd_v 1) pd_int) (pda_cons pd_str pda_nil)))))))))
    (pdss_cons (pds_setLcSN (own := [("_law_turn", 6)]) (t := (.nm 6)) (mt := mYes) (me := (mCall sp_pick (maCons (mVar 0) (maCons (mVar 3) maNil)))) [] (i := 5) rfl nd rfl rfl (sw_true rfl rfl rfl (by decide +kernel)) (PDR.pdi (pdr_1 (by rfl) bi_range (pda_cons (pd_op opd_add pd_int (pd_callN G_draw hr (by decide) hgd (pda_cons (pd_v 0) (pda_cons pd_int pda_nil)))) pda_nil))) (blkOk_by (N := N_terms) (sc := defScope s_terms) (by decide +kernel)) (by decide) (fun _ _ _ _ _ => (pgt_nm 6 nd)) (fun _ _ _ _ _ => pdts_nil) (fun _ _ _ _ _ => (pd_callN G_pick hr (by decide) hgd (pda_cons (pd_v 0) (pda_cons (pd_v 3) pda_nil)))))
    (pdss_one (pds_ret [] (pd_lst (pda_cons (pd_v 5) (pda_cons (pd_ofO (pdo_lcN (own := [("_law_turn", 6)]) (t := (.nm 6)) (mt := mYes) (me := (mCall sp_pick (maCons (mVar 0) (maCons (mVar 4) maNil)))) rfl nd (PDR.pdi (pdr_1 (by rfl) bi_range (pda_cons (pd_op opd_add pd_int (pd_callN G_draw hr (by decide) hgd (pda_cons (pd_v 0) (pda_cons pd_int pda_nil)))) pda_nil))) (blkOk_by (N := N_terms) (sc := defScope s_terms) (by decide +kernel)) (by decide) (fun _ _ _ _ _ => (pgt_nm 6 nd)) (fun _ _ _ _ _ => pdts_nil) (fun _ _ _ _ _ => (pd_callN G_pick hr (by decide) hgd (pda_cons (pd_v 0) (pda_cons (pd_v 4) pda_nil)))))) pda_nil))))))))))
abbrev s_pairs : Stmt := topS 20
abbrev N_pairs : List Str := ["_law_purse_here", "_law_names", "_law_stock", "_law_share", "_law_found", "_law_turn", "_law_one", "_law_two"]
theorem sc_pairs : FnScope N_pairs ["_law_purse_here", "_law_names", "_law_stock"] (defScope s_pairs) := ⟨rfl, rfl, rfl, by decide +kernel, rfl, by decide +kernel, by decide +kernel⟩
def m_pairs (sp_pick sp_draw : SpD) : MS :=
    (mSeq (mPar2VO [] 3 4 (mCall sp_pick (maCons (mVar 0) (maCons (mLst (maCons (mC (.int 2)) (maCons (mC (.int 3)) (maCons (mC (.int 6)) maNil)))) maNil))) (moLst maNil))
    (mSeq (mForR [] (mRng1 (maCons (mOp addD (mC (.int 1)) (mCall sp_draw (maCons (mVar 0) (maCons (mC (.int 14)) maNil)))) maNil)) (.nm 5)
    (mSeq (mPar2 [] 6 7 (maCons (mCall sp_pick (maCons (mVar 0) (maCons (mVar 1) maNil))) (maCons (mCall sp_pick (maCons (mVar 0) (maCons (mVar 1) maNil))) maNil)))
    (mSeq (mIfS [] (mAndT (tBl (mOp gtD (mVar 5) (mC (.int 0)))) (tBl (mOp eqD (mCall sp_draw (maCons (mVar 0) (maCons (mC (.int 3)) maNil))) (mC (.int 0)))))
    (mAsg [4] 6 (mOp ixD (mOp ixD (mVar 4) (mUn negD (mC (.int 1)))) (mC (.int 1))))
    mNext)
    (mSeq (mIfS [] (tBl (mOp eqD (mCall sp_draw (maCons (mVar 0) (maCons (mVar 3) maNil))) (mC (.int 0))))
    (mAsg [] 7 (mCall sp_pick (maCons (mVar 0) (maCons (mVar 2) maNil))))
    mNext)
    (mSeq (mIfS [] (tBl (mOp eqD (mCall sp_draw (maCons (mVar 0) (maCons (mOp mulD (mC (.int 5)) (mVar 3)) maNil))) (mC (.int 0))))
    (mAsg [] 6 (mCall sp_pick (maCons (mVar 0) (maCons (mVar 2) maNil))))
    mNext)
    (mApp [] 4 (mIf (tBl (mOp eqD (mCall sp_draw (maCons (mVar 0) (maCons (mC (.int 2)) maNil))) (mC (.int 0)))) (mTup (maCons (mVar 6) (maCons (mVar 7) maNil))) (mTup (maCons (mVar 7) (maCons (mVar 6) maNil))))))))))
    (mRet [4] (mCB tupleD (maCons (mVar 4) maNil)))))
theorem ok_pairs {P : Program} {w : World} {K : PySem.W.Frag} {mg : Str → Option Value} {base : Heap} {f : Addr} {fd : FuncData} (F : Fun K "_law_pairs" "_law_pairs" s_pairs f fd) (bi_range : mg "range" = none) (bi_tuple : mg "tuple" = none) {sp_pick : SpD} (G_pick : Kn P w K mg base "_law_pick" 2 ["_law_purse_here", "_law_some"] sp_pick) {sp_draw : SpD} (G_draw : Kn P w K mg base "_law_draw" 1 ["_law_purse_here", "_law_many"] sp_draw) : FnD P w K mg base 3 f fd ["_law_purse_here", "_law_names", "_law_stock"] (spOf 3 N_pairs.length (m_pairs sp_pick sp_draw)) := by
  have nd := sc_pairs.nd
  refine fnD_of F sc_pairs fun cdv A out s H E hr hgd => ?_
  have hu := hr.units
  exact (pdss_cons (pds_p2VO [] 3 4 rfl nd (pd_callN G_pick hr (by decide) hgd (pda_cons (pd_v 0) (pda_cons (pd_lst (pda_cons pd_int (pda_cons pd_int (pda_cons pd_int pda_nil)))) pda_nil))) (pdo_lst pda_nil))
    (pdss_cons (pds_forR [] (t := (.nm 5)) PassesOwn.never rfl (pdr_1 (by rfl) bi_range (pda_cons (pd_op opd_add pd_int (pd_callN G_draw hr (by decide) hgd (pda_cons (pd_v 0) (pda_cons pd_int pda_nil)))) pda_nil)) (pgt_nm 5 nd)
    (pdss_cons (pds_p2 [] 6 7 rfl nd (pda_cons (pd_callN G_pick hr (by decide) hgd (pda_cons (pd_v 0) (pda_cons (pd_v 1) pda_nil))) (pda_cons (pd_callN G_pick hr (by decide) hgd (pda_cons (pd_v 0) (pda_cons (pd_v 1) pda_nil))) pda_nil)))
    (pdss_cons (pds_if [] (PDW.pdt (pdw_and (pdt_cmp opd_gt (pd_v 5) pd_int (nomark _)) (pdw_and1 (pdt_cmp (opd_eq hu) (pd_callN G_draw hr (by decide) hgd (pda_cons (pd_v 0) (pda_cons pd_int pda_nil))) pd_int (nomark _)))))
    (pdss_one (pds_set [4] 6 nd (pd_ix (pd_ix (pd_v 4) (pd_un und_neg pd_int) (fun _ _ => rfl)) pd_int (fun _ _ => rfl))))
    pdss_nil)
    (pdss_cons (pds_if [] (pdt_cmp (opd_eq hu) (pd_callN G_draw hr (by decide) hgd (pda_cons (pd_v 0) (pda_cons (pd_v 3) pda_nil))) pd_int (nomark _))
    (pdss_one (pds_set [] 7 nd (pd_callN G_pick hr (by decide) hgd (pda_cons (pd_v 0) (pda_cons (pd_v 2) pda_nil)))))
    pdss_nil)
    (pdss_cons (pds_if [] (pdt_cmp (opd_eq hu) (pd_callN G_draw hr (by decide) hgd (pda_cons (pd_v 0) (pda_cons (pd_op opd_mul pd_int (pd_v 3)) pda_nil))) pd_int (nomark _))
    (pdss_one (pds_set [] 6 nd (pd_callN G_pick hr (by decide) hgd (pda_cons (pd_v 0) (pda_cons (pd_v 2) pda_nil)))))
    pdss_nil)
    (pdss_one (pds_app [] (pv 4) (pd_ifExp (pdt_cmp (opd_eq hu) (pd_callN G_draw hr (by decide) hgd (pda_cons (pd_v 0) (pda_cons pd_int pda_nil))) pd_int (nomark _)) (pd_tup (pda_cons (pd_v 6) (pda_cons (pd_v 7) pda_nil))) (pd_tup (pda_cons (pd_v 7) (pda_cons (pd_v 6) pda_nil)))))))))))
    (pdss_one (pds_ret [4] (pd_callTy cd_tuple (by rfl) bi_tuple boot_tuple (pda_cons (pd_v 4) pda_nil))))))
abbrev s_place : Stmt := topS 21
abbrev N_place : List Str := ["_law_pairs_here", "_law_marks", "_law_owners", "_law_at", "_law_pair", "_law_term", "_law_low", "_law_high"]
theorem sc_place : FnScope N_place ["_law_pairs_here"] (defScope s_place) := ⟨rfl, rfl, rfl, by decide +kernel, rfl, by decide +kernel, by decide +kernel⟩
def m_place : MS :=
    (mSeq (mNewDD 1 2)
    (mSeq (mFor [] (mEnumS (maCons (mVar 0) maNil)) (.tp [3, 4])
    (mSeq (mFor [] (mSeqI (mVar 4)) (.nm 5)
    (mIfS [1] (tBl (mDin true (mVar 5) (mVar 1)))
    (mSeq (mPutD [1] 1 (mCB len3D (maCons (mVar 1) maNil)) (mVar 5))
    (mIfS [] (mOrT (tBl (mIsi "int" (mVar 5))) (tBl (mOp neD (mSl (mVar 5) moNo (moYes (mC (.int 1)))) (mC (.str (Str.ofString "?"))))))
    (mPutD [1] 2 (mVar 5) (mDget (mVar 1) (mVar 5)))
    mNext))
    mNext))
    (mSeq (mPar2 [1] 6 7 (maCons (mDget (mVar 1) (mOp ixD (mVar 4) (mC (.int 0)))) (maCons (mDget (mVar 1) (mOp ixD (mVar 4) (mC (.int 1)))) maNil)))
    (mIfS [] (tBl (mOp neD (mVar 6) (mVar 7)))
    (mSeq (mIfS [2] (mAndT (tBl (mDin false (mVar 6) (mVar 2))) (tBl (mDin false (mVar 7) (mVar 2))))
    (mRet [] (mVar 3))
    mNext)
    (mSeq (mForK [1] (mVar 1) (.nm 5)
    (mIfS [1] (tBl (mOp eqD (mDget (mVar 1) (mVar 5)) (mVar 7)))
    (mPutD [] 1 (mVar 6) (mVar 5))
    mNext))
    (mIfS [2] (tBl (mDin false (mVar 7) (mVar 2)))
    (mPutD [2] 2 (mDget (mVar 2) (mVar 7)) (mVar 6))
    mNext)))
    mNext))))
    (mRet [] (mC .non))))
theorem ok_place {P : Program} {w : World} {K : PySem.W.Frag} {mg : Str → Option Value} {base : Heap} {f : Addr} {fd : FuncData} (F : Fun K "_law_place" "_law_place" s_place f fd) (bi_enumerate : mg "enumerate" = none) (bi_len : mg "len" = none) (bi_isinstance : mg "isinstance" = none) (bi_int : mg "int" = none) (bi_list : mg "list" = none) : FnD P w K mg base 1 f fd ["_law_pairs_here"] (spOf 1 N_place.length (m_place )) := by
  have nd := sc_place.nd
  refine fnD_of F sc_place fun cdv A out s H E hr hgd => ?_
  have hu := hr.units
  exact (pdss_cons (pds_newDD 1 2 rfl nd)
    (pdss_cons (pds_for [] (t := (.tp [3, 4])) PassesOwn.never rfl (pdi_enumS (by rfl) bi_enumerate (pda_cons (pd_v 0) pda_nil)) (pgt_tp rfl (pgs_nm 3 nd (pgs_nm 4 nd pgs_end)))
    (pdss_cons (pds_for [] (t := (.nm 5)) PassesOwn.never rfl (pdi_seq (pd_v 4)) (pgt_nm 5 nd)
    (pdss_one (pds_if [1] (pdt_dnotin hu (pd_v 5) (pd_v 1))
    (pdss_cons (pds_putD [1] hu (pv 1) (pd_v 5) (pd_callB cd_len3 (by rfl) bi_len boot_len (pda_cons (pd_v 1) pda_nil)))
    (pdss_one (pds_if [] (PDW.pdt (pdw_or (pdt_val (pd_isi (pd_v 5) bi_isinstance bi_int boot_int)) (pdw_or1 (pdt_cmp (opd_ne hu) (pd_slice (pd_v 5) pdp_none (pdp_some pd_int)) pd_str (nomark _)))))
    (pdss_one (pds_putD [1] hu (pv 2) (pd_dget hu (pd_v 1) (pd_v 5)) (pd_v 5)))
    pdss_nil)))
    pdss_nil)))
    (pdss_cons (pds_p2 [1] 6 7 rfl nd (pda_cons (pd_dget hu (pd_v 1) (pd_ix (pd_v 4) pd_int (fun _ _ => rfl))) (pda_cons (pd_dget hu (pd_v 1) (pd_ix (pd_v 4) pd_int (fun _ _ => rfl))) pda_nil)))
    (pdss_one (pds_if [] (pdt_cmp (opd_ne hu) (pd_v 6) (pd_v 7) (nomark _))
    (pdss_cons (pds_if [2] (PDW.pdt (pdw_and (pdt_din hu (pd_v 6) (pd_v 2)) (pdw_and1 (pdt_din hu (pd_v 7) (pd_v 2)))))
    (pdss_one (pds_ret [] (pd_v 3)))
    pdss_nil)
    (pdss_cons (pds_forK [1] (t := (.nm 5)) PassesOwn.never rfl (by rfl) bi_list (pd_v 1) (pgt_nm 5 nd)
    (pdss_one (pds_if [1] (pdt_cmp (opd_eq hu) (pd_dget hu (pd_v 1) (pd_v 5)) (pd_v 7) (nomark _))
    (pdss_one (pds_putD [] hu (pv 1) (pd_v 5) (pd_v 6)))
    pdss_nil)))
    (pdss_one (pds_if [2] (pdt_din hu (pd_v 7) (pd_v 2))
    (pdss_one (pds_putD [2] hu (pv 2) (pd_v 6) (pd_dget hu (pd_v 2) (pd_v 7))))
    pdss_nil))))
    pdss_nil)))))
    (pdss_one (pds_ret [] pd_non))))
abbrev s_told : Stmt := topS 22
abbrev N_told : List Str := ["_law_pairs_here", "_law_is_named", "_law_told_here", "_law_is_under", "_law_is_other"]
abbrev s_are_beginnings_told : Stmt := topS 23
abbrev N_are_beginnings_told : List Str := ["_law_pairs_here", "_law_due", "_law_many", "_law_own"]
theorem sc_are_beginnings_told : FnScope N_are_beginnings_told ["_law_pairs_here", "_law_due"] (defScope s_are_beginnings_told) := ⟨rfl, rfl, rfl, by decide +kernel, rfl, by decide +kernel, by decide +kernel⟩
def m_are_beginnings_told (sp_told : SpD) : MS :=
    (mSeq (mForR [] (mRng1 (maCons (mOp addD (mCB len3D (maCons (mVar 0) maNil)) (mC (.int 1))) maNil)) (.nm 2)
    (mSeq (mAsg [] 3 (mIf (mAndT (tBl (mOp (isU true) (mVar 1) (mC .non))) (tBl (mOp gtD (mVar 2) (mVar 1)))) (mVar 1) (mC .non)))
    (mIfS [] (tBl (mOp neD (mCB repr2D (maCons (mCall sp_told (maCons (mSl (mVar 0) moNo (moYes (mVar 2))) (maCons (mOp eqD (mOp modD (mCB int2D (maCons (mVar 2) maNil)) (mC (.int 2))) (mC (.int 1))) maNil))) maNil)) (mCB repr2D (maCons (mVar 3) maNil))))
    (mRet [] (mC (.bl false)))
    mNext)))
    (mRet [] (mC (.bl true))))
theorem ok_are_beginnings_told {P : Program} {w : World} {K : PySem.W.Frag} {mg : Str → Option Value} {base : Heap} {f : Addr} {fd : FuncData} (F : Fun K "_law_are_beginnings_told" "_law_are_beginnings_told" s_are_beginnings_told f fd) (bi_range : mg "range" = none) (bi_len : mg "len" = none) (bi_repr : mg "repr" = none) (bi_int : mg "int" = none) {sp_told : SpD} (G_told : Kn P w K mg base "_law_told" 4 ["_law_pairs_here", "_law_is_named"] sp_told) : FnD P w K mg base 5 f fd ["_law_pairs_here", "_law_due"] (spOf 2 N_are_beginnings_told.length (m_are_beginnings_told sp_told)) := by
  have nd := sc_are_beginnings_told.nd
  refine fnD_of F sc_are_beginnings_told fun cdv A out s H E hr hgd => ?_
  have hu := hr.units
  exact (pdss_cons (pds_forR [] (t := (.nm 2)) PassesOwn.never rfl (pdr_1 (by rfl) bi_range (pda_cons (pd_op opd_add (pd_callB cd_len3 (by rfl) bi_len boot_len (pda_cons (pd_v 0) pda_nil)) pd_int) pda_nil)) (pgt_nm 2 nd)
    (pdss_cons (pds_set [] 3 nd (pd_ifExp (PDW.pdt (pdw_and (pdt_cmp opd_isnotU (pd_v 1) pd_non (nomark _)) (pdw_and1 (pdt_cmp opd_gt (pd_v 2) (pd_v 1) (nomark _))))) (pd_v 1) pd_non))
    (pdss_one (pds_if [] (pdt_cmp (opd_ne hu) (pd_callB (cd_repr2 hu hgd) (by rfl) bi_repr boot_repr (pda_cons (pd_callN G_told hr (by decide) hgd (pda_cons (pd_slice (pd_v 0) pdp_none (pdp_some (pd_v 2))) (pda_cons (pd_cmp (opd_eq hu) (pd_op opd_mod (pd_callTy cd_int2 (by rfl) bi_int boot_int (pda_cons (pd_v 2) pda_nil)) pd_int) pd_int (nomark _)) pda_nil))) pda_nil)) (pd_callB (cd_repr2 hu hgd) (by rfl) bi_repr boot_repr (pda_cons (pd_v 3) pda_nil)) (nomark _))
    (pdss_one (pds_ret [] pd_bl))
    pdss_nil))))
    (pdss_one (pds_ret [] pd_bl)))
abbrev s_idle : Stmt := topS 24
abbrev N_idle : List Str := ["_law_purse_here", "_law_pairs_here", "_law_found", "_law_turn", "_law_term"]
theorem sc_idle : FnScope N_idle ["_law_purse_here", "_law_pairs_here"] (defScope s_idle) := ⟨rfl, rfl, rfl, by decide +kernel, rfl, by decide +kernel, by decide +kernel⟩
def m_idle (sp_draw sp_pick : SpD) : MS :=
    (mSeq (mAsgO [] 2 (moLst maNil))
    (mSeq (mForR [] (mRng1 (maCons (mCall sp_draw (maCons (mVar 0) (maCons (mC (.int 4)) maNil))) maNil)) (.nm 3)
    (mSeq (mAsg [] 4 (mCall sp_pick (maCons (mVar 0) (maCons (mCall sp_pick (maCons (mVar 0) (maCons (mVar 1) maNil))) maNil))))
    (mApp [] 2 (mTup (maCons (mVar 4) (maCons (mVar 4) maNil))))))
    (mRet [2] (mCB tupleD (maCons (mVar 2) maNil)))))
theorem ok_idle {P : Program} {w : World} {K : PySem.W.Frag} {mg : Str → Option Value} {base : Heap} {f : Addr} {fd : FuncData} (F : Fun K "_law_idle" "_law_idle" s_idle f fd) (bi_range : mg "range" = none) (bi_tuple : mg "tuple" = none) {sp_draw : SpD} (G_draw : Kn P w K mg base "_law_draw" 1 ["_law_purse_here", "_law_many"] sp_draw) {sp_pick : SpD} (G_pick : Kn P w K mg base "_law_pick" 2 ["_law_purse_here", "_law_some"] sp_pick) : FnD P w K mg base 3 f fd ["_law_purse_here", "_law_pairs_here"] (spOf 2 N_idle.length (m_idle sp_draw sp_pick)) := by
  have nd := sc_idle.nd
  refine fnD_of F sc_idle fun cdv A out s H E hr hgd => ?_
  have hu := hr.units
  exact (pdss_cons (pds_setO [] 2 nd (pdo_lst pda_nil))
    (pdss_cons (pds_forR [] (t := (.nm 3)) PassesOwn.never rfl (pdr_1 (by rfl) bi_range (pda_cons (pd_callN G_draw hr (by decide) hgd (pda_cons (pd_v 0) (pda_cons pd_int pda_nil))) pda_nil)) (pgt_nm 3 nd)
    (pdss_cons (pds_set [] 4 nd (pd_callN G_pick hr (by decide) hgd (pda_cons (pd_v 0) (pda_cons (pd_callN G_pick hr (by decide) hgd (pda_cons (pd_v 0) (pda_cons (pd_v 1) pda_nil))) pda_nil))))
    (pdss_one (pds_app [] (pv 2) (pd_tup (pda_cons (pd_v 4) (pda_cons (pd_v 4) pda_nil)))))))
    (pdss_one (pds_ret [2] (pd_callTy cd_tuple (by rfl) bi_tuple boot_tuple (pda_cons (pd_v 2) pda_nil))))))
abbrev s_is_moved : Stmt := topS 25
abbrev N_is_moved : List Str := ["_law_purse_here", "_law_pairs_here", "_law_due", "_law_about", "_law_twice", "_law_pair", "_law_idle_here", "_law_told_here", "_law_own", "_law_rest", "_law_mixed", "_law_turn", "_law_some", "_law_place_due", "_law_one", "_law_two"]
theorem sc_is_moved : FnScope N_is_moved ["_law_purse_here", "_law_pairs_here", "_law_due"] (defScope s_is_moved) := ⟨rfl, rfl, rfl, by decide +kernel, rfl, by decide +kernel, by decide +kernel⟩
def m_is_moved (sp_idle sp_told sp_draw sp_place : SpD) : MS :=
    (mSeq (mPar2 [] 3 4 (maCons (mCB tupleD (maCons (mLstO (moLc [14, 15] (mSeqI (mVar 1)) (.tp [14, 15]) mYes (mTup (maCons (mVar 15) (maCons (mVar 14) maNil))))) maNil)) (maCons (mLst maNil) maNil)))
    (mSeq (mFor [] (mSeqI (mVar 1)) (.nm 5)
    (mAsg [] 4 (mOp addD (mVar 4) (mLst (maCons (mVar 5) (maCons (mVar 5) maNil))))))
    (mSeq (mAsg [] 6 (mCall sp_idle (maCons (mVar 0) (maCons (mVar 1) maNil))))
    (mSeq (mAsg [] 7 (mLst (maCons (mCall sp_told (maCons (mVar 1) (maCons (mC (.bl true)) maNil))) (maCons (mCall sp_told (maCons (mVar 3) (maCons (mC (.bl false)) maNil))) (maCons (mCall sp_told (maCons (mCB tupleD (maCons (mVar 4) maNil)) (maCons (mC (.bl false)) maNil))) maNil)))))
    (mSeq (mAsg [] 7 (mOp addD (mVar 7) (mLst (maCons (mCall sp_told (maCons (mOp addD (mVar 6) (mVar 1)) (maCons (mC (.bl false)) maNil))) (maCons (mCall sp_told (maCons (mOp addD (mVar 1) (mTup (maCons (mTup (maCons (mC (.int 3)) (maCons (mC (.int 4)) maNil))) maNil))) (maCons (mC (.bl false)) maNil))) (maCons (mCall sp_told (maCons (mOp addD (mVar 1) (mVar 3)) (maCons (mC (.bl true)) maNil))) maNil))))))
    (mSeq (mAsg [] 8 (mLst (maCons (mVar 2) (maCons (mVar 2) (maCons (mIf (tBl (mOp (isU false) (mVar 2) (mC .non))) (mC .non) (mOp mulD (mC (.int 2)) (mVar 2))) (maCons (mIf (tBl (mOp (isU false) (mVar 2) (mC .non))) (mC .non) (mOp addD (mVar 2) (mCB len3D (maCons (mVar 6) maNil)))) maNil))))))
    (mSeq (mAsg [] 8 (mOp addD (mVar 8) (mLst (maCons (mIf (tBl (mOp (isU false) (mVar 2) (mC .non))) (mCB len3D (maCons (mVar 1) maNil)) (mVar 2)) (maCons (mVar 2) maNil)))))
    (mSeq (mIfS [] (tBl (mOp neD (mCB repr2D (maCons (mVar 7) maNil)) (mCB repr2D (maCons (mVar 8) maNil))))
    (mRet [] (mC (.bl false)))
    mNext)
    (mSeq (mPar2OO [] 9 10 (moList (mVar 1)) (moLst maNil))
    (mSeq (mForR [] (mRng1 (maCons (mCB len3D (maCons (mVar 1) maNil)) maNil)) (.nm 11)
    (mAppPop [9] 10 9 (mCall sp_draw (maCons (mVar 0) (maCons (mCB len3D (maCons (mVar 9) maNil)) maNil)))))
    (mSeq (mFor [10] (mSeqI (mLst (maCons (mCB tupleD (maCons (mVar 10) maNil)) (maCons (mBack (mVar 1)) maNil)))) (.nm 12)
    (mSeq (mAsg [] 13 (mCall sp_place (maCons (mVar 12) maNil)))
    (mIfS [] (mOrT (tBl (mOp neD (mOp (isU false) (mVar 13) (mC .non)) (mOp (isU false) (mVar 2) (mC .non)))) (tBl (mOp neD (mCB repr2D (maCons (mCall sp_told (maCons (mVar 12) (maCons (mC (.bl false)) maNil))) maNil)) (mCB repr2D (maCons (mVar 13) maNil)))))
    (mRet [] (mC (.bl false)))
    mNext)))
    (mRet [] (mC (.bl true))))))))))))))
theorem ok_is_moved {P : Program} {w : World} {K : PySem.W.Frag} {mg : Str → Option Value} {base : Heap} {f : Addr} {fd : FuncData} (F : Fun K "_law_is_moved" "_law_is_moved" s_is_moved f fd) (bi_tuple : mg "tuple" = none) (bi_len : mg "len" = none) (bi_repr : mg "repr" = none) (bi_list : mg "list" = none) (bi_range : mg "range" = none) {sp_idle : SpD} (G_idle : Kn P w K mg base "_law_idle" 3 ["_law_purse_here", "_law_pairs_here"] sp_idle) {sp_told : SpD} (G_told : Kn P w K mg base "_law_told" 4 ["_law_pairs_here", "_law_is_named"] sp_told) {sp_draw : SpD} (G_draw : Kn P w K mg base "_law_draw" 1 ["_law_purse_here", "_law_many"] sp_draw) {sp_place : SpD} (G_place : Kn P w K mg base "_law_place" 1 ["_law_pairs_here"] sp_place) : FnD P w K mg base 5 f fd ["_law_purse_here", "_law_pairs_here", "_law_due"] (spOf 3 N_is_moved.length (m_is_moved sp_idle sp_told sp_draw sp_place)) := by
  have nd := sc_is_moved.nd
  refine fnD_of F sc_is_moved fun cdv A out s H E hr hgd => ?_
  have hu := hr.units
  exact (pdss_cons (pds_p2 [] 3 4 rfl nd (pda_cons (pd_callTy cd_tuple (by rfl) bi_tuple boot_tuple (pda_cons (pd_ofO (pdo_lcN (own := [("_law_one", 14), ("_law_two", 15)]) (t := (.tp [14, 15])) (mt := mYes) (me := (mTup (maCons (mVar 15) (maCons (mVar 14) maNil)))) rfl nd (pdi_seq (pd_v 1)) (blkOk_by (N := N_is_moved) (sc := defScope s_is_moved) (by decide +kernel)) (by decide) (fun _ _ _ _ _ => (pgt_tp rfl (pgs_nm 14 nd (pgs_nm 15 nd pgs_end)))) (fun _ _ _ _ _ => pdts_nil) (fun _ _ _ _ _ => (pd_tup (pda_cons (pd_v 15) (pda_cons (pd_v 14) pda_nil)))))) pda_nil)) (pda_cons (pd_lst pda_nil) pda_nil)))
    (pdss_cons (pds_for [] (t := (.nm 5)) PassesOwn.never rfl (pdi_seq (pd_v 1)) (pgt_nm 5 nd)
    (pdss_one (pds_set [] 4 nd (pd_op opd_add (pd_v 4) (pd_lst (pda_cons (pd_v 5) (pda_cons (pd_v 5) pda_nil)))))))
    (pdss_cons (pds_set [] 6 nd (pd_callN G_idle hr (by decide) hgd (pda_cons (pd_v 0) (pda_cons (pd_v 1) pda_nil))))
    (pdss_cons (pds_set [] 7 nd (pd_lst (pda_cons (pd_callN G_told hr (by decide) hgd (pda_cons (pd_v 1) (pda_cons pd_bl pda_nil))) (pda_cons (pd_callN G_told hr (by decide) hgd (pda_cons (pd_v 3) (pda_cons pd_bl pda_nil))) (pda_cons (pd_callN G_told hr (by decide) hgd (pda_cons (pd_callTy cd_tuple (by rfl) bi_tuple boot_tuple (pda_cons (pd_v 4) pda_nil)) (pda_cons pd_bl pda_nil))) pda_nil)))))
    (pdss_cons (pds_set [] 7 nd (pd_op opd_add (pd_v 7) (pd_lst (pda_cons (pd_callN G_told hr (by decide) hgd (pda_cons (pd_op opd_add (pd_v 6) (pd_v 1)) (pda_cons pd_bl pda_nil))) (pda_cons (pd_callN G_told hr (by decide) hgd (pda_cons (pd_op opd_add (pd_v 1) (pd_tup (pda_cons (pd_tup (pda_cons pd_int (pda_cons pd_int pda_nil))) pda_nil))) (pda_cons pd_bl pda_nil))) (pda_cons (pd_callN G_told hr (by decide) hgd (pda_cons (pd_op opd_add (pd_v 1) (pd_v 3)) (pda_cons pd_bl pda_nil))) pda_nil))))))
    (pdss_cons (pds_set [] 8 nd (pd_lst (pda_cons (pd_v 2) (pda_cons (pd_v 2) (pda_cons (pd_ifExp (pdt_cmp opd_isU (pd_v 2) pd_non (nomark _)) pd_non (pd_op opd_mul pd_int (pd_v 2))) (pda_cons (pd_ifExp (pdt_cmp opd_isU (pd_v 2) pd_non (nomark _)) pd_non (pd_op opd_add (pd_v 2) (pd_callB cd_len3 (by rfl) bi_len boot_len (pda_cons (pd_v 6) pda_nil)))) pda_nil))))))
    (pdss_cons (pds_set [] 8 nd (pd_op opd_add (pd_v 8) (pd_lst (pda_cons (pd_ifExp (pdt_cmp opd_isU (pd_v 2) pd_non (nomark _)) (pd_callB cd_len3 (by rfl) bi_len boot_len (pda_cons (pd_v 1) pda_nil)) (pd_v 2)) (pda_cons (pd_v 2) pda_nil)))))
    (pdss_cons (pds_if [] (pdt_cmp (opd_ne hu) (pd_callB (cd_repr2 hu hgd) (by rfl) bi_repr boot_repr (pda_cons (pd_v 7) pda_nil)) (pd_callB (cd_repr2 hu hgd) (by rfl) bi_repr boot_repr (pda_cons (pd_v 8) pda_nil)) (nomark _))
    (pdss_one (pds_ret [] pd_bl))
    pdss_nil)
    (pdss_cons (pds_p2OO [] 9 10 rfl nd (pdo_list (pd_v 1) bi_list) (pdo_lst pda_nil))
    (pdss_cons (pds_forR [] (t := (.nm 11)) PassesOwn.never rfl (pdr_1 (by rfl) bi_range (pda_cons (pd_callB cd_len3 (by rfl) bi_len boot_len (pda_cons (pd_v 1) pda_nil)) pda_nil)) (pgt_nm 11 nd)
    (pdss_one (pds_appPop [9] (pv 10) (pv 9) (pd_callN G_draw hr (by decide) hgd (pda_cons (pd_v 0) (pda_cons (pd_callB cd_len3 (by rfl) bi_len boot_len (pda_cons (pd_v 9) pda_nil)) pda_nil))))))
    (pdss_cons (pds_for [10] (t := (.nm 12)) PassesOwn.never rfl (pdi_seq (pd_lst (pda_cons (pd_callTy cd_tuple (by rfl) bi_tuple boot_tuple (pda_cons (pd_v 10) pda_nil)) (pda_cons (pd_back (pd_v 1)) pda_nil)))) (pgt_nm 12 nd)
    (pdss_cons (pds_set [] 13 nd (pd_callN G_place hr (by decide) hgd (pda_cons (pd_v 12) pda_nil)))
    (pdss_one (pds_if [] (PDW.pdt (pdw_or (pdt_cmp (opd_ne hu) (pd_cmp opd_isU (pd_v 13) pd_non (nomark _)) (pd_cmp opd_isU (pd_v 2) pd_non (nomark _)) (nomark _)) (pdw_or1 (pdt_cmp (opd_ne hu) (pd_callB (cd_repr2 hu hgd) (by rfl) bi_repr boot_repr (pda_cons (pd_callN G_told hr (by decide) hgd (pda_cons (pd_v 12) (pda_cons pd_bl pda_nil))) pda_nil)) (pd_callB (cd_repr2 hu hgd) (by rfl) bi_repr boot_repr (pda_cons (pd_v 13) pda_nil)) (nomark _)))))
    (pdss_one (pds_ret [] pd_bl))
    pdss_nil))))
    (pdss_one (pds_ret [] pd_bl)))))))))))))
abbrev s_law : Stmt := topS 26
abbrev N_law : List Str := ["_law_script", "_law_purse_here", "_law_turn", "_law_names", "_law_stock", "_law_pairs_here", "_law_due", "_law_told_here"]
theorem sc_law : FnScope N_law ["_law_script"] (defScope s_law) := ⟨rfl, rfl, rfl, by decide +kernel, rfl, by decide +kernel, by decide +kernel⟩
/- law: what stands behind the first statement -/
def m_law (sp_terms sp_pairs sp_place sp_are_beginnings_told sp_is_moved sp_told : SpD) : MS :=
    (mSeq (mForR [] (mRng1 (maCons (mC (.int 5)) maNil)) (.nm 2)
    (mSeq (mAsgTL [] [3, 4] (mCall sp_terms (maCons (mVar 1) maNil)))
    (mSeq (mAsg [] 5 (mCall sp_pairs (maCons (mVar 1) (maCons (mVar 3) (maCons (mVar 4) maNil)))))
    (mSeq (mAsg [] 6 (mCall sp_place (maCons (mVar 5) maNil)))
    (mIfS [] (mOrT (mNotT (tBl (mCall sp_are_beginnings_told (maCons (mVar 5) (maCons (mVar 6) maNil))))) (mNotT (tBl (mCall sp_is_moved (maCons (mVar 1) (maCons (mVar 5) (maCons (mVar 6) maNil)))))))
    (mRet [] (mC (.bl false)))
    mNext)))))
    (mSeq (mAsg [] 7 (mLst (maCons (mCall sp_told (maCons (mTup (maCons (mTup (maCons (mC (.str (Str.ofString "?a"))) (maCons (mC (.int 3)) maNil))) (maCons (mTup (maCons (mC (.str (Str.ofString "?b"))) (maCons (mC (.int 4)) maNil))) (maCons (mTup (maCons (mC (.str (Str.ofString "?c"))) (maCons (mC (.str (Str.ofString "?a"))) maNil))) (maCons (mTup (maCons (mC (.str (Str.ofString "?b"))) (maCons (mC (.str (Str.ofString "?c"))) maNil))) (maCons (mTup (maCons (mC (.str (Str.ofString "bo"))) (maCons (mC (.int 1)) maNil))) maNil)))))) (maCons (mC (.bl false)) maNil))) (maCons (mCall sp_told (maCons (mTup maNil) (maCons (mC (.bl false)) maNil))) maNil))))
    (mSeq (mAsg [] 7 (mOp addD (mVar 7) (mLst (maCons (mCall sp_told (maCons (mTup (maCons (mTup (maCons (mC (.int 3)) (maCons (mC (.int 3)) maNil))) (maCons (mTup (maCons (mC (.int 3)) (maCons (mC (.str (Str.ofString "bo"))) maNil))) maNil))) (maCons (mC (.bl false)) maNil))) (maCons (mCall sp_told (maCons (mTup (maCons (mTup (maCons (mC (.str (Str.ofString "?a"))) (maCons (mC (.str (Str.ofString "?b"))) maNil))) (maCons (mTup (maCons (mC (.str (Str.ofString "?b"))) (maCons (mC (.int 1)) maNil))) (maCons (mTup (maCons (mC (.int 2)) (maCons (mC (.str (Str.ofString "?a"))) maNil))) maNil)))) (maCons (mC (.bl true)) maNil))) maNil)))))
    (mRet [] (mOp eqD (mCB repr2D (maCons (mVar 7) maNil)) (mCB repr2D (maCons (mLst (maCons (mC (.int 3)) (maCons (mC .non) (maCons (mC (.int 1)) (maCons (mC (.int 2)) maNil))))) maNil)))))))
theorem rd_law {P : Program} {w : World} {K : PySem.W.Frag} {mg : Str → Option Value} {base : Heap} {f : Addr} {cdv : Value} {A : Around} {out : List PySem.Env} {s : Shared} {H : Hp} {E : XK} (nd : N_law.Nodup) (hr : Room 5 (A.deeper (envOfC "law" (defScope s_law) s.heap.objs.size f cdv))) (hgd : A.guards = some []) (bi_range : mg "range" = none) (bi_repr : mg "repr" = none) {sp_terms : SpD} (G_terms : Kn P w K mg base "_law_terms" 3 ["_law_purse_here"] sp_terms) {sp_pairs : SpD} (G_pairs : Kn P w K mg base "_law_pairs" 3 ["_law_purse_here", "_law_names", "_law_stock"] sp_pairs) {sp_place : SpD} (G_place : Kn P w K mg base "_law_place" 1 ["_law_pairs_here"] sp_place) {sp_are_beginnings_told : SpD} (G_are_beginnings_told : Kn P w K mg base "_law_are_beginnings_told" 5 ["_law_pairs_here", "_law_due"] sp_are_beginnings_told) {sp_is_moved : SpD} (G_is_moved : Kn P w K mg base "_law_is_moved" 5 ["_law_purse_here", "_law_pairs_here", "_law_due"] sp_is_moved) {sp_told : SpD} (G_told : Kn P w K mg base "_law_told" 4 ["_law_pairs_here", "_law_is_named"] sp_told) : PDSs (cxOf CX0 P w K mg base N_law "law" (defScope s_law) f cdv A out s H E).nox ((defBody s_law).drop 1) (m_law sp_terms sp_pairs sp_place sp_are_beginnings_told sp_is_moved sp_told) := by
  have hu := hr.units
  exact (pdss_cons (pds_forR [] (t := (.nm 2)) PassesOwn.never rfl (pdr_1 (by rfl) bi_range (pda_cons pd_int pda_nil)) (pgt_nm 2 nd)
    (pdss_cons (pds_asgTL [] (is := [3, 4]) rfl (pd_callN G_terms hr (by decide) hgd (pda_cons (pd_v 1) pda_nil)) (pgs_nm 3 nd (pgs_nm 4 nd pgs_end)))
    (pdss_cons (pds_set [] 5 nd (pd_callN G_pairs hr (by decide) hgd (pda_cons (pd_v 1) (pda_cons (pd_v 3) (pda_cons (pd_v 4) pda_nil)))))
    (pdss_cons (pds_set [] 6 nd (pd_callN G_place hr (by decide) hgd (pda_cons (pd_v 5) pda_nil)))
    (pdss_one (pds_if [] (PDW.pdt (pdw_or (pdt_not (pdt_val (pd_callN G_are_beginnings_told hr (by decide) hgd (pda_cons (pd_v 5) (pda_cons (pd_v 6) pda_nil))))) (pdw_or1 (pdt_not (pdt_val (pd_callN G_is_moved hr (by decide) hgd (pda_cons (pd_v 1) (pda_cons (pd_v 5) (pda_cons (pd_v 6) pda_nil)))))))))
    (pdss_one (pds_ret [] pd_bl))
    pdss_nil))))))
    (pdss_cons (pds_set [] 7 nd (pd_lst (pda_cons (pd_callN G_told hr (by decide) hgd (pda_cons (pd_tup (pda_cons (pd_tup (pda_cons pd_str (pda_cons pd_int pda_nil))) (pda_cons (pd_tup (pda_cons pd_str (pda_cons pd_int pda_nil))) (pda_cons (pd_tup (pda_cons pd_str (pda_cons pd_str pda_nil))) (pda_cons (pd_tup (pda_cons pd_str (pda_cons pd_str pda_nil))) (pda_cons (pd_tup (pda_cons pd_str (pda_cons pd_int pda_nil))) pda_nil)))))) (pda_cons pd_bl pda_nil))) (pda_cons (pd_callN G_told hr (by decide) hgd (pda_cons (pd_tup pda_nil) (pda_cons pd_bl pda_nil))) pda_nil))))
    (pdss_cons (pds_set [] 7 nd (pd_op opd_add (pd_v 7) (pd_lst (pda_cons (pd_callN G_told hr (by decide) hgd (pda_cons (pd_tup (pda_cons (pd_tup (pda_cons pd_int (pda_cons pd_int pda_nil))) (pda_cons (pd_tup (pda_cons pd_int (pda_cons pd_str pda_nil))) pda_nil))) (pda_cons pd_bl pda_nil))) (pda_cons (pd_callN G_told hr (by decide) hgd (pda_cons (pd_tup (pda_cons (pd_tup (pda_cons pd_str (pda_cons pd_str pda_nil))) (pda_cons (pd_tup (pda_cons pd_str (pda_cons pd_int pda_nil))) (pda_cons (pd_tup (pda_cons pd_int (pda_cons pd_str pda_nil))) pda_nil)))) (pda_cons pd_bl pda_nil))) pda_nil)))))
    (pdss_one (pds_ret [] (pd_cmp (opd_eq hu) (pd_callB (cd_repr2 hu hgd) (by rfl) bi_repr boot_repr (pda_cons (pd_v 7) pda_nil)) (pd_callB (cd_repr2 hu hgd) (by rfl) bi_repr boot_repr (pda_cons (pd_lst (pda_cons pd_int (pda_cons pd_non (pda_cons pd_int (pda_cons pd_int pda_nil))))) pda_nil)) (nomark _)))))))
end K07

/-! is_free, leader_of, made_alike by hand. -/
namespace K07
open PySem PySem.Spec PyProof.Rows L2 Evl BV
theorem sc_leader_of : FnScope N_leader_of ["leaders", "term"] (defScope s_leader_of) := ⟨rfl, rfl, rfl, by decide +kernel, rfl, by decide +kernel, by decide +kernel⟩
section
variable {P : Program} {w : World} {K : PySem.W.Frag} {mg : Str → Option Value} {base : Heap}
theorem ok_leader_of {f : Addr} {fd : FuncData} (F : Fun K "leader_of" "leader_of" s_leader_of f fd) : FnG P w K mg base CX0 1 f fd ["leaders", "term"] spLead := by
  have nd := sc_leader_of.nd
  refine fnG_of F sc_leader_of (fun vs H Q E ⟨a, kvs, t, rep, rk, e, _⟩ => by rw [e]; rfl) fun cdv A out s H vs Q E hr gd ⟨a, kvs, t, rep, rk, e, hd, hl, U, k⟩ => ?_
  subst e
  have hu : (A.deeper (envOfC "leader_of" (defScope s_leader_of) s.heap.objs.size f cdv)).units + 1 < cLine := by have := hr.units; omega
  refine ⟨_, (pss_cons (ps_set (i := 2) nd rfl (.inl rfl) (pv 1))
    (pss_cons (ps_while PassesOwn.never (pt_cmp (pc_din hu (pv 2) (pv 0))) (pss_one (ps_set (i := 2) nd rfl (.inl rfl) (pe_dget hu (pv 0) (pv 2) (fun _ _ => rfl)))))
    (pss_cons (ps_while PassesOwn.never (pt_cmpR op_ne (pv 1) (pv 2) (nomark _)) (pss_cons (ps_set (i := 3) nd rfl (.inl rfl) (pe_dget hu (pv 0) (pv 1) (fun _ _ => rfl)))
      (pss_cons (ps_dput hu (pv 0) (pv 1) (pv 2) rfl) (pss_one (ps_set (i := 1) nd rfl (.inl rfl) (pv 3))))))
    (pss_one (ps_ret (pv 2))))) : PSs _ (defBody s_leader_of) _).nox, ?_⟩
  refine ⟨_, rfl, ?_⟩
  refine while_by (fun σ H' => H' = H ∧ ∃ u, σ = [some (.ref a), some (kV t), some (kV u), none] ∧ rep u = rep t) (fun σ _ => match σ with | [_, _, some v, _] => rk (kOf v) | _ => 0) ⟨rfl, t, rfl, rfl⟩ ?_ (fun σ H Q Q' i ⟨y, h1, x, h2, a, o, e, g, c, e2, q⟩ => ⟨y, h1, x, h2, a, o, e, g, c, e2, i _ _ q⟩)
  rintro σ H' ⟨eH, u, rfl, hu1⟩
  rw [eH]
  clear eH
  refine ⟨_, rfl, _, rfl, a, _, rfl, DGet.k hd, _, rfl, ?_⟩
  cases e : valV kvs u with
  | some v =>
    obtain ⟨u', e1, e2, e3⟩ := U.up u v e
    refine ⟨_, rfl, _, rfl, a, v, rfl, by rw [← e]; exact DGet.k hd, ⟨⟨rfl, u', by rw [e1]; rfl, e2.trans hu1⟩, ?_⟩⟩
    show rk (kOf v) < rk (kOf (kV u))
    rw [e1, kOf_kV, kOf_kV]
    exact e3
  | none =>
    have hru : u = rep t := by rw [← hu1]; exact (U.top u e).symm
    subst hru
    refine while_by (fun σ H' => ∃ kvs' u v, H' = upd H a (.dK kvs') ∧ UF kvs' rep rk ∧ kvs'.length = kvs.length ∧ σ = [some (.ref a), some (kV u), some (kV (rep t)), v] ∧ rep u = rep t) (fun σ _ => match σ with | [_, some v, _, _] => rk (kOf v) | _ => 0) ⟨kvs, t, none, (upd_self hd).symm, U, rfl, rfl, rfl⟩ ?_ (fun σ H Q Q' i ⟨y, h1, x, h2, hs, c, e2, q⟩ => ⟨y, h1, x, h2, hs, c, e2, i _ _ q⟩)
    rintro σ H' ⟨kvs', u, v, rfl, U', hl', rfl, hu'⟩
    refine ⟨_, rfl, _, rfl, scal_k _ _, _, rfl, ?_⟩
    rw [dec_k]
    by_cases c : u = rep t
    · rw [decide_eq_true c]
      exact ⟨_, rfl, k kvs' U' hl'⟩
    · rw [decide_eq_false c]
      have hne : rep u ≠ u := fun z => c (by rw [← hu', z])
      obtain ⟨w', hw⟩ := U'.some hne
      obtain ⟨u', e1, e2, e3⟩ := U'.up u w' hw
      have hd' : (upd H a (.dK kvs')) a = some (.dK kvs') := upd_same
      refine ⟨_, rfl, _, rfl, a, w', rfl, by rw [← hw]; exact DGet.k hd', ?_⟩
      refine ⟨_, rfl, _, rfl, _, rfl, a, _, rfl, DPut.k hd' (by rw [sizeLine_eq, hl']; omega), ?_⟩
      refine ⟨_, rfl, ⟨putK kvs' u (kV (rep t)), u', some w', by rw [upd_upd], by rw [← hu']; exact U'.press hne, by rw [put_len hw, hl'], by rw [e1]; rfl, e2.trans hu'⟩, ?_⟩
      show rk (kOf w') < rk (kOf (kV u))
      rw [e1, kOf_kV, kOf_kV]
      exact e3
theorem sc_made_alike : FnScope N_made_alike ["leaders", "one", "other"] (defScope s_made_alike) := ⟨rfl, rfl, rfl, by decide +kernel, rfl, by decide +kernel, by decide +kernel⟩
theorem ok_freeH {f : Addr} {fd : FuncData} (F : Fun K "is_free" "is_free" s_is_free f fd) (mi : mg "isinstance" = none) (ms : mg "str" = none) : FnG P w K mg base CX0 1 f fd ["term"] spFree := by
  have nd := sc_is_free.nd
  refine fnG_of F sc_is_free (fun vs H Q E ⟨t, e, _⟩ => by rw [e]; rfl) fun cdv A out s H vs Q E hr gd ⟨t, e, hl, k⟩ => ?_
  subst e
  refine ⟨_, (pss_one (ps_ret (pe_and (pe_callB call_isi (by rfl) mi boot_isinstance (pa_cons (pv 0) (pa_cons (pe_bltn (v := .ty "str") (by rfl) ms boot_str rfl) pa_nil)))
    (pe_one (pe_cmpR op_eq (pe_slice sl_str (pv 0) po_none (po_some pe_int)) pe_str (nomark _))))) : PSs _ (defBody s_is_free) _).nox, ?_⟩
  cases t with
  | inl i => exact ⟨_, rfl, _, .ty "str", .type "int", .type "str", false, rfl, .ty "str", .base (.int i), kit_ty (by decide +kernel), false, rfl, k⟩
  | inr z =>
    refine ⟨_, rfl, _, .ty "str", .type "str", .type "str", true, rfl, .ty "str", .base (.str z), kit_ty (by decide +kernel), true, rfl, ?_⟩
    refine ⟨_, rfl, 1, rfl, z, rfl, by rw [sizeLine_eq]; have := hl z rfl; omega, rfl, ?_⟩
    have e : decide (V.str (cutS z none (some 1)) = V.str (Str.ofString "?")) = frK (.inr z) := by
      have e1 : (cutS z none (some 1)).cps.toList = z.cps.toList.take 1 := by
        unfold cutS
        have h0 : HT.sIx z.length 0 none = 0 := rfl
        have h1 : HT.sIx z.length z.length (some 1) = min 1 z.length := by
          show (if (1 : Int) < 0 then ((1 : Int) + (z.length : Int)).toNat else min (1 : Int).toNat z.length) = _
          rw [if_neg (by decide)]
          rfl
        rw [h0, h1, List.drop_zero]
        show z.cps.toList.take (min 1 z.length - 0) = _
        have hz : z.length = z.cps.toList.length := cps_len z
        rw [Nat.sub_zero, hz]
        by_cases h : 1 ≤ z.cps.toList.length
        · rw [Nat.min_eq_left h]
        · rw [Nat.min_eq_right (by omega), List.take_of_length_le (Nat.le_refl _), List.take_of_length_le (by omega)]
      show _ = frS z
      unfold frS
      refine decide_eq_decide.mpr ⟨fun q => ?_, fun q => ?_⟩
      · rw [← e1, V.str.inj q]
        decide +kernel
      · congr 1
        refine str_ext ?_
        rw [e1, q]
        decide +kernel
    rw [e]
    exact k
theorem ok_made_alike {f : Addr} {fd : FuncData} (F : Fun K "made_alike" "made_alike" s_made_alike f fd) (GL : KG P w K mg base CX0 "leader_of" 1 ["leaders", "term"] spLead) (GF : KG P w K mg base CX0 "is_free" 1 ["term"] spFree) : FnG P w K mg base CX0 2 f fd ["leaders", "one", "other"] spMade := by
  have nd := sc_made_alike.nd
  refine fnG_of F sc_made_alike (fun vs H Q E ⟨a, kvs, x, y, rep, rk, e, _⟩ => by rw [e]; rfl) fun cdv A out s H vs Q E hr gd ⟨a, kvs, x, y, rep, rk, e, hd, hl, U, sx, sy, kF, kT⟩ => ?_
  subst e
  have hu : (A.deeper (envOfC "made_alike" (defScope s_made_alike) s.heap.objs.size f cdv)).units + 1 < cLine := by have := hr.units; omega
  have le : 1 ≤ 1 := Nat.le_refl 1
  refine ⟨_, (pss_cons (ps_par (i := 3) (j := 4) rfl nd rfl rfl (by decide) rfl rfl (pa_cons (pe_callH GL hr le gd (pa_cons (pv 0) (pa_cons (pv 1) pa_nil))) (pa_cons (pe_callH GL hr le gd (pa_cons (pv 0) (pa_cons (pv 2) pa_nil))) pa_nil)) rfl)
    (pss_cons (ps_if (pt_cmpR op_eq (pv 3) (pv 4) (nomark _)) (pss_one (ps_ret pe_bl)) pss_nil)
    (pss_cons (ps_if (PW.pt (pw_and (pt_not (pt_val (pe_callH GF hr le gd (pa_cons (pv 3) pa_nil)))) (pw_and1 (pt_not (pt_val (pe_callH GF hr le gd (pa_cons (pv 4) pa_nil))))))) (pss_one (ps_ret pe_bl)) pss_nil)
    (pss_cons (ps_if (PW.pt (pw_and (pt_val (pe_callH GF hr le gd (pa_cons (pv 3) pa_nil))) (pw_and1 (PW.pt (pw_or (pt_not (pt_val (pe_callH GF hr le gd (pa_cons (pv 4) pa_nil)))) (pw_or1 (pt_cmpR op_lt_str (pv 4) (pv 3) (nomark _))))))))
      (pss_one (ps_par (i := 3) (j := 4) rfl nd rfl rfl (by decide) rfl rfl (pa_cons (pv 4) (pa_cons (pv 3) pa_nil)) rfl)) pss_nil)
    (pss_cons (ps_dput hu (pv 0) (pv 4) (pv 3) rfl)
    (pss_one (ps_ret pe_bl)))))) : PSs _ (defBody s_made_alike) _).nox, ?_⟩
  refine ⟨_, rfl, _, rfl, a, kvs, x, rep, rk, rfl, hd, by omega, U, fun kvs1 U1 hl1 => ?_⟩
  refine ⟨_, rfl, _, rfl, a, kvs1, y, rep, rk, rfl, upd_same, by omega, U1, fun kvs2 U2 hl2 => ⟨_, _, rfl, ?_⟩⟩
  rw [L2.upd_upd]
  have hd2 : (upd H a (.dK kvs2)) a = some (.dK kvs2) := upd_same
  refine ⟨_, rfl, _, rfl, scal_k _ _, _, rfl, ?_⟩
  rw [dec_k]
  by_cases c : rep x = rep y
  · rw [decide_eq_true c]
    exact kT rep (by unfold mrg; rw [if_pos c]) kvs2 rk U2 (by omega)
  rw [decide_eq_false c]
  refine ⟨_, rfl, rep x, rfl, sx, _, rfl, ?_⟩
  have end1 : ∀ (p q : Ky) (r : Ky → Ky), mrg rep x y = some r → (∃ rk', UF (putK kvs2 q (kV p)) r rk') → sDPut (tVar 0) (tVar 4) (tVar 3) { nx := fun σ H => tRet (tC (.bl true)) { nx := fun _ H' => Q .non H', rt := Q } σ H, rt := Q } [some (.ref a), some (kV x), some (kV y), some (kV p), some (kV q)] (upd H a (.dK kvs2)) := fun p q r hm ⟨rk', U'⟩ => by
    refine ⟨_, rfl, _, rfl, _, rfl, a, _, rfl, DPut.k hd2 (by rw [sizeLine_eq]; omega), ?_⟩
    rw [L2.upd_upd]
    exact kT r hm _ rk' U' (by have := length_putK kvs2 q (kV p); omega)
  cases fx : frK (rep x) with
  | false =>
    refine ⟨_, rfl, rep y, rfl, sy, _, rfl, ?_⟩
    cases fy : frK (rep y) with
    | false =>
      exact kF (by unfold mrg; rw [if_neg c, if_pos ⟨fx, fy⟩]) kvs2
    | true =>
      refine ⟨_, rfl, rep x, rfl, sx, _, rfl, ?_⟩
      rw [fx]
      exact end1 _ _ _ (by unfold mrg; rw [if_neg c, if_neg (fun z => by rw [fy] at z; exact nomatch z.2), if_neg (by unfold swK; rw [fx, Bool.false_and]; decide)]) (U2.join c)
  | true =>
    refine ⟨_, rfl, rep x, rfl, sx, _, rfl, ?_⟩
    rw [fx]
    refine ⟨_, rfl, rep y, rfl, sy, _, rfl, ?_⟩
    have hn : ¬ (frK (rep x) = false ∧ frK (rep y) = false) := fun z => by rw [fx] at z; exact nomatch z.1
    cases fy : frK (rep y) with
    | false =>
      refine ⟨_, rfl, _, rfl, _, _, rfl, ?_⟩
      exact end1 _ _ _ (by unfold mrg; rw [if_neg c, if_neg hn, if_pos (by unfold swK; rw [fx, fy]; rfl)]) (U2.join fun z => c z.symm)
    | true =>
      obtain ⟨sx', ex⟩ : ∃ s, rep x = .inr s := by
        cases e : rep x with
        | inl i => rw [e] at fx; cases fx
        | inr s => exact ⟨s, rfl⟩
      obtain ⟨sy', ey⟩ : ∃ s, rep y = .inr s := by
        cases e : rep y with
        | inl i => rw [e] at fy; cases fy
        | inr s => exact ⟨s, rfl⟩
      refine ⟨_, rfl, _, rfl, sy', sx', by rw [ey]; rfl, by rw [ex]; rfl, _, rfl, ?_⟩
      have hsw : swK (rep x) (rep y) = decide (sy'.cps.toList < sx'.cps.toList) := by
        unfold swK
        rw [fx, fy, ex, ey]
        rfl
      cases hlt : decide (sy'.cps.toList < sx'.cps.toList) with
      | true =>
        refine ⟨_, rfl, _, rfl, _, _, rfl, ?_⟩
        exact end1 _ _ _ (by unfold mrg; rw [if_neg c, if_neg hn, if_pos (by rw [hsw, hlt])]) (U2.join fun z => c z.symm)
      | false =>
        exact end1 _ _ _ (by unfold mrg; rw [if_neg c, if_neg hn, if_neg (by rw [hsw, hlt]; decide)]) (U2.join c)
end
end K07

/-! NoUnifier's __init__, unified. -/
namespace K07
open PySem PySem.Spec PyProof.Rows L2 Evl BV
def s_init : Stmt := match topS 5 with
  | .ClassDef (body := b) .. => b.getD 0 (.Pass ⟨0, 0, 0, 0⟩)
  | s => s
theorem sc_init : FnScope ["self", "place"] ["self", "place"] (defScope s_init) := ⟨rfl, rfl, rfl, by decide +kernel, rfl, by decide +kernel, by decide +kernel⟩
theorem sc_unified : FnScope N_unified ["equations"] (defScope s_unified) := ⟨rfl, rfl, rfl, by decide +kernel, rfl, by decide +kernel, by decide +kernel⟩
section
variable {P : Program} {w : World} {K : PySem.W.Frag} {mg : Str → Option Value} {base : Heap} {C fI : Addr}
theorem ok_init {fd : FuncData} (F : Fun K "__init__" "NoUnifier.__init__" s_init fI fd) (T : NoU K mg C fI) : FnOk P w K mg base CX0 1 fI fd ["self", "place"] (spInit C) := by
  refine Fun.ok F sc_init (fun vs H Q E ⟨a, v, e, _⟩ => by rw [e]; rfl) fun cdv A out s H vs Q E hr ⟨a, v, e, ha, k⟩ => ⟨_, (pss_one (ps_ost (pv 0) (pv 1)) : PSs _ (defBody s_init) _), ?_⟩
  subst e
  exact ⟨_, rfl, _, rfl, a, C, rfl, T.ox, T.nf, .inl ⟨ha, k⟩⟩
theorem ok_unified {f : Addr} {fd fdI : FuncData} {spV : SpD} (F : Fun K "unified" "unified" s_unified f fd) (be : mg "enumerate" = none) (bt : mg "tuple" = none) (T : NoU K mg C fI) (FI : Fun K "__init__" "NoUnifier.__init__" s_init fI fdI) (bI : Binds K fdI ["self", "place"] [])
    (GL : KG P w K mg base CX0 "leader_of" 1 ["leaders", "term"] spLead) (GM : KG P w K mg base CX0 "made_alike" 2 ["leaders", "one", "other"] spMade) (GV : Kn P w K mg base "variables_of" 2 ["pattern"] spV) : FnG P w K mg base (L2.CX P w) 3 f fd ["equations"] (spUni K C spV) := by
  have nd := sc_unified.nd
  refine fnG_of F sc_unified (fun vs H Q E ⟨v, z, C0, d, es, e, _⟩ => by rw [e]; rfl) fun cdv A out s H vs Q E hr gd ⟨v, z, C0, d, es, e, o, dn, ed, q⟩ => ?_
  subst e
  obtain ⟨R, hR, hi⟩ := cd_tuple (X := cxOf (L2.CX P w) P w K mg base N_unified "unified" (defScope s_unified) f cdv A out s H E)
  have le1 : 1 ≤ 2 := by decide
  have le2 : 2 ≤ 2 := by decide
  refine ⟨_, (pss_cons (ps_set (i := 1) nd rfl (.inr rfl) pe_dnewK)
    (pss_cons (ps_for (passes_of rfl) rfl (pdi_enumS (by rfl) be (pda_cons (pd_v 0) pda_nil)).run (pg_tup rfl (pgs_cons (pg_name (i := 2) nd rfl (.inl rfl)) (pgs_cons (pg_tup rfl (pgs_cons (pg_name (i := 3) nd rfl (.inl rfl)) (pgs_cons (pg_name (i := 4) nd rfl (.inl rfl)) pgs_nil))) pgs_nil)))
      (pss_one (ps_if (pt_not (pt_val (pe_callH GM hr le2 gd (pa_cons (pv 1) (pa_cons (pv 3) (pa_cons (pv 4) pa_nil))))))
        (pss_one (ps_raise rfl (takes_of rfl rfl rfl rfl) (pmk_oex T.ox T.iC T.tI (ok_init FI T) hr bI .nil pass0 (by rfl) T.gC (pa_cons (pv 2) pa_nil)))) pss_nil)))
    (pss_cons (ps_set (i := 5) nd rfl (.inl rfl) (pd_callN GV hr le2 gd (pda_cons (pd_ofO (pdo_lc2 (own := [("pair", 6), ("term", 7)]) (t := .nm 6) (t1 := .nm 7) (vs1 := [7]) (mt1 := mYes) (me := mVar 7) (mi1 := mSeqI (mVar 6)) rfl nd (pdi_seq (pd_v 0)) (blkOk_by (N := N_unified) (sc := defScope s_unified) (by decide +kernel)) (by decide) (by decide) (by decide) (fun _ _ _ _ _ => pgt_nm 6 nd) (fun _ _ _ _ _ => pdi_seq (pd_v 6)) (fun _ _ _ _ _ => pgt_nm 7 nd) (fun _ _ _ _ _ => pdts_nil) (fun _ _ _ _ _ => pd_v 7))) pda_nil)).run)
    (pss_one (ps_ret (pe_callTy hR (by rfl) bt boot_tuple (pa_cons (pe_lc (own := [("variable", 8)]) (g := gName 8) (tt := tYes) rfl nd (pdi_seq (pd_v 5)).run (blkOk_by (N := N_unified) (sc := defScope s_unified) (by decide +kernel)) (fun _ _ _ _ _ => pg_name (i := 8) nd rfl (Or.inl rfl)) (fun _ _ _ _ _ => pts_nil)
      (fun _ _ _ _ _ => pe_tupF (pa_cons (pv 8) (pa_cons (pe_callH GL hr le1 gd (pa_cons (pv 1) (pa_cons (pv 8) pa_nil))) pa_nil)))) pa_nil)))))) : PSs _ (defBody s_unified) _), ?_⟩
  obtain ⟨items, hd, hpair⟩ := ed.ex
  subst hd
  intro a ha
  have t0 : Tr z C0 H C0 (upd H a (.dK [])) := Tr.ext o (Ex.new ha)
  have hap : a ≠ z.p := fun e => o.pur.pn (by rw [← e]; exact ha)
  have hag : a ≠ z.g := fun e => o.pur.gn (by rw [← e]; exact ha)
  have hC0 : C0 a = none := fresh_back o.ex ha
  have env_r : ∀ (C' : Hp) (σ : L2.St), Ex C0 C' → σ.length = 9 → σ[0]? = some (some v) → EnvR K z C' [some (.tup items), none, none, none, none, none, none, none, none] σ := fun C' σ e hl h0 => ⟨by rw [hl]; rfl, fun i d hi => by
    match i, hi with
    | 0, hi => cases hi; exact ⟨v, h0, dn.mono e⟩
    | 1, hi => cases hi
    | 2, hi => cases hi
    | 3, hi => cases hi
    | 4, hi => cases hi
    | 5, hi => cases hi
    | 6, hi => cases hi
    | 7, hi => cases hi
    | 8, hi => cases hi
    | _ + 9, hi => simp at hi⟩
  have hlen : items.length = es.length := Paired.length hpair
  refine ⟨z, C0, [some (.tup items), none, none, none, none, none, none, none, none], t0.ok, env_r C0 _ (Ex.refl _) rfl rfl, .tup items, rfl, .tup items, items, rfl, rfl, fun J Ci Hi ti it => ?_⟩
  obtain ⟨G, Y, wk, hG, hY⟩ := it.ex
  refine for_it wk (fun i σ Hc => ∃ C' rep rk kvs v2 v3 v4, σ = [some v, some (.ref a), v2, v3, v4, none, none, none, none] ∧ Tr z C0 H C' Hc ∧ Ex Ci C' ∧ C' a = none ∧ Hc a = some (.dK kvs) ∧ UF kvs rep rk ∧ kvs.length ≤ i ∧
    (∀ t ∈ termsOf es, rep t ∈ termsOf es) ∧ runU i rep (es.drop i) = runU 0 id es) ⟨Ci, id, _, [], none, none, none, rfl, t0.trans ti, Ex.refl _, (ti.new a (by rw [upd_same]; exact fun q => nomatch q)).trans hC0, ti.keep a _ upd_same hap hag, UF.start, Nat.le_refl _, fun t h => h, rfl⟩
    (fun i σ Hc _ ⟨C', rep, rk, kvs, v2, v3, v4, _, t, e, _⟩ => hG Hc (e.trans t.ok.ex)) ?_ ?_
  · rintro i x σ Hc Hd hi ⟨C', rep, rk, kvs, v2, v3, v4, rfl, t, ex, ca, hda, U, hkl, cl, hrun⟩ y
    obtain ⟨dd, C2, h1, h2, h3⟩ := hY i Hc x Hd hi y C' ex t.ok
    have hil : i < items.length := by
      have : i < (enumL items).length := hi
      unfold enumL at this
      rwa [List.length_mapIdx] at this
    have hie : i < es.length := by omega
    have hdd : dd = .pr [.int (i : Nat), items[i]] := by
      unfold enumL at h1
      rw [List.getElem?_mapIdx, List.getElem?_eq_getElem hil] at h1
      exact (Option.some.inj h1).symm
    subst hdd
    obtain ⟨a1, xs1, e1, sq1, d1⟩ := dn_pr.mp h3
    obtain ⟨w1, w2, e2, d2, d3⟩ := dns2 d1
    have eqi : isEq items[i] es[i] := by
      exact paired_ix hpair hil hie
    obtain ⟨a2, e3, sq2⟩ := eq_dn eqi d3
    rw [dn_int.mp d2, e3] at e2
    subst e2
    have t2 := t.trans h2
    have hda2 : Hd a = some (.dK kvs) := h2.keep a _ hda hap hag
    have ca2 : C2 a = none := (h2.new a (by rw [hda]; exact fun q => nomatch q)).trans ca
    have hmem := mem_terms (List.getElem_mem hie)
    have hrun' := runU_at (List.getElem?_eq_getElem hie) i rep
    refine ⟨a1, _, e1, ex_t h2.ok.ex sq1, rfl, _, _, rfl, _, _, rfl, ⟨a2, _, rfl, ex_t h2.ok.ex sq2, rfl, _, _, rfl, _, _, rfl, rfl, rfl, ?_⟩⟩
    refine ⟨_, rfl, _, rfl, _, rfl, a, kvs, es[i].1, es[i].2, rep, rk, rfl, hda2, by have := ed.len; omega, U, ed.sh _ (cl _ hmem.1), ed.sh _ (cl _ hmem.2), fun hm kvs' => ⟨_, rfl, ?_⟩, fun rep' hm kvs' rk' U' hl' => ⟨_, rfl, ?_⟩⟩
    · rw [hm] at hrun'
      rw [← hrun, hrun'] at q
      refine ⟨_, rfl, (by show 1 ≤ 1000; decide), fun a3 ha3 => ⟨a3, .int (i : Nat), rfl, upd_same, fun dx hdx hne => ⟨rfl, dx, [("place", .int (i : Nat))], upd_same, by rw [upd_ne hne, upd_same], by rw [upd_ne hne] at hdx; exact hdx, ?_⟩⟩⟩
      rw [heap_raised ha3 hne]
      have hdx1 : upd Hd a (.dK kvs') dx = none := by rw [upd_ne hne] at hdx; exact hdx
      have hda' : dx ≠ a := fun z => by rw [z, upd_same] at hdx1; cases hdx1
      have hdx2 : Hd dx = none := by rw [upd_ne hda'] at hdx1; exact hdx1
      have t3 : Tr z C0 H C2 (upd Hd a (.dK kvs')) := Tr.mut o t2 ha ca2
      have hdx0 : H dx = none := t2.free hdx2
      have cdx : C2 dx = none := fresh_back t2.ok.ex hdx2
      exact q dx C2 _ hdx0 (Tr.mut o t3 hdx0 cdx) cdx upd_same
    · rw [hm] at hrun'
      exact ⟨C2, rep', rk', kvs', _, _, _, rfl, Tr.mut o t2 ha ca2, ex.trans h2.cc, ca2, upd_same, U', by omega, mrg_in (S := fun t => t ∈ termsOf es) hm cl hmem.1 hmem.2, by rw [← hrun, hrun']⟩
  · rintro σ Hc ⟨C', rep, rk, kvs, v2, v3, v4, rfl, t, ex, ca, hda, U, hkl, cl, hrun⟩
    have hn : (enumL items).length = es.length := by
      unfold enumL
      rw [List.length_mapIdx, hlen]
    rw [hn, List.drop_of_length_le (Nat.le_refl _)] at hrun
    rw [← hrun] at q
    obtain ⟨T, hT, hxs⟩ := q
    refine ⟨z, C', [some (.tup items), none, none, none, none, none, none, none, none], t.ok, env_r C' _ t.cc rfl rfl, ?_⟩
    refine ⟨.tup items, rfl, items, rfl, lc2_terms (by show 8 < 9; decide) [] hpair (by have := ed.len; simp only [List.length_nil]; omega) ⟨T, by simpa using hT, fun u hu v5 C5 H5 t5 dn5 => ?_⟩⟩
    obtain ⟨xs, rfl, hxl, hq⟩ := hxs u hu
    have t05 := t.trans t5
    have hda5 : H5 a = some (.dK kvs) := t5.keep a _ hda hap hag
    have ca5 : C5 a = none := (t5.new a (by rw [hda]; exact fun q => nomatch q)).trans ca
    have hap5 : H5 a ≠ none := by rw [hda5]; exact fun q => nomatch q
    -- tuple([(variable, leader_of(leaders, variable)) for variable in variables])
    have er5 : EnvR K z C5 [none, none, none, none, none, some (.tup (xs.map D.str)), none, none, none] [some v, some (.ref a), v2, v3, v4, some v5, none, none, none] := ⟨rfl, fun i d hi => by
      match i, hi with
      | 0, hi => cases hi
      | 1, hi => cases hi
      | 2, hi => cases hi
      | 3, hi => cases hi
      | 4, hi => cases hi
      | 5, hi => cases hi; exact ⟨v5, rfl, dn5⟩
      | 6, hi => cases hi
      | 7, hi => cases hi
      | 8, hi => cases hi
      | _ + 9, hi => simp at hi⟩
    refine ⟨z, C5, _, t5.ok, er5, .tup (xs.map D.str), rfl, xs.map D.str, rfl, fun J6 C6 H6 t6 it6 N hN => ?_⟩
    obtain ⟨G6, Y6, wk6, hG6, hY6⟩ := it6.ex
    have t06 := t05.trans t6
    have hN0 : H N = none := t06.free hN
    have hNa : N ≠ a := fun e => by rw [e, t6.keep a _ hda5 hap hag] at hN; cases hN
    have hNp : N ≠ z.p := fun e => o.pur.pn (by rw [← e]; exact hN0)
    have hNg : N ≠ z.g := fun e => o.pur.gn (by rw [← e]; exact hN0)
    have cN6 : C6 N = none := fresh_back t6.ok.ex hN
    refine lc_it wk6 (fun i Hc => ∃ C' acc kvs', Tr z C0 H C' Hc ∧ Ex C6 C' ∧ C' a = none ∧ C' N = none ∧ Hc a = some (.dK kvs') ∧ UF kvs' rep rk ∧ kvs'.length = kvs.length ∧ Hc N = some (.lst acc) ∧ Dns K C' z.p ((xs.take i).map fun s => .tup [.str s, kd (rep (.inr s))]) acc)
      ⟨C6, [], kvs, Tr.mut o t06 hN0 cN6, Ex.refl _, (t6.new a hap5).trans ca5, cN6, by rw [upd_ne (Ne.symm hNa)]; exact t6.keep a _ hda5 hap hag, U, rfl, upd_same, dns_nil.mpr rfl⟩ (fun i Hc _ ⟨C', acc, kvs', t, e, _⟩ => hG6 Hc (e.trans t.ok.ex)) ?_ ?_
    · rintro i x Hc Hd hi ⟨C', acc, kvs', t7, ex7, ca7, cN7, hda7, U7, hl7, hN7, dn7⟩ y
      obtain ⟨dd, C8, h1, h2, h3⟩ := hY6 i Hc x Hd hi y C' ex7 t7.ok
      have hix : i < xs.length := by rwa [List.length_map] at hi
      rw [List.getElem?_map, List.getElem?_eq_getElem hix] at h1
      have hdd : dd = .str xs[i] := (Option.some.inj h1).symm
      subst hdd
      rw [dn_str.mp h3]
      have hdad : Hd a = some (.dK kvs') := h2.keep a _ hda7 hap hag
      have ca8 : C8 a = none := (h2.new a (by rw [hda7]; exact fun q => nomatch q)).trans ca7
      have hNd : Hd N = some (.lst acc) := h2.keep N _ hN7 hNp hNg
      have cN8 : C8 N = none := (h2.new N (by rw [hN7]; exact fun q => nomatch q)).trans cN7
      refine ⟨rfl, ?_⟩
      refine ⟨_, rfl, _, rfl, _, rfl, a, kvs', .inr xs[i], rep, rk, rfl, hdad, by have := ed.len; omega, U7, fun kvs9 U9 hl9 => ⟨by rw [sizeLine_eq]; show 2 ≤ _; decide, fun p ob hob hp => ?_⟩⟩
      have t8 : Tr z C0 H C8 (upd Hd a (.dK kvs9)) := Tr.mut o (t7.trans h2) ha ca8
      have t9 := t8.trans (Tr.put (u := .frz ob (.tup [.str xs[i], kV (rep (.inr xs[i]))])) t8.ok hp)
      have hpN : N ≠ p := fun e => by rw [← e, upd_ne hNa, hNd] at hp; cases hp
      have hpa : a ≠ p := fun e => by rw [← e, upd_same] at hp; cases hp
      have hcp : C8 p = none := fresh_back t8.ok.ex hp
      have hl := dn7.len
      rw [List.length_map, List.length_take] at hl
      refine ⟨acc, by rw [upd_ne hpN, upd_ne hNa]; exact hNd, by rw [sizeLine_eq]; omega, upd C8 p (.frz ob (.tup [.str xs[i], kV (rep (.inr xs[i]))])), acc ++ [.ref p], kvs9, Tr.mut o t9 hN0 (by rw [upd_ne hpN]; exact cN8), (ex7.trans h2.cc).trans (Ex.new hcp), by rw [upd_ne hpa]; exact ca8, by rw [upd_ne hpN]; exact cN8, by rw [upd_ne (Ne.symm hNa), upd_ne hpa]; exact upd_same, U9, by rw [hl9, hl7], upd_same, ?_⟩
      rw [List.take_succ_eq_append_getElem hix, List.map_append]
      exact (dn7.mono (h2.cc.trans (Ex.new hcp))).app (Dns.one (dn_new_tup (dns_cons.mpr ⟨_, _, rfl, dn_str.mpr rfl, Dns.one (dn_kd.mpr rfl)⟩) hcp hob))
    · rintro Hc ⟨C', acc, kvs', t7, ex7, ca7, cN7, hda7, U7, hl7, hN7, dn7⟩
      rw [List.length_map, List.take_length] at dn7
      have t8 : Tr z C0 H (upd C' N (.lst acc)) Hc := by
        refine ⟨t7.cc.trans (Ex.new cN7), ⟨fun b u e => ?_, ?_⟩, t7.keep, fun b hb => ?_⟩
        · by_cases hb : b = N
          · subst hb; rw [upd_same] at e; cases e; exact hN7
          · rw [upd_ne hb] at e; exact t7.ok.ex b u e
        · obtain ⟨gs, cs, sm, k, f1, f2, f3, f4⟩ := t7.ok.pur.at_
          have hz : ∀ b, H b ≠ none → b ≠ N := fun b hb e => hb (by rw [e]; exact hN0)
          exact ⟨⟨gs, cs, sm, k, f1, f2, f3, f4⟩, by rw [upd_ne (hz _ o.pur.pn)]; exact t7.ok.pur.cp, by rw [upd_ne (hz _ o.pur.gn)]; exact t7.ok.pur.cg, by rw [upd_ne (hz _ o.pur.cn)]; exact t7.ok.pur.cc, t7.ok.pur.pg, t7.ok.pur.pc, t7.ok.pur.gc⟩
        · rw [upd_ne (fun e => hb (by rw [e]; exact hN0))]; exact t7.new b hb
      refine hi z _ Hc [.lst (xs.map fun s => .tup [.str s, kd (rep (.inr s))])] _ _ _ t8.ok (Dns.one (dn_new_lst dn7 cN7)) rfl fun v9 C9 H9 t9 dn9 => hq v9 C9 H9 (t8.trans t9) dn9
end
end K07

/-! _law_told: unified, what it raises being caught. -/
namespace K07
open PySem PySem.Spec PyProof.Rows L2 Evl BV
/-- the classes that the law names -/
structure Cls (K : PySem.W.Frag) (mg : Str → Option Value) (C : Addr) : Prop where
  ex : ∃ c1 c2 c3 c4 c5 c6 : Addr, mg "WithError" = some (.ref c1) ∧ mg "BadText" = some (.ref c2) ∧ mg "BadWish" = some (.ref c3) ∧ mg "NotTame" = some (.ref c4) ∧ mg "TooMany" = some (.ref c5) ∧ mg "Unfit" = some (.ref c6) ∧
    PySem.W.kitOne K (.ref C) (.ref c1) = some true ∧ PySem.W.kitOne K (.ref C) (.type "ValueError") = some true ∧ PySem.W.kitAny K (.ref C) [.ref c2, .ref c3, .ref c4, .ref c5, .ref c6] = some false
  ve : mg "ValueError" = none
  xd : ExD K C
  xf : XfC K C
  te : PySem.W.exmOne K (.ref C) (.ref C) = some true
abbrev N_toldH : List Str := ["_law_pairs_here", "_law_is_named", "_law_told_here", "raised", "_law_is_under", "_law_is_other"]
theorem sc_told : FnScope N_toldH ["_law_pairs_here", "_law_is_named"] (defScope s_told) := ⟨rfl, rfl, rfl, by decide +kernel, rfl, by decide +kernel, by decide +kernel⟩
/-- what it tells -/
def toldD (es : List (Ky × Ky)) : D := match runU 0 id es with
  | .inl i => .int (i : Nat)
  | .inr _ => .non
def sp_told (spV : SpD) : SpD := fun ds T => ∃ d b es, ds = [d, .bl b] ∧ EqsD d es ∧ (∀ rep, runU 0 id es = .inr rep → ∃ T1 : D → Prop, spV [.lst ((termsOf es).map kd)] T1 ∧ ∀ u, T1 u → ∃ xs : List Str, u = .tup (xs.map D.str) ∧ xs.length ≤ 80000) ∧ T (toldD es)
section
variable {P : Program} {w : World} {K : PySem.W.Frag} {mg : Str → Option Value} {base : Heap} {C fI : Addr}
theorem ok_told {f : Addr} {fd : FuncData} {spV : SpD} (F : Fun K "_law_told" "_law_told" s_told f fd) (bi : mg "isinstance" = none) (bt : mg "tuple" = none) (T : NoU K mg C fI) (S : Cls K mg C)
    (GU : KX P w K mg base "unified" 3 ["equations"] (spUni K C spV)) : FnD P w K mg base 4 f fd ["_law_pairs_here", "_law_is_named"] (sp_told spV) := by
  have nd := sc_told.nd
  obtain ⟨c1, c2, c3, c4, c5, c6, g1, g2, g3, g4, g5, g6, k1, k2, k3⟩ := S.ex
  refine fnG_of F sc_told (fun vs H Q E ⟨z, C0, ds, T, o, dn, ⟨d, b, es, e, _⟩, _⟩ => by rw [dn.len, e]; rfl) fun cdv A out s H vs Q E hr gd ⟨z, C0, ds, T1, o, dn, ⟨d, b, es, e, he, hv, hT⟩, k⟩ => ?_
  subst e
  obtain ⟨v0, v1, e1, d1, d2⟩ := dns2 dn
  rw [dn_bl.mp d2] at e1
  subst e1
  have le3 : 3 ≤ 3 := Nat.le_refl 3
  refine ⟨_, (pss_one (ps_try_as (i := 3) (tb := fun W => tSeq (tAsg (tIf (tB (tVar 1)) (tCallGS (spUni K C spV) id 1 (WE W) (tCons (tVar 0) tNil)) (tCallS (spUni K C spV) (WE W) (tCons (tVar 0) tNil))) (gName 2))
        (tRet (tIf (tB (tCB (rIsi K) (tCons (tVar 2) (tCons (tC (.ty "tuple")) tNil)))) (tC .non) (tC (.str (Str.ofString "told"))))))
      (ts := fun a cls d => tSeq (tAsg (tAndV (tCB (rIsD K C a cls d) (tCons (tVar 3) (tCons (tC (.ref c1)) tNil))) (tCB (rIsD K C a cls d) (tCons (tVar 3) (tCons (tC (.ty "ValueError")) tNil)))) (gName 4))
        (tSeq (tAsg (tCB (rIsDT K C a cls d) (tCons (tVar 3) (tCons (tTup (tCons (tC (.ref c2)) (tCons (tC (.ref c3)) (tCons (tC (.ref c4)) (tCons (tC (.ref c5)) (tCons (tC (.ref c6)) tNil)))))) tNil))) (gName 5))
        (tRet (tIf (tAnd (tB (tVar 4)) (tNot (tB (tVar 5)))) (tXf a cls d C "place" (tVar 3)) (tC (.str (Str.ofString "raised")))))))
      (Wout := fun _ _ _ _ => False) rfl rfl nd rfl rfl ⟨rfl, by decide, .inl T.gC⟩ takes0
      (fun W pn xe tk _ => pss_cons (ps_set (i := 2) nd rfl (Or.inl rfl) (pe_ifExp (pt_val (pv 1)) (pe_callXK GU hr le3 gd (fun σ => passAt tk σ) (pk_cons (pv 0) pk_nil)) (pe_callX GU hr le3 gd (fun σ => passAt tk σ) (pa_cons (pv 0) pa_nil))))
        (pss_one (ps_ret (pe_ifExp (pt_val (pe_callB call_isi (by rfl) bi boot_isinstance (pa_cons (pv 2) (pa_cons (pe_bltn (v := .ty "tuple") (by rfl) bt boot_tuple rfl) pa_nil)))) pe_non pe_str))))
      (fun a oe cls d pn hz hf => pss_cons (ps_set (i := 4) nd rfl (Or.inl rfl) (pe_and (pe_callB (call_isD S.xd hz hf) (by rfl) bi boot_isinstance (pa_cons (pv 3) (pa_cons (pe_glob (v := .ref c1) (by rfl) g1 rfl) pa_nil)))
          (pe_one (pe_callB (call_isD S.xd hz hf) (by rfl) bi boot_isinstance (pa_cons (pv 3) (pa_cons (pe_bltn (v := .ty "ValueError") (by rfl) S.ve PyProof.Rows.Boot.«ValueError» rfl) pa_nil))))))
        (pss_cons (ps_set (i := 5) nd rfl (Or.inl rfl) (pe_callB (call_isDT S.xd hz hf) (by rfl) bi boot_isinstance (pa_cons (pv 3) (pa_cons (pe_tup (pa_cons (pe_glob (v := .ref c2) (by rfl) g2 rfl) (pa_cons (pe_glob (v := .ref c3) (by rfl) g3 rfl) (pa_cons (pe_glob (v := .ref c4) (by rfl) g4 rfl) (pa_cons (pe_glob (v := .ref c5) (by rfl) g5 rfl) (pa_cons (pe_glob (v := .ref c6) (by rfl) g6 rfl) pa_nil)))))) pa_nil))))
        (pss_one (ps_ret (pe_ifExp (PW.pt (pw_and (pt_val (pv 4)) (pw_and1 (pt_not (pt_val (pv 5)))))) (pe_xf S.xf T.nf hz hf (pv 3)) pe_str)))))) : PSs (cxOf CX0 P w K mg base N_toldH "_law_told" (defScope s_told) f cdv A out s H E) (defBody s_told) _), ?_⟩
  have hw : ∀ (W : L2.WX) (Q2 : VK), (∀ i, runU 0 id es = .inl i → ∀ dx C' H', H dx = none → Tr z C0 H C' H' → C' dx = none → H' dx = some (.xd [("place", .int (i : Nat))]) → W (.ref C) (some dx) [some v0, some (.bl b), none, none, none, none] H') →
      (∀ rep, runU 0 id es = .inr rep → ∀ v C' H', Tr z C0 H C' H' → (∃ ys, Dn K C' z.p (.tup ys) v) → Q2 v H') → spUni K C spV [v0] H Q2 (WE W [some v0, some (.bl b), none, none, none, none]) := fun W Q2 h1 h2 => by
    refine ⟨v0, z, C0, d, es, rfl, o, d1, he, ?_⟩
    cases hr : runU 0 id es with
    | inl i => exact fun dx C' H' a1 a2 a3 a4 => h1 i hr dx C' H' a1 a2 a3 a4
    | inr rep =>
      obtain ⟨T2, hT2, hxs⟩ := hv rep hr
      refine ⟨T2, hT2, fun u hu => ?_⟩
      obtain ⟨xs, e, hl⟩ := hxs u hu
      exact ⟨xs, e, hl, fun v C' H' t dn' => h2 rep hr v C' H' t ⟨_, dn'⟩⟩
  have main : ∀ (W : L2.WX), W = wAs K (.ref C) 3 (fun a cls d => tSeq (tAsg (tAndV (tCB (rIsD K C a cls d) (tCons (tVar 3) (tCons (tC (.ref c1)) tNil))) (tCB (rIsD K C a cls d) (tCons (tVar 3) (tCons (tC (.ty "ValueError")) tNil)))) (gName 4))
        (tSeq (tAsg (tCB (rIsDT K C a cls d) (tCons (tVar 3) (tCons (tTup (tCons (tC (.ref c2)) (tCons (tC (.ref c3)) (tCons (tC (.ref c4)) (tCons (tC (.ref c5)) (tCons (tC (.ref c6)) tNil)))))) tNil))) (gName 5))
        (tRet (tIf (tAnd (tB (tVar 4)) (tNot (tB (tVar 5)))) (tXf a cls d C "place" (tVar 3)) (tC (.str (Str.ofString "raised"))))))) (fun _ _ _ _ => False) { nx := fun _ H' => Q .non H', rt := Q } →
      spUni K C spV [v0] H (fun v H1 => tRet (tIf (tB (tCB (rIsi K) (tCons (tVar 2) (tCons (tC (.ty "tuple")) tNil)))) (tC .non) (tC (.str (Str.ofString "told")))) { nx := fun _ H' => Q .non H', rt := Q } [some v0, some (.bl b), some v, none, none, none] H1) (WE W [some v0, some (.bl b), none, none, none, none]) := fun W eW => by
    refine hw W _ (fun i hi dx C' H' n0 t ndx hdx => ?_) fun rep hi v C' H' t ⟨ys, dn'⟩ => ?_
    · subst eW
      refine ⟨true, S.te, fun _ a ha => ?_, fun q => Bool.noConfusion q⟩
      have hxd : ∀ (tp : Addr) (u : HO), H' tp = none → upd H' tp u dx = some (.xd [("place", .int (i : Nat))]) := fun tp u htp => by rw [upd_ne (fun e => by rw [← e, hdx] at htp; cases htp)]; exact hdx
      refine ⟨_, rfl, .ref c1, .ref c1, true, dx, _, rfl, rfl, rfl, hdx, .own c1, k1, true, rfl, ?_⟩
      refine ⟨_, rfl, .ty "ValueError", .type "ValueError", true, dx, _, rfl, rfl, rfl, hdx, .ty "ValueError", k2, ?_⟩
      refine ⟨_, rfl, (by rw [sizeLine_eq]; show 5 ≤ _; decide), fun tp htp => ?_⟩
      refine ⟨tp, _, _, false, dx, _, rfl, rfl, rfl, hxd tp _ htp, upd_same, .cons (.own c2) (.cons (.own c3) (.cons (.own c4) (.cons (.own c5) (.cons (.own c6) .nil)))), k3, ?_⟩
      refine ⟨_, rfl, _, rfl, _, rfl, _, rfl, ?_⟩
      refine ⟨_, rfl, rfl, rfl, dx, _, .int (i : Nat), rfl, hxd tp _ htp, rfl, ?_⟩
      have hq : toldD es = .int (i : Nat) := by unfold toldD; rw [hi]
      rw [hq] at hT
      exact k _ _ C' _ hT (t.trans (Tr.ext t.ok (Ex.new htp))) (dn_int.mpr rfl)
    · have hnt : toldD es = .non := by unfold toldD; rw [hi]
      rw [hnt] at hT
      refine ⟨_, rfl, v, .ty "tuple", .type "tuple", .type "tuple", true, rfl, .ty "tuple", tyX_of (X := cxOf CX0 P w K mg base N_toldH "_law_told" (defScope s_told) f cdv A out s H E) t.ok dn' rfl, kit_ty (by decide +kernel), _, rfl, ?_⟩
      exact k _ _ C' H' hT t (dn_non.mpr rfl)
  cases b with
  | true => exact ⟨_, rfl, _, rfl, _, rfl, rfl, main _ rfl⟩
  | false => exact ⟨_, rfl, _, rfl, _, rfl, main _ rfl⟩
end
end K07

/-! k07: what is picked; is_free, variables_of; what _law_told tells of drawn equations. -/
namespace K07
open PySem PySem.Spec PyProof.Rows L2 Evl BV

def sp_pick : SpD := fun ds T => (∃ xs, (ds = [.pur, .lst xs] ∨ ds = [.pur, .tup xs]) ∧ xs ≠ [] ∧ xs.length ≤ 1000000 ∧ ∀ x ∈ xs, T x) ∨ (∃ s, ds = [.pur, .str s] ∧ s.cps.toList ≠ [] ∧ s.length ≤ 1000000 ∧ ∀ c ∈ s.cps.toList, T (.str ⟨#[c]⟩))
theorem says_pick : ∀ ds T, sp_pick ds T → spOf 2 N_pick.length (m_pick spDraw) ds T := by
  rintro ds T (⟨xs, (rfl | rfl), h0, h1, hT⟩ | ⟨s, rfl, h0, h1, hT⟩)
  · have hl : 0 < xs.length := List.length_pos_iff.mpr h0
    refine ⟨rfl, .lst xs, rfl, .pur, rfl, .lst xs, rfl, _, rfl, fun d => ∃ i : Nat, d = .int i ∧ i < xs.length, ⟨_, rfl, by omega, by omega, fun i a b => ⟨i.toNat, by rw [Int.toNat_of_nonneg a], by omega⟩⟩, fun d hd => ?_⟩
    obtain ⟨i, rfl, hi⟩ := hd
    exact ⟨xs[i], atI_nat (List.getElem?_eq_getElem hi), hT _ (List.getElem_mem hi)⟩
  · have hl : 0 < xs.length := List.length_pos_iff.mpr h0
    refine ⟨rfl, .tup xs, rfl, .pur, rfl, .tup xs, rfl, _, rfl, fun d => ∃ i : Nat, d = .int i ∧ i < xs.length, ⟨_, rfl, by omega, by omega, fun i a b => ⟨i.toNat, by rw [Int.toNat_of_nonneg a], by omega⟩⟩, fun d hd => ?_⟩
    obtain ⟨i, rfl, hi⟩ := hd
    exact ⟨xs[i], atI_nat (List.getElem?_eq_getElem hi), hT _ (List.getElem_mem hi)⟩
  · have hl : 0 < s.cps.toList.length := List.length_pos_iff.mpr h0
    have hs : szOk s.length = true := by simp only [szOk, decide_eq_true_eq]; omega
    rw [cps_len] at h1
    refine ⟨rfl, .str s, rfl, .pur, rfl, .str s, rfl, _, (if_pos hs), fun d => ∃ i : Nat, d = .int i ∧ i < s.cps.toList.length, ⟨_, rfl, by rw [cps_len]; omega, by rw [cps_len]; omega, fun i a b => ⟨i.toNat, by rw [Int.toNat_of_nonneg a], by rw [cps_len] at b; omega⟩⟩, fun d hd => ?_⟩
    obtain ⟨i, rfl, hi⟩ := hd
    refine ⟨.str ⟨#[s.cps.toList[i]]⟩, ?_, hT _ (List.getElem_mem hi)⟩
    show (if szOk s.length = true then (atI s.cps.toList (i : Int)).map fun c => D.str ⟨#[c]⟩ else none) = _
    rw [if_pos hs, atI_nat (List.getElem?_eq_getElem hi)]
    rfl
theorem call_draw {n : Int} {Q : D → Prop} (h1 : 1 ≤ n) (h2 : n < 1073741824) (k : ∀ i : Int, 0 ≤ i → i < n → Q (.int i)) : ∃ T : D → Prop, spDraw [.pur, .int n] T ∧ ∀ d, T d → Q d := ⟨Q, ⟨n, rfl, h1, h2, k⟩, fun d h => h⟩
theorem call_pick {xs : List D} {Q : D → Prop} (h0 : xs ≠ []) (h1 : xs.length ≤ 1000000) (k : ∀ x ∈ xs, Q x) : ∃ T : D → Prop, sp_pick [.pur, .lst xs] T ∧ ∀ d, T d → Q d := ⟨Q, .inl ⟨xs, .inl rfl, h0, h1, k⟩, fun d h => h⟩
theorem call_sign {s : Str} {Q : D → Prop} (h0 : s.cps.toList ≠ []) (h1 : s.length ≤ 1000000) (k : ∀ c ∈ s.cps.toList, Q (.str ⟨#[c]⟩)) : ∃ T : D → Prop, sp_pick [.pur, .str s] T ∧ ∀ d, T d → Q d := ⟨Q, .inr ⟨s, rfl, h0, h1, k⟩, fun d h => h⟩
def sp_is_free : SpD := fun ds T => ∃ t, ds = [kd t] ∧ tm t ∧ T (.bl (frK t))
theorem says_is_free : ∀ ds T, sp_is_free ds T → spOf 1 N_is_free.length m_is_free ds T := by
  rintro ds T ⟨t, rfl, ht, hT⟩
  cases t with
  | inl i => exact ⟨rfl, .int i, rfl, false, rfl, false, rfl, hT⟩
  | inr s =>
    refine ⟨rfl, .str s, rfl, true, rfl, true, rfl, .str s, rfl, 1, rfl, _, slTo ht (by decide) 1, _, eqStrs (takeAs ht 1) qAs, ?_⟩
    rw [q_dec]
    exact hT
theorem swGo_any {t : Tgt} {mt : MT} {me : ME} {env : BV.Env} {P : List Str → Prop} : ∀ (xs : List D) (acc : List Str), (∀ x ∈ xs, ∃ env1, t.put idD x env = some env1 ∧ ∀ (R : D → Prop) (S : Prop), (∀ s, x = .str s → R (.str s)) → S → mt env1 fun b => if b = true then me env1 R else S) →
    (∀ l : List Str, l.length ≤ acc.length + xs.length → P l) → swGo t mt me env xs acc P
  | [], acc, _, k => k acc (by simp)
  | x :: xs, acc, hs, k => by
    obtain ⟨env1, e, h⟩ := hs x (by simp)
    refine ⟨env1, e, h _ _ (fun s hx => ⟨s, rfl, swGo_any xs _ (fun y hy => hs y (by simp [hy])) fun l hl => k l ?_⟩) (swGo_any xs _ (fun y hy => hs y (by simp [hy])) fun l hl => k l (by rw [List.length_cons]; omega))⟩
    rw [List.length_cons]
    split at hl
    · omega
    · rw [List.length_cons] at hl; omega
def sp_variables_of : SpD := fun ds T => ∃ ts : List Ky, ds = [.lst (ts.map kd)] ∧ ts.length < 60 ∧ (∀ t ∈ ts, tm t) ∧ ∀ xs : List Str, xs.length ≤ 60 → T (.tup (xs.map D.str))
theorem says_variables_of : ∀ ds T, sp_variables_of ds T → spOf 1 N_variables_of.length (m_variables_of sp_is_free) ds T := by
  rintro ds T ⟨ts, rfl, hl, ht, hT⟩
  refine ⟨rfl, .lst (ts.map kd), rfl, ts.map kd, rfl, by rw [List.length_map]; exact hl, swGo_any (ts.map kd) [] (fun x hx => ⟨_, rfl, fun R S k1 k0 => ?_⟩) fun l hl' ys hp hs => ⟨_, rfl, hT ys ?_⟩⟩
  · obtain ⟨t, h1, rfl⟩ := List.mem_map.mp hx
    refine ⟨kd t, rfl, fun d => d = .bl (frK t), ⟨t, rfl, ht t h1, rfl⟩, fun d e => ⟨_, e, ?_⟩⟩
    cases hf : frK t with
    | true =>
      cases t with
      | inl i => cases hf
      | inr s => exact iteT ⟨_, rfl, k1 s rfl⟩
    | false => exact iteF k0
  · rw [hp.length_eq]
    simp only [List.length_nil, List.length_map] at hl'
    omega
/-- _law_told tells the place -/
theorem call_told {es : Eqs} {b : Bool} {Q : D → Prop} (h : tmE es) (hl : es.length ≤ 29) (k : ∀ o, IsPl es o → Q (optD o)) : ∃ T : D → Prop, sp_told sp_variables_of [.tup (es.map eqd), .bl b] T ∧ ∀ d, T d → Q d := by
  refine ⟨Q, ⟨_, b, es, rfl, eqs_of h (by omega), fun rep hr => ⟨fun u => ∃ xs : List Str, u = .tup (xs.map D.str) ∧ xs.length ≤ 60, ⟨termsOf es, rfl, by rw [terms_len]; omega, terms_tm h, fun xs hx => ⟨xs, rfl, hx⟩⟩, fun u ⟨xs, e, hx⟩ => ⟨xs, e, by omega⟩⟩, ?_⟩, fun d h => h⟩
  have := k (plU es) (plU_is es)
  unfold plU at this
  unfold toldD
  cases e : runU 0 id es with
  | inl i => rw [e] at this; exact this
  | inr rep => rw [e] at this; exact this
end K07

/-! k07: _law_place tells the place of the first clash. -/
namespace K07
open PySem PySem.Spec PyProof.Rows L2 Evl BV
theorem eqInt (a b : Int) : eqD (.int a) (.int b) = some (.bl (decide (a = b))) := by
  show some (D.bl (PyData.eqv (.int a) (.int b))) = _
  unfold PyData.eqv
  rfl
theorem neInt (a b : Int) : neD (.int a) (.int b) = some (.bl (!decide (a = b))) := by
  show some (D.bl (!PyData.eqv (.int a) (.int b))) = _
  unfold PyData.eqv
  rfl
theorem not_free {env : BV.Env} {t : Ky} (h : env[5]? = some (some (kd t))) (ht : tm t) : EvT (mOrT (tBl (mIsi "int" (mVar 5))) (tBl (mOp neD (mSl (mVar 5) moNo (moYes (mC (.int 1)))) (mC (.str (Str.ofString "?")))))) env (!frK t) := by
  cases t with
  | inl i => exact EvT.of (EvT.or (a := true) (b := true) (EvT.bl (Ev.isi (Ev.var h) rfl)) fun e => (nomatch e)) rfl
  | inr s =>
    refine EvT.of (EvT.or (a := false) (b := !frS s) (EvT.bl (Ev.isi (Ev.var h) rfl)) fun _ => EvT.bl fun R r => ⟨_, h, 1, rfl, _, slTo ht (by decide) 1, _, neStrs (takeAs ht 1) qAs, ?_⟩) rfl
    rw [q_dec]
    exact r
def addB : MS :=
    (mIfS [1] (tBl (mDin true (mVar 5) (mVar 1)))
    (mSeq (mPutD [1] 1 (mCB len3D (maCons (mVar 1) maNil)) (mVar 5))
    (mIfS [] (mOrT (tBl (mIsi "int" (mVar 5))) (tBl (mOp neD (mSl (mVar 5) moNo (moYes (mC (.int 1)))) (mC (.str (Str.ofString "?"))))))
    (mPutD [1] 2 (mVar 5) (mDget (mVar 1) (mVar 5)))
    mNext))
    mNext)
theorem place_add {es : Eqs} {m o : KL} {t : Ky} (I : Mrk es m o) (ht : tm t) (hl : m.length ≤ 1000) (hlo : o.length ≤ 1000) {E : EndD} {P : D} {s3 s4 s6 s7 : Option (Bool × D)}
    (k : ∀ m' o', Mrk es m' o' → (valD m' t).isSome = true → (∀ s, (valD m s).isSome = true → (valD m' s).isSome = true) → m'.length ≤ m.length + 1 → o'.length ≤ o.length + 1 → E.nx [some (false, P), some (true, dicOf m'), some (true, dicOf o'), s3, s4, some (false, kd t), s6, s7]) :
    addB E [some (false, P), some (true, dicOf m), some (true, dicOf o), s3, s4, some (false, kd t), s6, s7] := by
  refine ⟨kd t, rfl, dicOf m, rfl, m, t, rfl, keyOf_kd t, _, rfl, ?_⟩
  cases hv : valD m t with
  | some d => exact k m o I (by rw [hv]; rfl) (fun s h => h) (by omega) (by omega)
  | none =>
    refine ⟨⟨m, rfl⟩, dicOf m, rfl, .int (m.length : Nat), (by show some (D.int _) = _; rw [List.length_map]), kd t, rfl, ?_⟩
    dsimp only
    rw [aftL_lf' (show D.lfs [.int (m.length : Nat), kd t] = true by simp only [D.lfs, D.lf, tm.lf, Bool.and_self])]
    refine ⟨m, t, rfl, keyOf_kd t, decide_eq_true (by omega), ?_⟩
    have hput : ∀ s, valD (putD m t (.int (m.length : Nat))) s = if s = t then some (.int (m.length : Nat)) else valD m s := fun s => valD_put m t s _
    have hs : (valD (putD m t (.int (m.length : Nat))) t).isSome = true := by rw [hput, if_pos rfl]; rfl
    have hk : ∀ s, (valD m s).isSome = true → (valD (putD m t (.int (m.length : Nat))) s).isSome = true := fun s h => by
      rw [hput]
      split
      · rfl
      · exact h
    refine ifS (not_free (t := t) rfl ht) ?_
    cases hf : frK t with
    | true => exact k _ _ (I.add hv (o' := o) (by rw [hf]; rfl)) hs hk (putD_len _ _ _) (by omega)
    | false =>
      refine ⟨⟨o, rfl⟩, kd t, rfl, dicOf (putD m t (.int (m.length : Nat))), rfl, kd t, rfl, _, t, .int (m.length : Nat), rfl, keyOf_kd t, (by rw [hput, if_pos rfl]), ?_⟩
      dsimp only
      rw [aftL_lf' (show D.lfs [kd t, .int (m.length : Nat)] = true by simp only [D.lfs, D.lf, tm.lf, Bool.and_self])]
      exact ⟨o, .inl (m.length : Nat), rfl, rfl, decide_eq_true (by omega), k _ _ (I.add hv (o' := putD o (.inl (m.length : Nat)) (kd t)) (by rw [hf]; rfl)) hs hk (putD_len _ _ _) (putD_len _ _ _)⟩
def sp_place : SpD := fun ds T => ∃ es : Eqs, ds = [.tup (es.map eqd)] ∧ es.length ≤ 100 ∧ tmE es ∧ ∀ o, IsPl es o → T (optD o)
open Classical in
theorem says_place : ∀ ds T, sp_place ds T → spOf 1 N_place.length m_place ds T := by
  rintro ds T ⟨es, rfl, hl, ht, hT⟩
  refine ⟨rfl, ?_⟩
  refine ⟨.tup (es.map eqd), rfl, .tup (es.map eqd), es.map eqd, rfl, rfl, ?_⟩
  rw [frz_nil]
  refine forGo_inv (fun i env => ∃ m o s3 s4 s5 s6 s7, env = [some (false, .tup (es.map eqd)), some (true, dicOf m), some (true, dicOf o), s3, s4, s5, s6, s7] ∧ Mrk (es.take i) m o ∧ m.length ≤ 2 * i ∧ o.length ≤ 3 * i) ⟨[], [], none, none, none, none, none, rfl, Mrk.start, Nat.le_refl _, Nat.le_refl _⟩ ?_ ?_
  · rintro env ⟨m, o, s3, s4, s5, s6, s7, rfl, I, _, _⟩
    have hn : (enumL (es.map eqd)).length = es.length := by unfold enumL; rw [List.length_mapIdx, List.length_map]
    rw [hn, List.take_length] at I
    exact hT none I.nc
  rintro i d env nx hd ⟨m, o, s3, s4, s5, s6, s7, rfl, I, hml, hol⟩ hnx
  unfold enumL at hd
  rw [List.getElem?_mapIdx, List.getElem?_map] at hd
  cases he : es[i]? with
  | none => rw [he] at hd; cases hd
  | some e =>
  rw [he] at hd
  have hdd : D.pr [.int (i : Nat), eqd e] = d := Option.some.inj hd
  subst hdd
  have hi : i < es.length := (List.getElem?_eq_some_iff.mp he).1
  have hei : es[i] = e := by rw [List.getElem?_eq_getElem hi] at he; exact Option.some.inj he
  have hte := ht e (by rw [← hei]; exact List.getElem_mem hi)
  refine ⟨_, rfl, ?_⟩
  refine ⟨eqd e, rfl, [kd e.1, kd e.2], rfl, ?_⟩
  rw [frz_nil]
  refine ⟨_, rfl, place_add I hte.1 (by omega) (by omega) fun m1 o1 I1 ha1 hk1 hm1 ho1 => ⟨_, rfl, place_add I1 hte.2 (by omega) (by omega) fun m2 o2 I2 hb2 hk2 hm2 ho2 => ?_⟩⟩
  obtain ⟨d1, hd1⟩ := Option.isSome_iff_exists.mp (hk2 _ ha1)
  obtain ⟨lo, rfl, hlo⟩ := I2.num _ _ hd1
  obtain ⟨d2, hd2⟩ := Option.isSome_iff_exists.mp hb2
  obtain ⟨hi', rfl, hhi⟩ := I2.num _ _ hd2
  refine ⟨dicOf m2, rfl, eqd e, rfl, kd e.1, rfl, m2, e.1, .int (lo : Nat), rfl, keyOf_kd _, hd1, ?_⟩
  refine ⟨dicOf m2, rfl, eqd e, rfl, kd e.2, rfl, m2, e.2, .int (hi' : Nat), rfl, keyOf_kd _, hd2, ?_⟩
  refine ⟨_, _, rfl, ?_⟩
  rw [aftL_lf' (show D.lfs [.int (lo : Nat), .int (hi' : Nat)] = true from rfl)]
  have htk : es.take (i + 1) = es.take i ++ [e] := by rw [List.take_succ_eq_append_getElem hi, hei]
  refine ⟨_, rfl, _, rfl, _, neInt _ _, _, rfl, ?_⟩
  by_cases hq : lo = hi'
  · rw [decide_eq_true (by rw [hq])]
    refine hnx _ ⟨m2, o2, _, _, _, _, _, rfl, ?_, by omega, by omega⟩
    rw [htk]
    subst hq
    exact I2.join hd1 hd2 (fun h => absurd rfl h) rfl (fun t => by split <;> simp_all) (fun n => ⟨fun z => .inl z, fun z => z.elim id fun z => by rw [z.1]; exact z.2⟩) I2.lt
  rw [decide_eq_false (fun h => hq (by omega))]
  have hne : (D.int (lo : Nat)) ≠ .int (hi' : Nat) := fun h => hq (int_nat h)
  refine ⟨_, rfl, dicOf o2, rfl, o2, .inl (lo : Nat), rfl, rfl, _, rfl, ?_⟩
  have go : ¬ (owned o2 lo ∧ owned o2 hi') → mSeq (mForK [1] (mVar 1) (.nm 5)
    (mIfS [1] (tBl (mOp eqD (mDget (mVar 1) (mVar 5)) (mVar 7)))
    (mPutD [] 1 (mVar 6) (mVar 5))
    mNext))
    (mIfS [2] (tBl (mDin false (mVar 7) (mVar 2)))
    (mPutD [2] 2 (mDget (mVar 2) (mVar 7)) (mVar 6))
    mNext) { nx := nx, rt := (endF T).rt, bk := mRet [] (mC .non) (endF T), ct := nx } [some (false, .tup (es.map eqd)), some (true, dicOf m2), some (true, dicOf o2), some (false, .int (i : Nat)), some (false, eqd e), some (false, kd e.2), some (false, .int (lo : Nat)), some (false, .int (hi' : Nat))] := fun hno => by
    refine ⟨dicOf m2, rfl, m2.map (·.1), m2.map (·.2), rfl, ?_⟩
    refine forGo_inv (fun j env => ∃ m3 s5, env = [some (false, .tup (es.map eqd)), some (true, dicOf m3), some (true, dicOf o2), some (false, .int (i : Nat)), some (false, eqd e), s5, some (false, .int (lo : Nat)), some (false, .int (hi' : Nat))] ∧ m3.map (fun p : Ky × D => p.1) = m2.map (fun p : Ky × D => p.1) ∧
      ∀ t : Ky, valD m3 t = if t ∈ (m2.map (fun p : Ky × D => p.1)).take j ∧ valD m2 t = some (.int (hi' : Nat)) then some (.int (lo : Nat)) else valD m2 t) ⟨m2, _, rfl, rfl, fun t => by rw [if_neg (fun h => by simpa using h.1)]⟩ ?_ ?_
    · rintro env ⟨m3, s5, rfl, hks, hm3⟩
      rw [List.length_map, List.take_length] at hm3
      have hm3' : ∀ t, valD m3 t = if valD m2 t = some (.int (hi' : Nat)) then some (.int (lo : Nat)) else valD m2 t := fun t => by
        rw [hm3]
        by_cases h : valD m2 t = some (.int (hi' : Nat))
        · rw [if_pos h, if_pos ⟨mem_valD (by rw [h]; rfl), h⟩]
        · rw [if_neg h, if_neg (fun z => h z.2)]
      have hl3 : m3.length = m2.length := by
        have := congrArg List.length hks
        rwa [List.length_map, List.length_map] at this
      refine ⟨_, rfl, dicOf o2, rfl, o2, .inl (hi' : Nat), rfl, rfl, _, rfl, ?_⟩
      cases hoh : valD o2 (.inl (hi' : Nat)) with
      | none =>
        refine hnx _ ⟨m3, o2, _, _, _, _, _, rfl, ?_, by omega, by omega⟩
        rw [htk]
        refine I2.join hd1 hd2 (fun _ => hno) hl3 hm3' (fun n => ⟨fun z => .inl z, fun z => z.elim id fun z => ?_⟩) I2.lt
        have := z.2
        unfold owned at this
        rw [hoh] at this
        cases this
      | some d =>
        obtain ⟨hdl, _⟩ := I2.lt _ _ hoh
        refine ⟨⟨o2, rfl⟩, dicOf o2, rfl, .int (hi' : Nat), rfl, o2, .inl (hi' : Nat), d, rfl, rfl, hoh, .int (lo : Nat), rfl, ?_⟩
        dsimp only
        rw [aftL_lf' (show D.lfs [d, .int (lo : Nat)] = true by simp only [D.lfs, D.lf, hdl, Bool.and_self])]
        refine ⟨o2, .inl (lo : Nat), rfl, rfl, decide_eq_true (by omega), hnx _ ⟨m3, putD o2 (.inl (lo : Nat)) d, _, _, _, _, _, rfl, ?_, by omega, by have := putD_len o2 (.inl (lo : Nat)) d; omega⟩⟩
        rw [htk]
        refine I2.join hd1 hd2 (fun _ => hno) hl3 hm3' (fun n => ?_) fun k d' hk' => ?_
        · unfold owned
          rw [valD_put]
          by_cases hn : n = lo
          · rw [if_pos (by rw [hn])]
            exact ⟨fun _ => .inr ⟨hn, by rw [hoh]; rfl⟩, fun _ => rfl⟩
          · rw [if_neg (fun z => hn (by have := Sum.inl.inj z; omega))]
            exact ⟨fun z => .inl z, fun z => z.elim id fun z => absurd z.1 hn⟩
        · rw [valD_put] at hk'
          split at hk'
          · rename_i hk2'
            cases hk'
            exact ⟨hdl, lo, hk2', hlo⟩
          · exact I2.lt k d' hk'
    · rintro j d env nx' hj ⟨m3, s5, rfl, hks, hm3⟩ hnx'
      rw [List.getElem?_map] at hj
      cases hkj : (m2.map (·.1))[j]? with
      | none => rw [hkj] at hj; cases hj
      | some k =>
      rw [hkj] at hj
      have hdk : kdD k = d := Option.some.inj hj
      rw [← hdk, kdD_kd]
      have hjl : j < (m2.map (·.1)).length := (List.getElem?_eq_some_iff.mp hkj).1
      have hjk : (m2.map (·.1))[j] = k := by rw [List.getElem?_eq_getElem hjl] at hkj; exact Option.some.inj hkj
      have hkm : k ∈ m2.map (·.1) := by rw [← hjk]; exact List.getElem_mem hjl
      obtain ⟨dk, hdk2⟩ := Option.isSome_iff_exists.mp (valD_mem hkm)
      obtain ⟨nk, rfl, _⟩ := I2.num _ _ hdk2
      have htake : ∀ t, t ∈ (m2.map (·.1)).take (j + 1) ↔ t ∈ (m2.map (·.1)).take j ∨ t = k := fun t => by
        rw [List.take_succ_eq_append_getElem hjl, hjk]
        simp
      obtain ⟨c, hc⟩ : ∃ c : Nat, valD m3 k = some (.int (c : Nat)) := by
        rw [hm3, hdk2]
        split
        · exact ⟨lo, rfl⟩
        · exact ⟨nk, rfl⟩
      refine ⟨_, rfl, dicOf m3, rfl, kd k, rfl, m3, k, .int (c : Nat), rfl, keyOf_kd k, hc, .int (hi' : Nat), rfl, _, eqInt _ _, _, rfl, ?_⟩
      by_cases hch : c = hi'
      · rw [decide_eq_true (by rw [hch])]
        have hk2' : valD m2 k = some (.int (hi' : Nat)) := by
          rw [hm3] at hc
          split at hc
          · exact absurd (by rw [Option.some.inj hc, hch]) hne
          · rw [hc, hch]
        refine ⟨⟨m3, rfl⟩, .int (lo : Nat), rfl, kd k, rfl, ?_⟩
        dsimp only
        rw [aftL_nil]
        have hl3 : m3.length = m2.length := by
          have := congrArg List.length hks
          rwa [List.length_map, List.length_map] at this
        refine ⟨m3, k, rfl, keyOf_kd k, decide_eq_true (by omega), hnx' _ ⟨putD m3 k (.int (lo : Nat)), _, rfl, by rw [putD_keys hc, hks], fun t => ?_⟩⟩
        rw [valD_put]
        by_cases htk' : t = k
        · rw [if_pos htk', if_pos ⟨(htake t).mpr (.inr htk'), by rw [htk']; exact hk2'⟩]
        · rw [if_neg htk', hm3]
          by_cases h : t ∈ (m2.map (·.1)).take j ∧ valD m2 t = some (.int (hi' : Nat))
          · rw [if_pos h, if_pos ⟨(htake t).mpr (.inl h.1), h.2⟩]
          · rw [if_neg h, if_neg (fun z => h ⟨((htake t).mp z.1).resolve_right htk', z.2⟩)]
      · rw [decide_eq_false (fun h => hch (by omega))]
        refine hnx' _ ⟨m3, _, rfl, hks, fun t => ?_⟩
        rw [hm3]
        by_cases h : t ∈ (m2.map (·.1)).take j ∧ valD m2 t = some (.int (hi' : Nat))
        · rw [if_pos h, if_pos ⟨(htake t).mpr (.inl h.1), h.2⟩]
        · rw [if_neg h]
          by_cases h2 : t ∈ (m2.map (·.1)).take (j + 1) ∧ valD m2 t = some (.int (hi' : Nat))
          · exfalso
            rcases (htake t).mp h2.1 with z | z
            · exact h ⟨z, h2.2⟩
            · have h3 := hm3 t
              rw [if_neg h, h2.2, z, hc] at h3
              exact hch (int_nat (Option.some.inj h3))
          · rw [if_neg h2]
  cases hol1 : valD o2 (.inl (lo : Nat)) with
  | none => exact go fun z => by have := z.1; unfold owned at this; rw [hol1] at this; cases this
  | some dl =>
    refine ⟨_, rfl, dicOf o2, rfl, o2, .inl (hi' : Nat), rfl, rfl, _, rfl, ?_⟩
    cases hoh1 : valD o2 (.inl (hi' : Nat)) with
    | none => exact go fun z => by have := z.2; unfold owned at this; rw [hoh1] at this; cases this
    | some dh =>
      have hcl := I2.both hd1 hd2 hq (by unfold owned; rw [hol1]; rfl) (by unfold owned; rw [hoh1]; rfl)
      exact ⟨.int (i : Nat), rfl, hT (some i) ⟨hi, by rw [htk]; exact hcl, I.nc⟩⟩
end K07

/-! k07: drawn terms and equations. -/
namespace K07
open PySem PySem.Spec PyProof.Rows L2 Evl BV
theorem str_ofL {n : Nat} : (Str.ofString (toString ((n : Nat) : Int))).cps.toList = TL.numL n := TL.tl_num n
theorem log_small {n : Nat} (h : n ≤ 10000000000) : n.log2 < 1920 := by
  by_cases h0 : n = 0
  · rw [h0]; decide
  · exact (Nat.log2_lt h0).mpr (Nat.lt_of_le_of_lt h (Nat.lt_of_lt_of_le (by decide : 10000000000 < 2 ^ 40) (Nat.pow_le_pow_right (by decide) (by decide))))
theorem str_d {n : Nat} (h : n ≤ 10000000000) : strD [.int (n : Nat)] = some (.str (Str.ofString (toString (n : Int)))) := if_pos (log_small (by simpa using h))
theorem num_a {n : Nat} (h : n ≤ 1000000000) : isA 10 (Str.ofString (toString (n : Int))) := ⟨by rw [cps_len, str_ofL]; exact TL.numL_len (by decide) (by omega), fun c hc => by
  rw [str_ofL] at hc
  have := TL.numL_digits n c hc
  omega⟩
theorem sign_a : ∀ c ∈ (Str.ofString "abcxyz").cps.toList, isA 1 ⟨#[c]⟩ := fun c hc => by
  have : ∀ c ∈ (Str.ofString "abcxyz").cps.toList, 32 ≤ c ∧ c ≤ 126 := by decide +kernel
  refine ⟨Nat.le_refl _, fun x hx => ?_⟩
  have : x = c := by simpa using hx
  rw [this]
  exact .inr (by rename_i h; exact h c hc)
theorem rep_all {P : Nat → Prop} {s : Str} (h : ∀ c ∈ s.cps.toList, P c) (n : Nat) : ∀ c ∈ (repS s n).cps.toList, P c := fun c hc => by
  simp only [repS] at hc
  have hc : c ∈ (List.replicate n s.cps.toList).flatten := by simpa using hc
  obtain ⟨l, h1, h2⟩ := List.mem_flatten.mp hc
  rw [(List.mem_replicate.mp h1).2] at h2
  exact h c h2
theorem rep_a {s : Str} {m : Nat} (h : isA m s) (n : Nat) : isA (n * m) (repS s n) := ⟨by rw [rep_len]; exact Nat.mul_le_mul_left n h.1, rep_all h.2 n⟩
theorem mul_s {s : Str} {m : Nat} (h : isA m s) (n : Nat) (hm : m * n ≤ 4000000) (hn : n ≤ 4000000) : mulD (.str s) (.int (n : Nat)) = some (.str (repS s n)) := if_pos ⟨by omega, by omega, by rw [Int.toNat_natCast]; exact Nat.le_trans (Nat.mul_le_mul_right n h.1) hm⟩
/-- a term, as data -/
def tmD (d : D) : Prop := ∃ t, d = kd t ∧ tm t
theorem tmD.str {s : Str} (h : isA 60 s) : tmD (.str s) := ⟨.inr s, rfl, h⟩
theorem tmD.int {i : Int} (h : i.natAbs ≤ 1000000000) : tmD (.int i) := ⟨.inl i, rfl, h⟩
theorem kys_to : ∀ {ys : List D}, (∀ y ∈ ys, tmD y) → ∃ ts : List Ky, ys = ts.map kd ∧ ∀ t ∈ ts, tm t
  | [], _ => ⟨[], rfl, fun t ht => by cases ht⟩
  | y :: ys, h => by
    obtain ⟨t, e, ht⟩ := h y (by simp)
    obtain ⟨ts, e2, h2⟩ := kys_to (ys := ys) fun z hz => h z (by simp [hz])
    exact ⟨t :: ts, by rw [e, e2]; rfl, fun p hp => (List.mem_cons.mp hp).elim (fun e => by rw [e]; exact ht) (h2 p)⟩
def sp_terms : SpD := fun ds T => ds = [.pur] ∧ ∀ ns ss : List Ky, ns ≠ [] → ss ≠ [] → ns.length ≤ 7 → ss.length ≤ 4 → (∀ t ∈ ns, tm t) → (∀ t ∈ ss, tm t) → T (.lst [.lst (ns.map kd), .lst (ss.map kd)])
/-- names drawn from a menu -/
theorem some_picks {x : Nat} {n : Nat} {k : Int} {xs : List D} {env : BV.Env} {Q : List D → Prop} (h0 : env[0]? = some (some .pur)) (hx : env[x]? = some (some (.lst xs))) (hx0 : x ≠ 6) (hl : env.length = 7) (hne : xs ≠ []) (hxl : xs.length ≤ 1000) (hk : 1 ≤ k) (hk2 : k ≤ 100) (ht : ∀ d ∈ xs, tmD d) (q : ∀ ts : List Ky, ts ≠ [] → ts.length = k.toNat → (∀ t ∈ ts, tm t) → Q (ts.map kd)) :
    lcGo (.nm 6) mYes (mCall sp_pick (maCons (mVar 0) (maCons (mVar x) maNil))) (wipeE env [6]) (rngL 0 k.toNat) [] Q := by
  refine lcGo_map (fun _ y => tmD y) _ [] (fun d hd => ⟨_, rfl, fun R S kR => ?_⟩) fun ys p => ?_
  · have g : ∀ j, j ≠ 6 → ((wipeE env [6]).set 6 (some (idD d)))[j]? = env[j]? := fun j hj => by
      show ((env.set 6 none).set 6 (some (idD d)))[j]? = _
      rw [List.getElem?_set_ne (Ne.symm hj), List.getElem?_set_ne (Ne.symm hj)]
    exact ⟨.pur, by rw [g 0 (by decide)]; exact h0, .lst xs, by rw [g x hx0]; exact hx, call_pick hne (by omega) fun d hd => kR d (ht d hd)⟩
  · have hlen := paired_len p
    rw [rng_len] at hlen
    obtain ⟨ts, e, h⟩ := kys_to (ys := ys) fun y hy => by
      obtain ⟨i, hi, rfl⟩ := List.getElem_of_mem hy
      exact paired_ix p (i := i) (by rw [← paired_len p]; exact hi) hi
    subst e
    rw [List.length_map] at hlen
    rw [List.nil_append]
    exact q ts (fun e => by rw [e, List.length_nil] at hlen; omega) hlen h
theorem says_terms : ∀ ds T, sp_terms ds T → spOf 1 N_terms.length (m_terms sp_pick spDraw) ds T := by
  rintro ds T ⟨rfl, hT⟩
  refine ⟨rfl, _, rfl, call_sign (by decide +kernel) (by decide +kernel) fun c1 h1 => ⟨_, rfl, call_sign (by decide +kernel) (by decide +kernel) fun c2 h2 => ⟨_, _, rfl, ?_⟩⟩⟩
  dsimp only
  rw [aftL_nil]
  have a1 := sign_a c1 h1
  have a2 := sign_a c2 h2
  have q0 : isA 1 (Str.ofString "?") := lit_a "?" 1 (by decide +kernel)
  have l7 : isA 2 (Str.ofString ".7") := lit_a ".7" 2 (by decide +kernel)
  have l10 : isA 3 (Str.ofString ".10") := lit_a ".10" 3 (by decide +kernel)
  have l0 : isA 2 (Str.ofString ".0") := lit_a ".0" 2 (by decide +kernel)
  have lq : isA 2 (Str.ofString "?q") := lit_a "?q" 2 (by decide +kernel)
  have lqd : isA 3 (Str.ofString "?q.") := lit_a "?q." 3 (by decide +kernel)
  have lqq : isA 1 (Str.ofString "q") := lit_a "q" 1 (by decide +kernel)
  have b1 := q0.app a1
  have b2 := q0.app a2
  have r3 := rep_a a1 3
  refine ⟨_, rfl, _, add_strA q0 a1 (by decide), _, rfl, _, add_strA q0 a1 (by decide), _, rfl, _, add_strA b1 a2 (by decide), _, rfl, _, add_strA q0 a1 (by decide), _, add_strA b1 l7 (by decide), _, rfl, _, add_strA q0 a1 (by decide), _, add_strA b1 l10 (by decide), _, rfl, _, mul_s a1 3 (by decide) (by decide), _, add_strA q0 r3 (by decide), rfl, ?_⟩
  dsimp only
  rw [aft_nil]
  refine ⟨_, rfl, _, rfl, _, add_strA q0 a2 (by decide), _, rfl, _, add_strA q0 a2 (by decide), _, add_strA b2 l0 (by decide), _, rfl, _, pow109, _, rfl, call_draw (by decide) (by decide) fun i i0 i1 => ?_⟩
  obtain ⟨n, rfl⟩ : ∃ n : Nat, i = (n : Int) := ⟨i.toNat, by omega⟩
  have hn := num_a (n := n) (by omega)
  refine ⟨_, str_d (by omega), _, add_strA lqd hn (by decide), rfl, _, rfl, ?_⟩
  dsimp only
  rw [aft_nil]
  refine ⟨_, pow109, _, rfl, _, pow109, _, rfl, call_draw (by decide) (by decide) fun j j0 j1 => ⟨_, rfl, _, rfl, _, rfl, _, mul_s a1 2 (by decide) (by decide), rfl, ?_⟩⟩
  dsimp only
  rw [aft_nil]
  have hm : ∀ d ∈ [D.str (Str.ofString "?" ++ ⟨#[c1]⟩), .str ((Str.ofString "?" ++ ⟨#[c1]⟩) ++ ⟨#[c2]⟩), .str ((Str.ofString "?" ++ ⟨#[c1]⟩) ++ Str.ofString ".7"), .str ((Str.ofString "?" ++ ⟨#[c1]⟩) ++ Str.ofString ".10"), .str (Str.ofString "?" ++ repS ⟨#[c1]⟩ 3)] ++ [.str (Str.ofString "?" ++ ⟨#[c2]⟩), .str ((Str.ofString "?" ++ ⟨#[c2]⟩) ++ Str.ofString ".0"), .str (Str.ofString "?q"), .str (Str.ofString "?q." ++ Str.ofString (toString (n : Int)))], tmD d := fun d hd => by
    simp only [List.cons_append, List.nil_append, List.mem_cons, List.not_mem_nil, or_false] at hd
    rcases hd with rfl | rfl | rfl | rfl | rfl | rfl | rfl | rfl | rfl
    · exact .str (b1.mono (by decide))
    · exact .str ((b1.app a2).mono (by decide))
    · exact .str ((b1.app l7).mono (by decide))
    · exact .str ((b1.app l10).mono (by decide))
    · exact .str ((q0.app r3).mono (by decide))
    · exact .str (b2.mono (by decide))
    · exact .str ((b2.app l0).mono (by decide))
    · exact .str (lq.mono (by decide))
    · exact .str ((lqd.app hn).mono (by decide))
  have hs : ∀ d ∈ [D.int 0, .int 7, .int 1000000000, .int (-j), .str ⟨#[c1]⟩, .str (repS ⟨#[c1]⟩ 2), .str (Str.ofString "q")], tmD d := fun d hd => by
    simp only [List.mem_cons, List.not_mem_nil, or_false] at hd
    rcases hd with rfl | rfl | rfl | rfl | rfl | rfl | rfl
    · exact .int (by decide)
    · exact .int (by decide)
    · exact .int (by decide)
    · exact .int (by omega)
    · exact .str (a1.mono (by decide))
    · exact .str ((rep_a a1 2).mono (by decide))
    · exact .str (lqq.mono (by decide))
  refine ⟨_, rfl, call_draw (by decide) (by decide) fun k k0 k1 => ⟨_, rfl, 1 + k, rfl, by omega, by omega, sz_of (by rw [rng_len]; omega), ?_⟩⟩
  refine some_picks (x := 3) (n := 0) (k := 1 + k) ?_ ?_ (by decide) ?_ ?_ ?_ (by omega) (by omega) hm fun ns n0 nl nt => ?_
  · rfl
  · rfl
  · rfl
  · exact fun e => by cases e
  · simp
  dsimp only
  rw [aft_nil]
  refine ⟨_, rfl, _, rfl, call_draw (by decide) (by decide) fun u u0 u1 => ⟨_, rfl, 1 + u, rfl, by omega, by omega, sz_of (by rw [rng_len]; omega), ?_⟩⟩
  refine some_picks (x := 4) (n := 0) (k := 1 + u) ?_ ?_ (by decide) ?_ ?_ ?_ (by omega) (by omega) hs fun ss s0 sl st => ⟨rfl, hT ns ss n0 s0 (by omega) (by omega) nt st⟩
  · rfl
  · rfl
  · rfl
  · exact fun e => by cases e
  · simp
end K07

/-! k07: drawn equations; equations that say nothing; what beginnings tell. -/
namespace K07
open PySem PySem.Spec PyProof.Rows L2 Evl BV
theorem at_last {xs : List D} {d : D} (h : xs[xs.length - 1]? = some d) (hl : 1 ≤ xs.length) : atI xs (-1) = some d := by
  unfold atI ixN
  rw [if_neg (by decide), if_pos (by omega)]
  have : ((-1 : Int) + (xs.length : Int)).toNat = xs.length - 1 := by omega
  show xs[_]? = _
  rw [this]
  exact h
def pApp : MS := mApp [] 4 (mIf (tBl (mOp eqD (mCall spDraw (maCons (mVar 0) (maCons (mC (.int 2)) maNil))) (mC (.int 0)))) (mTup (maCons (mVar 6) (maCons (mVar 7) maNil))) (mTup (maCons (mVar 7) (maCons (mVar 6) maNil))))
def pOne : MS := mSeq (mIfS [] (tBl (mOp eqD (mCall spDraw (maCons (mVar 0) (maCons (mOp mulD (mC (.int 5)) (mVar 3)) maNil))) (mC (.int 0))))
    (mAsg [] 6 (mCall sp_pick (maCons (mVar 0) (maCons (mVar 2) maNil))))
    mNext) pApp
def pTwo : MS := mSeq (mIfS [] (tBl (mOp eqD (mCall spDraw (maCons (mVar 0) (maCons (mVar 3) maNil))) (mC (.int 0))))
    (mAsg [] 7 (mCall sp_pick (maCons (mVar 0) (maCons (mVar 2) maNil))))
    mNext) pOne
def sp_pairs : SpD := fun ds T => ∃ ns ss : List Ky, ds = [.pur, .lst (ns.map kd), .lst (ss.map kd)] ∧ ns ≠ [] ∧ ss ≠ [] ∧ ns.length ≤ 7 ∧ ss.length ≤ 4 ∧ (∀ t ∈ ns, tm t) ∧ (∀ t ∈ ss, tm t) ∧ ∀ es : Eqs, es ≠ [] → es.length ≤ 14 → tmE es → T (.tup (es.map eqd))
section
variable {ns ss : List Ky} {sh : Int} {es : Eqs} {E : EndD} {s5 : Option (Bool × D)}
def pEnv (ns ss : List Ky) (sh : Int) (es : Eqs) (s5 s6 s7 : Option (Bool × D)) : SEnv := [some (false, .pur), some (false, .lst (ns.map kd)), some (false, .lst (ss.map kd)), some (false, .int sh), some (true, .lst (es.map eqd)), s5, s6, s7]
theorem map_ne {ts : List Ky} (h : ts ≠ []) : ts.map kd ≠ [] := fun e => h (List.map_eq_nil_iff.mp e)
theorem go_app {x y : Ky} (hx : tm x) (hy : tm y) (hl : es.length ≤ 100) (k : ∀ e, tm e.1 ∧ tm e.2 → E.nx (pEnv ns ss sh (es ++ [e]) s5 (some (false, kd x)) (some (false, kd y)))) : pApp E (pEnv ns ss sh es s5 (some (false, kd x)) (some (false, kd y))) := by
  refine ⟨⟨_, rfl⟩, .pur, rfl, call_draw (by decide) (by decide) fun i i0 i1 => ⟨_, eqInt _ _, _, rfl, ?_⟩⟩
  have fin : ∀ e, tm e.1 ∧ tm e.2 → ∃ ds, (aft [] (eqd e) (pEnv ns ss sh es s5 (some (false, kd x)) (some (false, kd y))))[4]? = some (some (true, .lst ds)) ∧ szOk (ds.length + 1) = true ∧ E.nx ((aft [] (eqd e) (pEnv ns ss sh es s5 (some (false, kd x)) (some (false, kd y)))).set 4 (some (true, .lst (ds ++ [eqd e])))) := fun e he => by
    rw [aft_nil]
    refine ⟨es.map eqd, rfl, sz_of (by rw [List.length_map]; omega), ?_⟩
    have : (es ++ [e]).map eqd = es.map eqd ++ [eqd e] := by simp
    rw [← this]
    exact k e he
  cases decide (i = 0) with
  | true => exact ⟨kd x, rfl, kd y, rfl, rfl, fin (x, y) ⟨hx, hy⟩⟩
  | false => exact ⟨kd y, rfl, kd x, rfl, rfl, fin (y, x) ⟨hy, hx⟩⟩
theorem pick_in (hs : ss ≠ []) (hl : ss.length ≤ 100) (ht : ∀ t ∈ ss, tm t) {Q : D → Prop} (k : ∀ t, tm t → Q (kd t)) : ∃ T : D → Prop, sp_pick [.pur, .lst (ss.map kd)] T ∧ ∀ d, T d → Q d :=
  call_pick (map_ne hs) (by rw [List.length_map]; omega) fun d hd => by
    obtain ⟨t, h1, rfl⟩ := List.mem_map.mp hd
    exact k t (ht t h1)
theorem go_one (hs : ss ≠ []) (hl' : ss.length ≤ 100) (ht : ∀ t ∈ ss, tm t) (h1 : 1 ≤ sh) (h2 : sh ≤ 10) {x y : Ky} (hx : tm x) (hy : tm y) (hl : es.length ≤ 100) (k : ∀ x y e, tm e.1 ∧ tm e.2 → E.nx (pEnv ns ss sh (es ++ [e]) s5 (some (false, kd x)) (some (false, kd y)))) : pOne E (pEnv ns ss sh es s5 (some (false, kd x)) (some (false, kd y))) := by
  refine ⟨.pur, rfl, .int sh, rfl, .int (5 * sh), rfl, call_draw (by omega) (by omega) fun i i0 i1 => ⟨_, eqInt _ _, _, rfl, ?_⟩⟩
  cases decide (i = 0) with
  | true =>
    refine ⟨.pur, rfl, .lst (ss.map kd), rfl, pick_in hs hl' ht fun t h => ?_⟩
    dsimp only
    rw [aft_nil]
    exact go_app h hy hl fun e he => k _ _ e he
  | false => exact go_app hx hy hl fun e he => k _ _ e he
theorem go_two (hs : ss ≠ []) (hl' : ss.length ≤ 100) (ht : ∀ t ∈ ss, tm t) (h1 : 1 ≤ sh) (h2 : sh ≤ 10) {x y : Ky} (hx : tm x) (hy : tm y) (hl : es.length ≤ 100) (k : ∀ x y e, tm e.1 ∧ tm e.2 → E.nx (pEnv ns ss sh (es ++ [e]) s5 (some (false, kd x)) (some (false, kd y)))) : pTwo E (pEnv ns ss sh es s5 (some (false, kd x)) (some (false, kd y))) := by
  refine ⟨.pur, rfl, .int sh, rfl, call_draw (by omega) (by omega) fun i i0 i1 => ⟨_, eqInt _ _, _, rfl, ?_⟩⟩
  cases decide (i = 0) with
  | true =>
    refine ⟨.pur, rfl, .lst (ss.map kd), rfl, pick_in hs hl' ht fun t h => ?_⟩
    dsimp only
    rw [aft_nil]
    exact go_one hs hl' ht h1 h2 hx h hl k
  | false => exact go_one hs hl' ht h1 h2 hx hy hl k
end
theorem says_pairs : ∀ ds T, sp_pairs ds T → spOf 3 N_pairs.length (m_pairs sp_pick spDraw) ds T := by
  rintro ds T ⟨ns, ss, rfl, hn, hs, hnl, hsl, hnt, hst, hT⟩
  refine ⟨rfl, .pur, rfl, rfl, call_pick (by simp) (by simp) fun d hd => ?_⟩
  obtain ⟨sh, rfl, h1, h2⟩ : ∃ sh : Int, d = .int sh ∧ 1 ≤ sh ∧ sh ≤ 10 := by
    simp only [List.mem_cons, List.not_mem_nil, or_false] at hd
    rcases hd with rfl | rfl | rfl
    · exact ⟨2, rfl, by decide, by decide⟩
    · exact ⟨3, rfl, by decide, by decide⟩
    · exact ⟨6, rfl, by decide, by decide⟩
  refine ⟨rfl, rfl, ?_⟩
  refine ⟨.pur, rfl, call_draw (by decide) (by decide) fun k k0 k1 => ⟨_, rfl, 1 + k, rfl, by omega, by omega, ?_⟩⟩
  refine forGo_inv (fun i env => ∃ es s5 s6 s7, env = pEnv ns ss sh es s5 s6 s7 ∧ es.length = i ∧ tmE es) ⟨[], none, none, none, rfl, rfl, fun e he => by cases he⟩ ?_ ?_
  · rintro env ⟨es, s5, s6, s7, rfl, hl, ht⟩
    rw [rng_len] at hl
    exact ⟨.lst (es.map eqd), rfl, _, rfl, hT es (fun e => by rw [e, List.length_nil] at hl; omega) (by omega) ht⟩
  rintro i d env nx hd ⟨es, s5, s6, s7, rfl, hl, ht⟩ hnx
  have hi := (List.getElem?_eq_some_iff.mp hd).1
  rw [rng_len] at hi
  obtain rfl : d = .int (0 + (i : Nat)) := by
    unfold rngL at hd
    rw [List.getElem?_map, List.getElem?_range (by omega)] at hd
    exact (Option.some.inj hd).symm
  refine ⟨_, rfl, ?_⟩
  refine ⟨.pur, rfl, .lst (ns.map kd), rfl, pick_in hn (by omega) hnt fun x hx => ⟨.pur, rfl, .lst (ns.map kd), rfl, pick_in hn (by omega) hnt fun y hy => ⟨_, _, rfl, ?_⟩⟩⟩
  dsimp only
  rw [aftL_nil]
  have two : ∀ x, tm x → pTwo { nx := nx, rt := (endF T).rt, bk := mRet [4] (mCB tupleD (maCons (mVar 4) maNil)) (endF T), ct := nx } (pEnv ns ss sh es (some (false, .int (0 + (i : Nat)))) (some (false, kd x)) (some (false, kd y))) := fun x hx =>
    go_two hs (by omega) hst h1 h2 hx hy (by omega) fun x y e he => hnx _ ⟨es ++ [e], _, _, _, rfl, by rw [List.length_append, hl]; rfl, fun f hf => by
      rcases List.mem_append.mp hf with h | h
      · exact ht f h
      · have : f = e := by simpa using h
        rw [this]; exact he⟩
  refine ⟨.int (0 + (i : Nat)), rfl, .bl (decide (0 < 0 + (i : Int))), rfl, _, rfl, ?_⟩
  by_cases hz : 0 < (i : Nat)
  · rw [decide_eq_true (by omega)]
    refine ⟨.pur, rfl, call_draw (by decide) (by decide) fun j j0 j1 => ⟨_, eqInt _ _, _, rfl, ?_⟩⟩
    cases decide (j = 0) with
    | true =>
      obtain ⟨e, he⟩ : ∃ e, es[es.length - 1]? = some e := ⟨es[es.length - 1], List.getElem?_eq_getElem (by omega)⟩
      have hem : e ∈ es := by
        have h := (List.getElem?_eq_some_iff.mp he).1
        rw [List.getElem?_eq_getElem h] at he
        rw [← Option.some.inj he]
        exact List.getElem_mem h
      refine ⟨.lst (es.map eqd), rfl, _, rfl, eqd e, ?_, kd e.2, rfl, ?_⟩
      · exact at_last (by rw [List.length_map, List.getElem?_map, he]; rfl) (by rw [List.length_map]; omega)
      · dsimp only
        rw [aft_lf tm.lf]
        exact two _ (ht e hem).2
    | false => exact two _ hx
  · rw [decide_eq_false (by omega)]
    exact two _ hx
end K07

/-! k07: equations that say nothing; what beginnings tell. -/
namespace K07
open PySem PySem.Spec PyProof.Rows L2 Evl BV
theorem rng_at {n : Int} {i : Nat} {d : D} (h : (rngL 0 n.toNat)[i]? = some d) : i < n.toNat ∧ d = .int (0 + (i : Nat)) := by
  have hi := (List.getElem?_eq_some_iff.mp h).1
  rw [rng_len] at hi
  unfold rngL at h
  rw [List.getElem?_map, List.getElem?_range (by omega)] at h
  exact ⟨hi, (Option.some.inj h).symm⟩
def sp_idle : SpD := fun ds T => ∃ es : Eqs, ds = [.pur, .tup (es.map eqd)] ∧ es ≠ [] ∧ es.length ≤ 100 ∧ tmE es ∧ ∀ js : Eqs, js.length ≤ 3 → (∀ e ∈ js, e.1 = e.2) → tmE js → T (.tup (js.map eqd))
theorem snoc_eqd (es : Eqs) (e : Ky × Ky) : es.map eqd ++ [eqd e] = (es ++ [e]).map eqd := by simp
theorem tmE.snoc {es : Eqs} {e : Ky × Ky} (h : tmE es) (he : tm e.1 ∧ tm e.2) : tmE (es ++ [e]) := fun f hf => by
  rcases List.mem_append.mp hf with q | q
  · exact h f q
  · have : f = e := by simpa using q
    rw [this]; exact he
theorem says_idle : ∀ ds T, sp_idle ds T → spOf 2 N_idle.length (m_idle spDraw sp_pick) ds T := by
  rintro ds T ⟨es, rfl, h0, hl, ht, hT⟩
  refine ⟨rfl, rfl, rfl, ?_⟩
  refine ⟨.pur, rfl, call_draw (by decide) (by decide) fun k k0 k1 => ⟨k, rfl, by omega, by omega, ?_⟩⟩
  refine forGo_inv (fun i env => ∃ js s3 s4, env = [some (false, .pur), some (false, .tup (es.map eqd)), some (true, .lst (js.map eqd)), s3, s4] ∧ js.length = i ∧ (∀ e ∈ js, e.1 = e.2) ∧ tmE js) ⟨[], none, none, rfl, rfl, (fun e he => by cases he), fun e he => by cases he⟩ ?_ ?_
  · rintro env ⟨js, s3, s4, rfl, hjl, hj, hjt⟩
    rw [rng_len] at hjl
    exact ⟨.lst (js.map eqd), rfl, _, rfl, hT js (by omega) hj hjt⟩
  rintro i d env nx hd ⟨js, s3, s4, rfl, hjl, hj, hjt⟩ hnx
  obtain ⟨hi, rfl⟩ := rng_at hd
  refine ⟨_, rfl, ?_⟩
  refine ⟨.pur, rfl, .pur, rfl, .tup (es.map eqd), rfl, (fun d => ∃ e ∈ es, d = eqd e), .inl ⟨_, .inr rfl, (fun e => h0 (List.map_eq_nil_iff.mp e)), by rw [List.length_map]; omega, fun x hx => ?_⟩, fun d hd => ?_⟩
  · obtain ⟨e, h1, h2⟩ := List.mem_map.mp hx
    exact ⟨e, h1, h2.symm⟩
  obtain ⟨e, he, rfl⟩ := hd
  refine ⟨(fun d => ∃ t, tm t ∧ d = kd t), .inl ⟨_, .inr rfl, (fun e => by cases e), by show 2 ≤ _; decide, fun x hx => ?_⟩, fun d hd => ?_⟩
  · simp only [List.mem_cons, List.not_mem_nil, or_false] at hx
    rcases hx with h | h
    · exact ⟨e.1, (ht e he).1, h⟩
    · exact ⟨e.2, (ht e he).2, h⟩
  obtain ⟨t, htt, rfl⟩ := hd
  dsimp only
  rw [aft_nil]
  refine ⟨⟨_, rfl⟩, kd t, rfl, kd t, rfl, rfl, ?_⟩
  dsimp only
  rw [aft_nil]
  refine ⟨js.map eqd, rfl, sz_of (by rw [List.length_map]; omega), hnx _ ⟨js ++ [(t, t)], some (false, .int (0 + (i : Nat))), some (false, kd t), ?_, by rw [List.length_append, hjl]; rfl, fun f hf => ?_, tmE.snoc hjt ⟨htt, htt⟩⟩⟩
  · rw [← snoc_eqd]; rfl
  · rcases List.mem_append.mp hf with q | q
    · exact hj f q
    · have : f = (t, t) := by simpa using q
      rw [this]
/-- the place, if the beginning has it -/
def cutO (o : Option Nat) (m : Nat) : Option Nat := o.bind fun p => if p < m then some p else none
theorem pl_small {es : Eqs} {o : Option Nat} (h : IsPl es o) (hl : es.length ≤ 100) : ∀ p, o = some p → p ≤ 1000 := fun p e => by
  subst e
  have := h.1
  omega
theorem cut_small {o : Option Nat} {m : Nat} (h : ∀ p, o = some p → p ≤ 1000) : ∀ p, cutO o m = some p → p ≤ 1000 := fun p e => by
  cases o with
  | none => cases e
  | some q =>
    have e' : (if q < m then some q else none) = some p := e
    split at e'
    · cases e'; exact h _ rfl
    · cases e'
def sp_are_beginnings_told : SpD := fun ds T => ∃ (es : Eqs) (o : Option Nat), ds = [.tup (es.map eqd), optD o] ∧ es.length ≤ 29 ∧ tmE es ∧ IsPl es o ∧ T (.bl true)
theorem own_cut {env : BV.Env} {o : Option Nat} {m : Nat} (h1 : env[1]? = some (some (optD o))) (h2 : env[2]? = some (some (.int (0 + (m : Nat))))) : Ev (mIf (mAndT (tBl (mOp (isU true) (mVar 1) (mC .non))) (tBl (mOp gtD (mVar 2) (mVar 1)))) (mVar 1) (mC .non)) env (optD (cutO o m)) := fun R r => by
  cases o with
  | none => exact ⟨_, h1, _, rfl, false, rfl, r⟩
  | some p =>
    refine ⟨_, h1, _, rfl, true, rfl, _, h2, _, h1, _, rfl, _, rfl, ?_⟩
    by_cases h : p < m
    · rw [decide_eq_true (by omega)]
      have : cutO (some p) m = some p := if_pos h
      rw [this] at r
      exact ⟨_, h1, r⟩
    · rw [decide_eq_false (by omega)]
      have : cutO (some p) m = none := if_neg h
      rw [this] at r
      exact r
theorem tmE.take {es : Eqs} (h : tmE es) (n : Nat) : tmE (es.take n) := fun e he => h e (List.mem_of_mem_take he)
theorem says_are_beginnings_told : ∀ ds T, sp_are_beginnings_told ds T → spOf 2 N_are_beginnings_told.length (m_are_beginnings_told (sp_told sp_variables_of)) ds T := by
  rintro ds T ⟨es, o, rfl, hl, ht, hp, hT⟩
  refine ⟨rfl, .tup (es.map eqd), rfl, .int (es.length : Nat), (by show some (D.int _) = _; rw [List.length_map]), .int ((es.length : Nat) + 1), rfl, (es.length : Nat) + 1, rfl, by omega, by omega, ?_⟩
  refine forGo_inv (fun i env => ∃ s2 s3, env = [some (false, .tup (es.map eqd)), some (false, optD o), s2, s3]) ⟨none, none, rfl⟩ ?_ ?_
  · rintro env ⟨s2, s3, rfl⟩
    exact hT
  rintro i d env nx hd ⟨s2, s3, rfl⟩ hnx
  obtain ⟨hi, rfl⟩ := rng_at hd
  refine ⟨_, rfl, own_cut (o := o) (m := i) rfl rfl _ ?_⟩
  dsimp only
  rw [aft_nil]
  refine ⟨.tup (es.map eqd), rfl, .int (0 + (i : Nat)), rfl, 0 + (i : Nat), rfl, .tup ((es.take i).map eqd), ?_, ?_⟩
  · show some (D.tup (cutD (es.map eqd) none (some (0 + (i : Int))))) = _
    rw [Int.zero_add, cutTake, List.map_take]
  have hi' : i ≤ es.length := by omega
  refine ⟨.int (0 + (i : Nat)), rfl, _, rfl, _, rfl, _, eqInt _ _, call_told (tmE.take ht i) (by rw [List.length_take]; omega) fun o' ho' => ?_⟩
  have e : o' = cutO o i := ho'.uniq (hp.cut i hi')
  subst e
  have hr := optD_rl (cut_small (m := i) (pl_small hp (by omega)))
  refine ⟨_, hr.repr (by decide) (by decide), _, rfl, _, hr.repr (by decide) (by decide), _, hr.same_ne, _, rfl, ?_⟩
  exact hnx _ ⟨_, _, rfl⟩
end K07

/-! k07: equations put otherwise. -/
namespace K07
open PySem PySem.Spec PyProof.Rows L2 Evl BV
def sp_is_moved : SpD := fun ds T => ∃ (es : Eqs) (o : Option Nat), ds = [.pur, .tup (es.map eqd), optD o] ∧ es ≠ [] ∧ es.length ≤ 14 ∧ tmE es ∧ IsPl es o ∧ T (.bl true)
theorem swap_map (es : Eqs) : (swapE es).map eqd = es.map fun e => D.tup [kd e.2, kd e.1] := by
  unfold swapE
  rw [List.map_map]
  rfl
theorem swap_tm {es : Eqs} (h : tmE es) : tmE (swapE es) := fun e he => by
  have := h _ (mem_swap.mp he)
  exact ⟨this.2, this.1⟩
theorem swap_len (es : Eqs) : (swapE es).length = es.length := by unfold swapE; rw [List.length_map]
theorem twice_tm {es : Eqs} (h : tmE es) : tmE (twiceE es) := fun e he => h e (mem_twice.mp he)
theorem twice_snoc : ∀ (es : Eqs) (e : Ky × Ky), twiceE (es ++ [e]) = twiceE es ++ [e, e]
  | [], e => rfl
  | f :: r, e => by
    show f :: f :: twiceE (r ++ [e]) = f :: f :: (twiceE r ++ [e, e])
    rw [twice_snoc r e]
theorem app_tm {es fs : Eqs} (h : tmE es) (k : tmE fs) : tmE (es ++ fs) := fun e he => (List.mem_append.mp he).elim (h e) (k e)
theorem add_eqs {es fs : Eqs} (h : es.length + fs.length ≤ 1000) : addD (.tup (es.map eqd)) (.tup (fs.map eqd)) = some (.tup ((es ++ fs).map eqd)) := by
  rw [add_tup (by rw [List.length_map, List.length_map]; omega), List.map_append]
theorem optD_mul (o : Option Nat) : optD (o.map (2 * ·)) = match o with | none => .non | some p => .int (2 * (p : Nat)) := by
  cases o with
  | none => rfl
  | some p => exact congrArg D.int (by push_cast; rfl)
/-- whether it is None -/
theorem isNone_ev {i : Nat} {env : BV.Env} {o : Option Nat} (h : env[i]? = some (some (optD o))) : Ev (mOp (isU false) (mVar i) (mC .non)) env (.bl o.isNone) := fun R r => by
  cases o with
  | none => exact ⟨_, h, _, rfl, r⟩
  | some p => exact ⟨_, h, _, rfl, r⟩
theorem ne_bl (a b : Bool) : neD (.bl a) (.bl b) = some (.bl (a != b)) := by cases a <;> cases b <;> rfl
def mvLast : MS := mSeq (mFor [10] (mSeqI (mLst (maCons (mCB tupleD (maCons (mVar 10) maNil)) (maCons (mBack (mVar 1)) maNil)))) (.nm 12)
    (mSeq (mAsg [] 13 (mCall sp_place (maCons (mVar 12) maNil)))
    (mIfS [] (mOrT (tBl (mOp neD (mOp (isU false) (mVar 13) (mC .non)) (mOp (isU false) (mVar 2) (mC .non)))) (tBl (mOp neD (mCB repr2D (maCons (mCall (sp_told sp_variables_of) (maCons (mVar 12) (maCons (mC (.bl false)) maNil))) maNil)) (mCB repr2D (maCons (mVar 13) maNil)))))
    (mRet [] (mC (.bl false)))
    mNext)))
    (mRet [] (mC (.bl true)))
theorem go_last {es fs : Eqs} {o : Option Nat} {E : EndD} {s3 s4 s5 s6 s7 s8 s9 s11 s12 s13 s14 s15 : Option (Bool × D)} (ht : tmE es) (hl : es.length ≤ 29) (hp : IsPl es o) (hf : fs.Perm es) (hT : E.rt (.bl true)) :
    mvLast E [some (false, .pur), some (false, .tup (es.map eqd)), some (false, optD o), s3, s4, s5, s6, s7, s8, s9, some (true, .lst (fs.map eqd)), s11, s12, s13, s14, s15] := by
  have hrev : (es.map eqd).reverse = es.reverse.map eqd := by rw [List.map_reverse]
  refine ⟨.lst (fs.map eqd), rfl, _, rfl, .tup (es.map eqd), rfl, .tup (es.reverse.map eqd), (by show some (D.tup _) = _; rw [hrev]), rfl, [.tup (fs.map eqd), .tup (es.reverse.map eqd)], rfl, ?_⟩
  refine forGo_inv (fun i env => ∃ s3 s4 s5 s6 s7 s8 s9 s10 s11 s12 s13 s14 s15, env = [some (false, .pur), some (false, .tup (es.map eqd)), some (false, optD o), s3, s4, s5, s6, s7, s8, s9, s10, s11, s12, s13, s14, s15]) ?_ ?_ ?_
  · exact ⟨_, _, _, _, _, _, _, _, _, _, _, _, _, rfl⟩
  · rintro env ⟨_, _, _, _, _, _, _, _, _, _, _, _, _, rfl⟩
    exact hT
  rintro i d env nx hd ⟨s3, s4, s5, s6, s7, s8, s9, s10, s11, s12, s13, s14, s15, rfl⟩ hnx
  obtain ⟨gs, rfl, hg⟩ : ∃ gs : Eqs, d = .tup (gs.map eqd) ∧ gs.Perm es := by
    match i, hd with
    | 0, hd => cases hd; exact ⟨fs, rfl, hf⟩
    | 1, hd => cases hd; exact ⟨es.reverse, rfl, List.reverse_perm es⟩
    | _ + 2, hd => simp at hd
  have hgt : tmE gs := fun e he => ht e (hg.mem_iff.mp he)
  have hgl : gs.length ≤ 29 := by rw [hg.length_eq]; exact hl
  refine ⟨_, rfl, ?_⟩
  refine ⟨.tup (gs.map eqd), rfl, (fun d => ∃ o', IsPl gs o' ∧ d = optD o'), ⟨gs, rfl, by omega, hgt, fun o' h => ⟨o', h, rfl⟩⟩, fun d hd => ?_⟩
  obtain ⟨o', ho', rfl⟩ := hd
  dsimp only
  rw [aft_nil]
  have hnn : o'.isNone = o.isNone := by
    have h1 := ho'.clash
    have h2 := hp.clash
    have h3 := clash_perm hg
    cases o' with
    | none => cases o with
      | none => rfl
      | some p => exact absurd rfl (h1.mp (h3.mpr (h2.mpr (by simp))))
    | some q => cases o with
      | none => exact absurd rfl (h2.mp (h3.mp (h1.mpr (by simp))))
      | some p => rfl
  refine isNone_ev (o := o') rfl _ (isNone_ev (o := o) rfl _ ⟨_, ne_bl _ _, _, rfl, ?_⟩)
  rw [hnn]
  have hb : (o.isNone != o.isNone) = false := by cases o <;> rfl
  rw [hb]
  refine ⟨.tup (gs.map eqd), rfl, call_told hgt hgl fun o2 h2 => ?_⟩
  have e := h2.uniq ho'
  subst e
  have hr := optD_rl (pl_small h2 (by omega))
  exact ⟨_, hr.repr (by decide) (by decide), _, rfl, _, hr.repr (by decide) (by decide), _, hr.same_ne, _, rfl, hnx _ ⟨_, _, _, _, _, _, _, _, _, _, _, _, _, rfl⟩⟩
end K07

/-! k07: _law_is_moved. -/
namespace K07
open PySem PySem.Spec PyProof.Rows L2 Evl BV
def swapD : D → D
  | .tup [a, b] => .tup [b, a]
  | d => d
theorem swap_data (es : Eqs) : (es.map eqd).map swapD = (swapE es).map eqd := by
  rw [List.map_map, swap_map]
  rfl
theorem add_lst {a b : List D} (h : a.length + b.length ≤ 4000000) : addD (.lst a) (.lst b) = some (.lst (a ++ b)) := if_pos (sz_of h)
section
variable {env : BV.Env} {o : Option Nat}
theorem two_ev (h : env[2]? = some (some (optD o))) : Ev (mIf (tBl (mOp (isU false) (mVar 2) (mC .non))) (mC .non) (mOp mulD (mC (.int 2)) (mVar 2))) env (optD (o.map (2 * ·))) := fun R r => isNone_ev h _ ⟨_, rfl, by
  cases o with
  | none => exact r
  | some p =>
    refine ⟨.int (p : Nat), h, .int (2 * (p : Nat)), rfl, ?_⟩
    have : optD ((some p).map (2 * ·)) = .int (2 * (p : Nat)) := by
      show D.int ((2 * p : Nat) : Int) = _
      congr 1
    rw [this] at r
    exact r⟩
theorem idle_ev {js : Eqs} (h : env[2]? = some (some (optD o))) (h6 : env[6]? = some (some (.tup (js.map eqd)))) : Ev (mIf (tBl (mOp (isU false) (mVar 2) (mC .non))) (mC .non) (mOp addD (mVar 2) (mCB len3D (maCons (mVar 6) maNil)))) env (optD (o.map (· + js.length))) := fun R r => isNone_ev h _ ⟨_, rfl, by
  cases o with
  | none => exact r
  | some p =>
    refine ⟨.int (p : Nat), h, _, h6, .int (js.length : Nat), (by show some (D.int _) = _; rw [List.length_map]), .int ((p : Int) + (js.length : Nat)), rfl, ?_⟩
    have : optD ((some p).map (· + js.length)) = .int ((p : Int) + (js.length : Nat)) := by
      show D.int ((p + js.length : Nat) : Int) = _
      congr 1
    rw [this] at r
    exact r⟩
theorem len_ev {es : Eqs} (h : env[2]? = some (some (optD o))) (h1 : env[1]? = some (some (.tup (es.map eqd)))) : Ev (mIf (tBl (mOp (isU false) (mVar 2) (mC .non))) (mCB len3D (maCons (mVar 1) maNil)) (mVar 2)) env (optD (some (o.getD es.length))) := fun R r => isNone_ev h _ ⟨_, rfl, by
  cases o with
  | none => exact ⟨_, h1, .int (es.length : Nat), (by show some (D.int _) = _; rw [List.length_map]), r⟩
  | some p => exact ⟨.int (p : Nat), h, r⟩⟩
end
theorem wrong_pl {es : Eqs} {o : Option Nat} (h : IsPl es o) : IsPl (es ++ [(.inl 3, .inl 4)]) (some (o.getD es.length)) := by
  cases o with
  | none => exact h.wrong rfl rfl (fun e => by have := Sum.inl.inj e; omega)
  | some p => exact h.more
theorem says_is_moved : ∀ ds T, sp_is_moved ds T → spOf 3 N_is_moved.length (m_is_moved sp_idle (sp_told sp_variables_of) spDraw sp_place) ds T := by
  rintro ds T ⟨es, o, rfl, h0, hl, ht, hp, hT⟩
  refine ⟨rfl, .tup (es.map eqd), rfl, es.map eqd, rfl, sz_of (by rw [List.length_map]; omega), lcGo_fn swapD _ (fun x hx => ?_) ?_⟩
  · obtain ⟨e, he, rfl⟩ := List.mem_map.mp hx
    exact ⟨_, rfl, fun R S k => ⟨kd e.2, rfl, kd e.1, rfl, rfl, k⟩⟩
  rw [swap_data]
  refine ⟨_, rfl, rfl, _, _, rfl, ?_⟩
  dsimp only
  rw [aftL_nil]
  -- each one twice
  refine ⟨.tup (es.map eqd), rfl, es.map eqd, rfl, ?_⟩
  rw [frz_nil]
  refine forGo_inv (fun i env => ∃ s5, env = [some (false, .pur), some (false, .tup (es.map eqd)), some (false, optD o), some (false, .tup ((swapE es).map eqd)), some (false, .lst ((twiceE (es.take i)).map eqd)), s5, none, none, none, none, none, none, none, none, none, none]) ⟨none, rfl⟩ ?hend ?turn
  case turn =>
    rintro i d env nx hd ⟨s5, rfl⟩ hnx
    rw [List.getElem?_map] at hd
    cases he : es[i]? with
    | none => rw [he] at hd; cases hd
    | some e =>
    rw [he] at hd
    have hde : eqd e = d := Option.some.inj hd
    subst hde
    have hi := (List.getElem?_eq_some_iff.mp he).1
    refine ⟨_, rfl, .lst ((twiceE (es.take i)).map eqd), rfl, eqd e, rfl, eqd e, rfl, rfl, _, add_lst (by rw [List.length_map, twice_len, List.length_take]; simp; omega), ?_⟩
    dsimp only
    rw [aft_nil]
    refine hnx _ ⟨some (false, eqd e), ?_⟩
    have : (twiceE (es.take (i + 1))).map eqd = (twiceE (es.take i)).map eqd ++ [eqd e, eqd e] := by
      rw [List.take_succ_eq_append_getElem hi, twice_snoc, List.map_append]
      rw [List.getElem?_eq_getElem hi] at he
      rw [Option.some.inj he]
      rfl
    rw [this]
    rfl
  rintro env ⟨s5, rfl⟩
  rw [List.length_map, List.take_length]
  refine ⟨.pur, rfl, .tup (es.map eqd), rfl, (fun d => ∃ js : Eqs, d = .tup (js.map eqd) ∧ js.length ≤ 3 ∧ (∀ e ∈ js, e.1 = e.2) ∧ tmE js), ⟨es, rfl, h0, by omega, ht, fun js a b c => ⟨js, rfl, a, b, c⟩⟩, fun d hd => ?_⟩
  obtain ⟨js, rfl, hjl, hj, hjt⟩ := hd
  dsimp only
  rw [aft_nil]
  -- what is told
  have st := swap_tm ht
  have sl := swap_len es
  have tt := twice_tm ht
  have tl := twice_len es
  refine ⟨.tup (es.map eqd), rfl, call_told ht (by omega) fun o1 p1 => ?_⟩
  refine ⟨.tup ((swapE es).map eqd), rfl, call_told st (by omega) fun o2 p2 => ?_⟩
  refine ⟨.lst ((twiceE es).map eqd), rfl, _, rfl, call_told tt (by omega) fun o3 p3 => ⟨rfl, ?_⟩⟩
  have e1 := (p1.uniq hp).symm
  have e2 := (p2.uniq hp.swap).symm
  have e3 := (p3.uniq hp.twice).symm
  subst e1 e2 e3
  dsimp only
  rw [aft_nil]
  refine ⟨.lst _, rfl, .tup (js.map eqd), rfl, .tup (es.map eqd), rfl, _, add_eqs (by omega), call_told (app_tm hjt ht) (by rw [List.length_append]; omega) fun o4 p4 => ?_⟩
  refine ⟨.tup (es.map eqd), rfl, rfl, rfl, _, add_eqs (fs := [(.inl 3, .inl 4)]) (by simp; omega), call_told (tmE.snoc ht ⟨(by show (3 : Int).natAbs ≤ 1000000000; decide), (by show (4 : Int).natAbs ≤ 1000000000; decide)⟩) (by rw [List.length_append]; simp; omega) fun o5 p5 => ?_⟩
  refine ⟨.tup (es.map eqd), rfl, .tup ((swapE es).map eqd), rfl, _, add_eqs (by omega), call_told (app_tm ht st) (by rw [List.length_append]; omega) fun o6 p6 => ⟨rfl, _, rfl, ?_⟩⟩
  have e4 := (p4.uniq (hp.idle hj)).symm
  have e5 := (p5.uniq (wrong_pl hp)).symm
  have e6 := (p6.uniq hp.about).symm
  subst e4 e5 e6
  dsimp only
  rw [aft_nil]
  -- what is due
  refine ⟨_, rfl, _, rfl, two_ev rfl _ (idle_ev rfl rfl _ ⟨rfl, ?_⟩)⟩
  dsimp only
  rw [aft_nil]
  refine ⟨_, rfl, len_ev rfl rfl _ ⟨_, rfl, rfl, _, rfl, ?_⟩⟩
  dsimp only
  rw [aft_nil]
  -- both are shown alike
  have hsm := pl_small hp (by omega)
  have hrl : RL 1 200 (.lst ([optD o, optD o, optD (o.map (2 * ·))] ++ [optD (o.map (· + js.length)), optD (some (o.getD es.length)), optD o])) := by
    refine (RL.lst (k := 0) (m := 11) fun d hd => ?_).mono (Nat.le_refl _) (by simp)
    have s1 := optD_rl hsm
    have hlt : ∀ p, o = some p → p < es.length := fun p e => by subst e; exact hp.1
    simp only [List.cons_append, List.nil_append, List.mem_cons, List.not_mem_nil, or_false] at hd
    rcases hd with rfl | rfl | rfl | rfl | rfl | rfl
    · exact s1
    · exact s1
    · refine optD_rl fun p e => ?_
      cases o with
      | none => cases e
      | some q => cases e; have := hlt q rfl; show 2 * q ≤ _; omega
    · refine optD_rl fun p e => ?_
      cases o with
      | none => cases e
      | some q => cases e; have := hlt q rfl; show q + js.length ≤ _; omega
    · refine optD_rl fun p e => ?_
      cases o with
      | none => cases e; show es.length ≤ _; omega
      | some q => cases e; have := hlt q rfl; show q ≤ _; omega
    · exact s1
  refine ⟨_, rfl, _, hrl.repr (by decide) (by decide), _, rfl, _, hrl.repr (by decide) (by decide), _, hrl.same_ne, _, rfl, ?_⟩
  -- mixed
  refine ⟨.tup (es.map eqd), rfl, es.map eqd, rfl, rfl, (by rw [List.append_nil]; exact eqs_lf es), ?_⟩
  refine ⟨.tup (es.map eqd), rfl, .int (es.length : Nat), (by show some (D.int _) = _; rw [List.length_map]), (es.length : Nat), rfl, by omega, by omega, ?_⟩
  refine forGo_inv (fun i env => ∃ (rs ms : Eqs) (s3 s4 s5 s6 s7 s8 s11 : Option (Bool × D)), env = [some (false, .pur), some (false, .tup (es.map eqd)), some (false, optD o), s3, s4, s5, s6, s7, s8, some (true, .lst (rs.map eqd)), some (true, .lst (ms.map eqd)), s11, none, none, none, none] ∧ (ms ++ rs).Perm es ∧ ms.length = i) ⟨es, [], _, _, _, _, _, _, _, rfl, List.Perm.refl _, rfl⟩ ?hend2 ?turn2
  case turn2 =>
    rintro i d env nx hd ⟨rs, ms, s3, s4, s5, s6, s7, s8, s11, rfl, hperm, hml⟩ hnx
    obtain ⟨hi, rfl⟩ := rng_at hd
    have hlen := hperm.length_eq
    rw [List.length_append] at hlen
    have hr0 : 1 ≤ rs.length := by omega
    refine ⟨_, rfl, ⟨_, rfl⟩, ⟨_, rfl⟩, (by decide), .pur, rfl, .lst (rs.map eqd), rfl, .int (rs.length : Nat), (by show some (D.int _) = _; rw [List.length_map]), call_draw (by omega) (by omega) fun j j0 j1 => ?_⟩
    have hj : j.toNat < rs.length := by omega
    refine ⟨j, ms.map eqd, rs.map eqd, eqd rs[j.toNat], rfl, (by rw [aft_lf rfl]; rfl), (by rw [aft_lf rfl]; rfl), j0, by omega, (by rw [List.getElem?_map, List.getElem?_eq_getElem hj]; rfl), sz_of (by rw [List.length_map]; omega), ?_⟩
    rw [aft_lf rfl]
    refine hnx _ ⟨rs.eraseIdx j.toNat, ms ++ [rs[j.toNat]], s3, s4, s5, s6, s7, s8, some (false, .int (0 + (i : Nat))), ?_, ?_, by rw [List.length_append, hml]; rfl⟩
    · rw [← snoc_eqd, map_erase]
      rfl
    · rw [List.append_assoc]
      exact (List.Perm.append_left ms (erase_perm rs j.toNat hj)).trans hperm
  rintro env ⟨rs, ms, s3, s4, s5, s6, s7, s8, s11, rfl, hperm, hml⟩
  rw [rng_len] at hml
  have hlen := hperm.length_eq
  rw [List.length_append] at hlen
  have hrs : rs = [] := List.eq_nil_of_length_eq_zero (by omega)
  subst hrs
  rw [List.append_nil] at hperm
  exact go_last ht (by omega) hp hperm hT
end K07

/-! k07: the law. -/
namespace K07
open PySem PySem.Spec PyProof.Rows L2 Evl BV
def eA : Eqs := [(.inr (Str.ofString "?a"), .inl 3), (.inr (Str.ofString "?b"), .inl 4), (.inr (Str.ofString "?c"), .inr (Str.ofString "?a")), (.inr (Str.ofString "?b"), .inr (Str.ofString "?c")), (.inr (Str.ofString "bo"), .inl 1)]
def eC : Eqs := [(.inl 3, .inl 3), (.inl 3, .inr (Str.ofString "bo"))]
def eD : Eqs := [(.inr (Str.ofString "?a"), .inr (Str.ofString "?b")), (.inr (Str.ofString "?b"), .inl 1), (.inl 2, .inr (Str.ofString "?a"))]
def tmB : Ky → Bool
  | .inl i => decide (i.natAbs ≤ 1000000000)
  | .inr s => decide (s.length ≤ 60) && s.cps.toList.all fun c => decide (c = 10 ∨ 32 ≤ c ∧ c ≤ 126)
theorem tmB_ok {t : Ky} (h : tmB t = true) : tm t := by
  cases t with
  | inl i => exact (show i.natAbs ≤ 1000000000 from of_decide_eq_true h)
  | inr s =>
    obtain ⟨h1, h2⟩ := Bool.and_eq_true_iff.mp h
    exact ⟨of_decide_eq_true h1, fun c hc => by simpa using List.all_eq_true.mp h2 c hc⟩
theorem tmE_ok {es : Eqs} (h : es.all (fun e => tmB e.1 && tmB e.2) = true) : tmE es := fun e he => by
  obtain ⟨h1, h2⟩ := Bool.and_eq_true_iff.mp (List.all_eq_true.mp h e he)
  exact ⟨tmB_ok h1, tmB_ok h2⟩
theorem plA : plU eA = some 3 := by decide +kernel
theorem plB : plU [] = none := rfl
theorem plC : plU eC = some 1 := by decide +kernel
theorem plD : plU eD = some 2 := by decide +kernel
theorem told_is {es : Eqs} {b : Bool} {o : Option Nat} {Q : D → Prop} (h : tmE es) (hl : es.length ≤ 29) (e : plU es = o) (k : Q (optD o)) : ∃ T : D → Prop, sp_told sp_variables_of [.tup (es.map eqd), .bl b] T ∧ ∀ d, T d → Q d :=
  call_told h hl fun o' h' => by
    rw [h'.uniq (plU_is es), e]
    exact k
theorem says_law (E : EndD) (hT : E.rt (.bl true)) : m_law sp_terms sp_pairs sp_place sp_are_beginnings_told sp_is_moved (sp_told sp_variables_of) E [none, some (false, .pur), none, none, none, none, none, none] := by
  refine ⟨5, rfl, by decide, by decide, ?_⟩
  refine forGo_inv (fun i env => ∃ s2 s3 s4 s5 s6, env = [none, some (false, .pur), s2, s3, s4, s5, s6, none]) ⟨_, _, _, _, _, rfl⟩ ?hend ?turn
  case turn =>
    rintro i d env nx hd ⟨s2, s3, s4, s5, s6, rfl⟩ hnx
    refine ⟨_, rfl, ?_⟩
    refine ⟨.pur, rfl, (fun d => ∃ ns ss : List Ky, (ns ≠ [] ∧ ss ≠ [] ∧ ns.length ≤ 7 ∧ ss.length ≤ 4 ∧ (∀ t ∈ ns, tm t) ∧ ∀ t ∈ ss, tm t) ∧ d = .lst [.lst (ns.map kd), .lst (ss.map kd)]), ⟨rfl, fun ns ss a b c d e f => ⟨ns, ss, ⟨a, b, c, d, e, f⟩, rfl⟩⟩, fun d hd => ?_⟩
    obtain ⟨ns, ss, ⟨n0, s0, nl, sl, nt, st⟩, rfl⟩ := hd
    rw [aft_nil]
    refine ⟨_, _, rfl, rfl, rfl, ?_⟩
    refine ⟨.pur, rfl, .lst (ns.map kd), rfl, .lst (ss.map kd), rfl, (fun d => ∃ es : Eqs, (es ≠ [] ∧ es.length ≤ 14 ∧ tmE es) ∧ d = .tup (es.map eqd)), ⟨ns, ss, rfl, n0, s0, nl, sl, nt, st, fun es a b c => ⟨es, ⟨a, b, c⟩, rfl⟩⟩, fun d hd => ?_⟩
    obtain ⟨es, ⟨h0, hl, ht⟩, rfl⟩ := hd
    dsimp only
    rw [aft_nil]
    refine ⟨.tup (es.map eqd), rfl, (fun d => ∃ o, IsPl es o ∧ d = optD o), ⟨es, rfl, by omega, ht, fun o h => ⟨o, h, rfl⟩⟩, fun d hd => ?_⟩
    obtain ⟨o, hp, rfl⟩ := hd
    dsimp only
    rw [aft_nil]
    refine ⟨.tup (es.map eqd), rfl, optD o, rfl, (fun d => d = .bl true), ⟨es, o, rfl, by omega, ht, hp, rfl⟩, fun d hd => ?_⟩
    subst hd
    refine ⟨true, rfl, ?_⟩
    refine ⟨.pur, rfl, .tup (es.map eqd), rfl, optD o, rfl, (fun d => d = .bl true), ⟨es, o, rfl, h0, hl, ht, hp, rfl⟩, fun d hd => ?_⟩
    subst hd
    exact ⟨true, rfl, hnx _ ⟨_, _, _, _, _, rfl⟩⟩
  rintro env ⟨s2, s3, s4, s5, s6, rfl⟩
  refine ⟨rfl, rfl, rfl, rfl, rfl, rfl, told_is (es := eA) (tmE_ok (by decide +kernel)) (by decide) plA ?_⟩
  refine ⟨rfl, told_is (es := []) (tmE_ok rfl) (by decide) plB ⟨rfl, ?_⟩⟩
  dsimp only
  rw [aft_nil]
  refine ⟨_, rfl, rfl, rfl, rfl, told_is (es := eC) (tmE_ok (by decide +kernel)) (by decide) plC ?_⟩
  refine ⟨rfl, rfl, rfl, rfl, told_is (es := eD) (tmE_ok (by decide +kernel)) (by decide) plD ⟨rfl, _, rfl, ?_⟩⟩
  dsimp only
  rw [aft_nil]
  have hrl : RL 1 200 (.lst ([optD (some 3), optD none] ++ [optD (some 1), optD (some 2)])) := by
    refine (RL.lst (k := 0) (m := 11) fun d hd => ?_).mono (Nat.le_refl _) (by simp)
    simp only [List.cons_append, List.nil_append, List.mem_cons, List.not_mem_nil, or_false] at hd
    rcases hd with rfl | rfl | rfl | rfl
    · exact optD_rl fun p e => by cases e; decide
    · exact optD_rl fun p e => by cases e
    · exact optD_rl fun p e => by cases e; decide
    · exact optD_rl fun p e => by cases e; decide
  exact ⟨_, rfl, _, hrl.repr (by decide) (by decide), rfl, _, hrl.repr (by decide) (by decide), _, hrl.same_eq, hT⟩
end K07

/-! The purse is made. -/
namespace K07
open PySem PySem.Spec PyProof.Rows L2 Evl BV
theorem sc_purse : FnScope N_purse ["_law_script"] (defScope s_purse) := ⟨rfl, rfl, rfl, by decide +kernel, rfl, by decide +kernel, by decide +kernel⟩
def spPurse (K : PySem.W.Frag) : Sp := fun vs H Q _ => ∃ (a : Addr) (ns : List Int), vs = [.ref a] ∧ SqL K H a (ns.map V.int) ∧ ns.length ≤ 63 ∧ ∀ (z : Pz) H', Pur z (fun _ => none) H' → Q (.ref z.p) H'
theorem cut_map {ns : List Int} {lo hi : Option Int} : cutV (ns.map V.int) lo hi = (BV.cutD ns lo hi).map V.int := by
  unfold cutV BV.cutD
  rw [List.length_map, ← List.map_drop, ← List.map_take]
section
variable {P : Program} {w : World} {K : PySem.W.Frag} {mg : Str → Option Value} {base : Heap}
theorem ok_purse {f : Addr} {fd : FuncData} (F : Fun K "_law_purse" "_law_purse" s_purse f fd) (ml : mg "len" = none) (ms : mg "sum" = none) : FnG P w K mg base CX0 1 f fd ["_law_script"] (spPurse K) := by
  have nd := sc_purse.nd
  refine fnG_of F sc_purse (fun vs H Q E ⟨a, ns, e, _⟩ => by rw [e]; rfl) fun cdv A out s H vs Q E hr gd ⟨a, ns, e, hS, hl, q⟩ => ?_
  subst e
  refine ⟨_, (pss_cons (ps_setLc (i := 1) (own := [("_law_cell", 2)]) (g := gName 2) (tt := tYes) rfl nd rfl rfl (sw_true rfl rfl rfl (by decide +kernel)) (pi_list (pe_slice sl_list (pv 0) po_none (po_some pe_int))) (blkOk_by (N := N_purse) (sc := defScope s_purse) (by decide +kernel)) (fun _ _ _ _ _ => pg_name (i := 2) nd rfl (Or.inl rfl)) (fun _ _ _ _ _ => pts_nil)
      (fun _ _ _ _ _ => pe_ifExp (pt_cmpR op_ge (pv 2) pe_int (nomark _)) (pe_op op_mul pe_int (pv 2)) (pe_op op_sub (pe_op op_mul (pe_un un_neg pe_int) (pv 2)) pe_int)))
    (pss_one (ps_ret (pe_lst (pa_cons (pe_lc (own := [("_law_cell", 2)]) (g := gName 2) (by rfl) nd (pi_list (pv 1)) (blkOk_by (N := N_purse) (sc := defScope s_purse) (by decide +kernel)) (fun _ _ _ _ _ => pg_name (i := 2) nd rfl (Or.inl rfl)) (fun _ _ _ _ _ => pts_one (pt_cmpR op_ge (pv 2) (pe_op op_pow pe_int pe_int) (nomark _))) (fun _ _ _ _ _ => pv 2))
      (pa_cons (pe_op op_cat (pv 1) (pe_lst (pa_cons (pe_op op_add (pe_callB call_len_seq (by rfl) ml PySem.boot_len (pa_cons (pv 1) pa_nil)) pe_int) pa_nil)))
      (pa_cons (pe_callB (cr_sum (by rfl)) (by rfl) ms (by rfl) (pa_cons (pv 1) pa_nil))
      (pa_cons pe_int pa_nil)))))) ) : PSs _ (defBody s_purse) _).nox, ?_⟩
  -- script[:63]
  refine ⟨.ref a, rfl, 63, rfl, a, ns.map V.int, rfl, hS, fun p hp => ⟨p, rfl, ⟨_, sq_of upd_same⟩, fun D hD => ?_⟩⟩
  rw [cut_map] at hD ⊢
  have hml : (BV.cutD ns none (some 63)).length ≤ 63 := by
    have : (BV.cutD ns none (some 63)).length ≤ ns.length := by
      simp only [BV.cutD, List.length_take, List.length_drop]
      omega
    omega
  generalize BV.cutD ns none (some 63) = cs at hD hml ⊢
  have npD : p ≠ D := fun e => by rw [e, upd_same] at hD; cases hD
  let g : Int → Int := fun c => if 0 ≤ c then 2 * c else -2 * c - 1
  refine lc_list (xs := cs.map V.int) (fun i H' => H' p = some (.lst (cs.map V.int)) ∧ H' D = some (.lst (((cs.take i).map g).map V.int))) ⟨by rw [upd_ne npD]; exact upd_same, by rw [upd_same]; rfl⟩ (fun i H' _ h => sq_of h.1) (fun i x H' hx h => ?_) (fun H' h => ?_)
  · rw [List.getElem?_map] at hx
    obtain ⟨c, hc, rfl⟩ := Option.map_eq_some_iff.mp hx
    have go : ∀ y, y = g c → ∃ acc, H' D = some (.lst acc) ∧ acc.length < sizeLine ∧ ((upd H' D (.lst (acc ++ [V.int y]))) p = some (.lst (cs.map V.int)) ∧ (upd H' D (.lst (acc ++ [V.int y]))) D = some (.lst (((cs.take (i + 1)).map g).map V.int))) := fun y hy => by
      refine ⟨_, h.2, ?_, by rw [upd_ne npD]; exact h.1, ?_⟩
      · have e : sizeLine = 16777216 := sizeLine_eq
        rw [List.length_map, List.length_map, List.length_take]
        omega
      · rw [upd_same, hy, List.take_add_one, hc]
        simp
    refine ⟨rfl, ?_⟩
    dsimp only [tYes]
    rw [if_pos rfl]
    refine ⟨.int c, rfl, c, 0, rfl, rfl, _, rfl, ite2 (fun hc0 => ?_) (fun hc0 => ?_)⟩
    · refine ⟨.int c, rfl, 2, c, rfl, rfl, .inl ⟨by decide, by decide⟩, go _ ?_⟩
      have : 0 ≤ c := of_decide_eq_true hc0
      exact (if_pos this).symm
    · refine ⟨2, rfl, .int c, rfl, -2, c, rfl, rfl, .inl ⟨by decide, by decide⟩, -2 * c, 1, rfl, rfl, go _ ?_⟩
      have : ¬ 0 ≤ c := fun z => hc0 (decide_eq_true z)
      exact (if_neg this).symm
  · rw [List.length_map, List.take_length] at h
    have hlen : (cs.map g).length ≤ 63 := by rw [List.length_map]; exact hml
    obtain ⟨_, hD1⟩ := h
    generalize cs.map g = ms' at hD1 hlen
    -- the great ones
    refine ⟨.ref D, rfl, D, rfl, ⟨_, sq_of hD1⟩, fun G hG => ?_⟩
    have nDG : D ≠ G := fun e => by rw [e] at hD1; rw [hD1] at hG; cases hG
    refine lc_list (xs := ms'.map V.int) (fun i H2 => H2 D = some (.lst (ms'.map V.int)) ∧ ∃ gs : List Int, gs.length ≤ i ∧ H2 G = some (.lst (gs.map V.int))) ⟨by rw [upd_ne nDG]; exact hD1, [], Nat.le_refl _, by rw [upd_same]; rfl⟩ (fun i H2 _ h => sq_of h.1) (fun i x H2 hx h => ?_) (fun H2 h => ?_)
    · rw [List.getElem?_map] at hx
      obtain ⟨c, hc, rfl⟩ := Option.map_eq_some_iff.mp hx
      obtain ⟨h1, gs, h2, h3⟩ := h
      have hi := (List.getElem?_eq_some_iff.mp hc).1
      refine ⟨rfl, .int c, rfl, 10, 18, rfl, rfl, ⟨by decide, by decide, by decide⟩, c, _, rfl, rfl, _, rfl, ite2 (fun _ => ?_) (fun _ => ?_)⟩
      · refine ⟨.int c, rfl, _, h3, ?_, by rw [upd_ne nDG]; exact h1, gs ++ [c], by simp; omega, by rw [upd_same]; simp⟩
        have e : sizeLine = 16777216 := sizeLine_eq
        rw [List.length_map]
        omega
      · exact ⟨h1, gs, by omega, h3⟩
    · rw [List.length_map] at h
      obtain ⟨h1, gs, h2, h3⟩ := h
      have e : sizeLine = 16777216 := sizeLine_eq
      -- cells + [len(cells) + 8191]
      refine ⟨.ref D, rfl, .ref D, rfl, D, _, rfl, .inl (sq_of h1), _, 8191, rfl, rfl, Nat.le_trans (by decide : 1 ≤ 16777216) (Nat.le_of_eq e.symm), fun q2 hq2 => ?_⟩
      have nDq : D ≠ q2 := fun e => by rw [e] at h1; rw [h1] at hq2; cases hq2
      have nGq : G ≠ q2 := fun e => by rw [e] at h3; rw [h3] at hq2; cases hq2
      have hD3 : (upd H2 q2 (.lst [.int ((ms'.map V.int).length + 8191)])) D = some (.lst (ms'.map V.int)) := by rw [upd_ne nDq]; exact h1
      have hG3 : (upd H2 q2 (.lst [.int ((ms'.map V.int).length + 8191)])) G = some (.lst (gs.map V.int)) := by rw [upd_ne nGq]; exact h3
      have hq3 : (upd H2 q2 (.lst [.int ((ms'.map V.int).length + 8191)])) q2 = some (.lst [.int ((ms'.map V.int).length + 8191)]) := upd_same
      refine ⟨D, q2, _, _, rfl, rfl, hD3, hq3, by rw [List.length_map, e]; simp; omega, fun C hC => ?_⟩
      generalize upd H2 q2 (.lst [.int ((ms'.map V.int).length + 8191)]) = H3 at hD3 hG3 hC ⊢
      have nDC : D ≠ C := fun e => by rw [e] at hD3; rw [hD3] at hC; cases hC
      have nGC : G ≠ C := fun e => by rw [e] at hG3; rw [hG3] at hC; cases hC
      have hD4 : (upd H3 C (.lst (ms'.map V.int ++ [.int ((ms'.map V.int).length + 8191)]))) D = some (.lst (ms'.map V.int)) := by rw [upd_ne nDC]; exact hD3
      have hG4 : (upd H3 C (.lst (ms'.map V.int ++ [.int ((ms'.map V.int).length + 8191)]))) G = some (.lst (gs.map V.int)) := by rw [upd_ne nGC]; exact hG3
      have hC4 : (upd H3 C (.lst (ms'.map V.int ++ [.int ((ms'.map V.int).length + 8191)]))) C = some (.lst ((ms' ++ [((ms'.map V.int).length : Int) + 8191]).map V.int)) := by rw [upd_same]; simp
      refine ⟨.ref D, rfl, D, ms', rfl, sq_of hD4, Nat.le_trans (by decide : 4 ≤ 16777216) (Nat.le_of_eq e.symm), fun p5 hp5 => ?_⟩
      generalize upd H3 C (.lst (ms'.map V.int ++ [.int ((ms'.map V.int).length + 8191)])) = H4 at hD4 hG4 hC4 hp5 ⊢
      have nGp : G ≠ p5 := fun e => by rw [e] at hG4; rw [hG4] at hp5; cases hp5
      have nCp : C ≠ p5 := fun e => by rw [e] at hC4; rw [hC4] at hp5; cases hp5
      refine q ⟨p5, G, C⟩ _ ⟨⟨gs, ms' ++ [((ms'.map V.int).length : Int) + 8191], ms'.sum, 0, upd_same, by rw [upd_ne nGp]; exact hG4, by rw [upd_ne nCp]; exact hC4, by omega, by simp, by simp; omega⟩, rfl, rfl, rfl, nGp.symm, nCp.symm, nGC⟩
end
end K07

namespace K07
open PySem PySem.Spec PyProof.Rows L2 Evl BV
def spLaw (K : PySem.W.Frag) : Sp := fun vs H Q _ => ∃ (a : Addr) (ns : List Int), vs = [.ref a] ∧ SqL K H a (ns.map V.int) ∧ ns.length ≤ 63 ∧ ∀ H', Q (.bl true) H'
theorem sc_law' : FnScope N_law ["_law_script"] (defScope s_law) := ⟨rfl, rfl, rfl, by decide +kernel, rfl, by decide +kernel, by decide +kernel⟩
theorem law_env : ∀ {i : Nat} {y : Bool × D}, ([none, some (false, .pur), none, none, none, none, none, none] : SEnv)[i]? = some (some y) → i = 1 ∧ y = (false, .pur)
  | 0, y, h => by simp at h
  | 1, y, h => by simp at h; exact ⟨rfl, h.symm⟩
  | 2, y, h => by simp at h
  | 3, y, h => by simp at h
  | 4, y, h => by simp at h
  | 5, y, h => by simp at h
  | 6, y, h => by simp at h
  | 7, y, h => by simp at h
  | n + 8, y, h => by simp at h
theorem ok_law {P : Program} {w : World} {K : PySem.W.Frag} {mg : Str → Option Value} {base : Heap} {f fp : Addr} {fd fdp : FuncData} (F : Fun K "law" "law" s_law f fd)
    (Gp : FnG P w K mg base CX0 1 fp fdp ["_law_script"] (spPurse K)) (bp : Binds K fdp ["_law_script"] []) (kp : PySem.W.keepIn K (.ref fp) = true) (gp : mg "_law_purse" = some (.ref fp)) (bi_range : mg "range" = none) (bi_repr : mg "repr" = none) (G_terms : Kn P w K mg base "_law_terms" 3 ["_law_purse_here"] sp_terms) (G_pairs : Kn P w K mg base "_law_pairs" 3 ["_law_purse_here", "_law_names", "_law_stock"] sp_pairs) (G_place : Kn P w K mg base "_law_place" 1 ["_law_pairs_here"] sp_place) (G_are_beginnings_told : Kn P w K mg base "_law_are_beginnings_told" 5 ["_law_pairs_here", "_law_due"] sp_are_beginnings_told) (G_is_moved : Kn P w K mg base "_law_is_moved" 5 ["_law_purse_here", "_law_pairs_here", "_law_due"] sp_is_moved) (G_told : Kn P w K mg base "_law_told" 4 ["_law_pairs_here", "_law_is_named"] (sp_told sp_variables_of)) : FnG P w K mg base CX0 6 f fd ["_law_script"] (spLaw K) := by
  have nd := sc_law'.nd
  refine fnG_of F sc_law' (fun vs H Q E ⟨a, ns, e, _⟩ => by rw [e]; rfl) fun cdv A out s H vs Q E hr hgd ⟨a, ns, e, hS, hl, q⟩ => ?_
  subst e
  have rd := rd_law (E := E) (out := out) (s := s) (H := H) (cdv := cdv) (f := f) nd hr hgd bi_range bi_repr G_terms G_pairs G_place G_are_beginnings_told G_is_moved G_told
  have rest : PSs (cxOf CX0 P w K mg base N_law "law" (defScope s_law) f cdv A out s H E).nox ((defBody s_law).drop 1) (fun N σ H => ∃ z C0 H0 Cb, liftS K z C0 H0 Cb (m_law sp_terms sp_pairs sp_place sp_are_beginnings_told sp_is_moved (sp_told sp_variables_of)) N σ H) := ⟨fun pins s σ H N I ⟨z, C0, H0, Cb, q⟩ => (rd.run z C0 H0 Cb).run pins s σ H N I q⟩
  refine ⟨_, (pss_cons (ps_set (i := 1) nd rfl (by first | exact .inl rfl | exact .inr rfl) (pe_callG Gp (hr.mono (by decide)) hgd (by rfl) gp kp bp pass0 (pa_cons (pv 0) pa_nil) (by decide) (by rfl) (by rfl))) rest : PSs _ (defBody s_law) _).nox, ?_⟩
  refine ⟨.ref a, rfl, a, ns, rfl, hS, hl, fun z H1 pu => ?_⟩
  have o : Ok z (fun _ => none) H1 := ⟨fun b u e => (nomatch e), pu⟩
  refine ⟨z, fun _ => none, H1, fun _ => none, fun _ => none, [none, some (false, .pur), none, none, none, none, none, none], ⟨o, Tr.refl o, Ex.refl _, rfl, fun i d h => ?_, fun i d h => ?_, fun i j d e a h _ _ _ => ?_⟩, says_law _ fun v C' H' t dn => ?_⟩
  · obtain ⟨rfl, e⟩ := law_env h
    cases e
    exact ⟨.ref z.p, rfl, dn_pur.mpr rfl⟩
  · obtain ⟨_, e⟩ := law_env h
    cases e
  · obtain ⟨_, e⟩ := law_env h
    cases e
  · rw [dn_bl.mp dn]
    exact q H'
end K07

namespace K07
open PySem PySem.Spec PyProof.Rows L2 Evl BV
set_option maxHeartbeats 0 in
theorem all_mk {P : Program} {w : World} {K : PySem.W.Frag} {h : Heap} {mg : Str → Option Value} {fa : Addr} (X : K.In h) (G : h.Ns mainGlobals mg) (hfa : mg "law" = some (.ref fa))
    {f0 : Addr} {od0 an0 : Option Addr} {sl0 : Array (Option Value)} {oc0 kV0 dc0 pm0 cd0 ct0 : Value}
    (a0 : PySem.W.nsIn K mainGlobals "is_free" = some (some (.ref f0))) (l0 : K.lookup f0 = some ⟨oc0, od0, .func (PySem.W.fnOf "is_free" "is_free" (defArgs s_is_free) (defBody s_is_free) (defScope s_is_free) .none kV0 dc0 pm0 an0 cd0 ct0), sl0⟩) (c0 : PySem.W.codeIn K cd0 "is_free" = true) (k0 : PySem.W.keepIn K (.ref f0) = true)
    {f1 : Addr} {od1 an1 : Option Addr} {sl1 : Array (Option Value)} {oc1 kV1 dc1 pm1 cd1 ct1 : Value}
    (a1 : PySem.W.nsIn K mainGlobals "variables_of" = some (some (.ref f1))) (l1 : K.lookup f1 = some ⟨oc1, od1, .func (PySem.W.fnOf "variables_of" "variables_of" (defArgs s_variables_of) (defBody s_variables_of) (defScope s_variables_of) .none kV1 dc1 pm1 an1 cd1 ct1), sl1⟩) (c1 : PySem.W.codeIn K cd1 "variables_of" = true) (k1 : PySem.W.keepIn K (.ref f1) = true)
    {f2 : Addr} {od2 an2 : Option Addr} {sl2 : Array (Option Value)} {oc2 kV2 dc2 pm2 cd2 ct2 : Value}
    (a2 : PySem.W.nsIn K mainGlobals "leader_of" = some (some (.ref f2))) (l2 : K.lookup f2 = some ⟨oc2, od2, .func (PySem.W.fnOf "leader_of" "leader_of" (defArgs s_leader_of) (defBody s_leader_of) (defScope s_leader_of) .none kV2 dc2 pm2 an2 cd2 ct2), sl2⟩) (c2 : PySem.W.codeIn K cd2 "leader_of" = true) (k2 : PySem.W.keepIn K (.ref f2) = true)
    {f3 : Addr} {od3 an3 : Option Addr} {sl3 : Array (Option Value)} {oc3 kV3 dc3 pm3 cd3 ct3 : Value}
    (a3 : PySem.W.nsIn K mainGlobals "made_alike" = some (some (.ref f3))) (l3 : K.lookup f3 = some ⟨oc3, od3, .func (PySem.W.fnOf "made_alike" "made_alike" (defArgs s_made_alike) (defBody s_made_alike) (defScope s_made_alike) .none kV3 dc3 pm3 an3 cd3 ct3), sl3⟩) (c3 : PySem.W.codeIn K cd3 "made_alike" = true) (k3 : PySem.W.keepIn K (.ref f3) = true)
    {f4 : Addr} {od4 an4 : Option Addr} {sl4 : Array (Option Value)} {oc4 kV4 dc4 pm4 cd4 ct4 : Value}
    (a4 : PySem.W.nsIn K mainGlobals "unified" = some (some (.ref f4))) (l4 : K.lookup f4 = some ⟨oc4, od4, .func (PySem.W.fnOf "unified" "unified" (defArgs s_unified) (defBody s_unified) (defScope s_unified) .none kV4 dc4 pm4 an4 cd4 ct4), sl4⟩) (c4 : PySem.W.codeIn K cd4 "unified" = true) (k4 : PySem.W.keepIn K (.ref f4) = true)
    {f5 : Addr} {od5 an5 : Option Addr} {sl5 : Array (Option Value)} {oc5 kV5 dc5 pm5 cd5 ct5 : Value}
    (a5 : PySem.W.nsIn K mainGlobals "_law_purse" = some (some (.ref f5))) (l5 : K.lookup f5 = some ⟨oc5, od5, .func (PySem.W.fnOf "_law_purse" "_law_purse" (defArgs s_purse) (defBody s_purse) (defScope s_purse) .none kV5 dc5 pm5 an5 cd5 ct5), sl5⟩) (c5 : PySem.W.codeIn K cd5 "_law_purse" = true) (k5 : PySem.W.keepIn K (.ref f5) = true)
    {f6 : Addr} {od6 an6 : Option Addr} {sl6 : Array (Option Value)} {oc6 kV6 dc6 pm6 cd6 ct6 : Value}
    (a6 : PySem.W.nsIn K mainGlobals "_law_draw" = some (some (.ref f6))) (l6 : K.lookup f6 = some ⟨oc6, od6, .func (PySem.W.fnOf "_law_draw" "_law_draw" (defArgs s_draw) (defBody s_draw) (defScope s_draw) .none kV6 dc6 pm6 an6 cd6 ct6), sl6⟩) (c6 : PySem.W.codeIn K cd6 "_law_draw" = true) (k6 : PySem.W.keepIn K (.ref f6) = true)
    {f7 : Addr} {od7 an7 : Option Addr} {sl7 : Array (Option Value)} {oc7 kV7 dc7 pm7 cd7 ct7 : Value}
    (a7 : PySem.W.nsIn K mainGlobals "_law_pick" = some (some (.ref f7))) (l7 : K.lookup f7 = some ⟨oc7, od7, .func (PySem.W.fnOf "_law_pick" "_law_pick" (defArgs s_pick) (defBody s_pick) (defScope s_pick) .none kV7 dc7 pm7 an7 cd7 ct7), sl7⟩) (c7 : PySem.W.codeIn K cd7 "_law_pick" = true) (k7 : PySem.W.keepIn K (.ref f7) = true)
    {f8 : Addr} {od8 an8 : Option Addr} {sl8 : Array (Option Value)} {oc8 kV8 dc8 pm8 cd8 ct8 : Value}
    (a8 : PySem.W.nsIn K mainGlobals "_law_terms" = some (some (.ref f8))) (l8 : K.lookup f8 = some ⟨oc8, od8, .func (PySem.W.fnOf "_law_terms" "_law_terms" (defArgs s_terms) (defBody s_terms) (defScope s_terms) .none kV8 dc8 pm8 an8 cd8 ct8), sl8⟩) (c8 : PySem.W.codeIn K cd8 "_law_terms" = true) (k8 : PySem.W.keepIn K (.ref f8) = true)
    {f9 : Addr} {od9 an9 : Option Addr} {sl9 : Array (Option Value)} {oc9 kV9 dc9 pm9 cd9 ct9 : Value}
    (a9 : PySem.W.nsIn K mainGlobals "_law_pairs" = some (some (.ref f9))) (l9 : K.lookup f9 = some ⟨oc9, od9, .func (PySem.W.fnOf "_law_pairs" "_law_pairs" (defArgs s_pairs) (defBody s_pairs) (defScope s_pairs) .none kV9 dc9 pm9 an9 cd9 ct9), sl9⟩) (c9 : PySem.W.codeIn K cd9 "_law_pairs" = true) (k9 : PySem.W.keepIn K (.ref f9) = true)
    {f10 : Addr} {od10 an10 : Option Addr} {sl10 : Array (Option Value)} {oc10 kV10 dc10 pm10 cd10 ct10 : Value}
    (a10 : PySem.W.nsIn K mainGlobals "_law_place" = some (some (.ref f10))) (l10 : K.lookup f10 = some ⟨oc10, od10, .func (PySem.W.fnOf "_law_place" "_law_place" (defArgs s_place) (defBody s_place) (defScope s_place) .none kV10 dc10 pm10 an10 cd10 ct10), sl10⟩) (c10 : PySem.W.codeIn K cd10 "_law_place" = true) (k10 : PySem.W.keepIn K (.ref f10) = true)
    {f11 : Addr} {od11 an11 : Option Addr} {sl11 : Array (Option Value)} {oc11 kV11 dc11 pm11 cd11 ct11 : Value}
    (a11 : PySem.W.nsIn K mainGlobals "_law_told" = some (some (.ref f11))) (l11 : K.lookup f11 = some ⟨oc11, od11, .func (PySem.W.fnOf "_law_told" "_law_told" (defArgs s_told) (defBody s_told) (defScope s_told) .none kV11 dc11 pm11 an11 cd11 ct11), sl11⟩) (c11 : PySem.W.codeIn K cd11 "_law_told" = true) (k11 : PySem.W.keepIn K (.ref f11) = true)
    {f12 : Addr} {od12 an12 : Option Addr} {sl12 : Array (Option Value)} {oc12 kV12 dc12 pm12 cd12 ct12 : Value}
    (a12 : PySem.W.nsIn K mainGlobals "_law_are_beginnings_told" = some (some (.ref f12))) (l12 : K.lookup f12 = some ⟨oc12, od12, .func (PySem.W.fnOf "_law_are_beginnings_told" "_law_are_beginnings_told" (defArgs s_are_beginnings_told) (defBody s_are_beginnings_told) (defScope s_are_beginnings_told) .none kV12 dc12 pm12 an12 cd12 ct12), sl12⟩) (c12 : PySem.W.codeIn K cd12 "_law_are_beginnings_told" = true) (k12 : PySem.W.keepIn K (.ref f12) = true)
    {f13 : Addr} {od13 an13 : Option Addr} {sl13 : Array (Option Value)} {oc13 kV13 dc13 pm13 cd13 ct13 : Value}
    (a13 : PySem.W.nsIn K mainGlobals "_law_idle" = some (some (.ref f13))) (l13 : K.lookup f13 = some ⟨oc13, od13, .func (PySem.W.fnOf "_law_idle" "_law_idle" (defArgs s_idle) (defBody s_idle) (defScope s_idle) .none kV13 dc13 pm13 an13 cd13 ct13), sl13⟩) (c13 : PySem.W.codeIn K cd13 "_law_idle" = true) (k13 : PySem.W.keepIn K (.ref f13) = true)
    {f14 : Addr} {od14 an14 : Option Addr} {sl14 : Array (Option Value)} {oc14 kV14 dc14 pm14 cd14 ct14 : Value}
    (a14 : PySem.W.nsIn K mainGlobals "_law_is_moved" = some (some (.ref f14))) (l14 : K.lookup f14 = some ⟨oc14, od14, .func (PySem.W.fnOf "_law_is_moved" "_law_is_moved" (defArgs s_is_moved) (defBody s_is_moved) (defScope s_is_moved) .none kV14 dc14 pm14 an14 cd14 ct14), sl14⟩) (c14 : PySem.W.codeIn K cd14 "_law_is_moved" = true) (k14 : PySem.W.keepIn K (.ref f14) = true)
    {f15 : Addr} {od15 an15 : Option Addr} {sl15 : Array (Option Value)} {oc15 kV15 dc15 pm15 cd15 ct15 : Value}
    (a15 : PySem.W.nsIn K mainGlobals "law" = some (some (.ref f15))) (l15 : K.lookup f15 = some ⟨oc15, od15, .func (PySem.W.fnOf "law" "law" (defArgs s_law) (defBody s_law) (defScope s_law) .none kV15 dc15 pm15 an15 cd15 ct15), sl15⟩) (c15 : PySem.W.codeIn K cd15 "law" = true) (k15 : PySem.W.keepIn K (.ref f15) = true)
    (z0 : PySem.W.nsIn K mainGlobals "ValueError" = some none)
    (z1 : PySem.W.nsIn K mainGlobals "enumerate" = some none)
    (z2 : PySem.W.nsIn K mainGlobals "int" = some none)
    (z3 : PySem.W.nsIn K mainGlobals "isinstance" = some none)
    (z4 : PySem.W.nsIn K mainGlobals "len" = some none)
    (z5 : PySem.W.nsIn K mainGlobals "list" = some none)
    (z6 : PySem.W.nsIn K mainGlobals "range" = some none)
    (z7 : PySem.W.nsIn K mainGlobals "repr" = some none)
    (z8 : PySem.W.nsIn K mainGlobals "sorted" = some none)
    (z9 : PySem.W.nsIn K mainGlobals "str" = some none)
    (z10 : PySem.W.nsIn K mainGlobals "sum" = some none)
    (z11 : PySem.W.nsIn K mainGlobals "tuple" = some none)
    {w1 : Addr} (h1 : PySem.W.nsIn K mainGlobals "WithError" = some (some (.ref w1)))
    {w2 : Addr} (h2 : PySem.W.nsIn K mainGlobals "BadText" = some (some (.ref w2)))
    {w3 : Addr} (h3 : PySem.W.nsIn K mainGlobals "BadWish" = some (some (.ref w3)))
    {w4 : Addr} (h4 : PySem.W.nsIn K mainGlobals "NotTame" = some (some (.ref w4)))
    {w5 : Addr} (h5 : PySem.W.nsIn K mainGlobals "TooMany" = some (some (.ref w5)))
    {w6 : Addr} (h6 : PySem.W.nsIn K mainGlobals "Unfit" = some (some (.ref w6)))
    {C fI : Addr} {nmC qC : Str} {NC : Addr} {bsC : List Value} {snC : List Str} {subC : List Value} {abC : Bool} {colC : Option Bool} {ddC : Option Addr} {m0 m1 m2 m3 m5 : Option Value}
    (hC : PySem.W.nsIn K mainGlobals "NoUnifier" = some (some (.ref C)))
    (xL : K.lookup C = some (excClassObj nmC qC C NC bsC [.ref w1, .type "ValueError", .type "Exception", .type "BaseException", .type "object"] true snC subC abC colC ddC m0 m1 m2 m3 m5 "ValueError.__new__"))
    (sa : PySem.W.findIn K (.ref C) "__setattr__" = some (some (.builtin "object.__setattr__"))) (ga : PySem.W.findIn K (.ref C) "__getattribute__" = some (some (.builtin "BaseException.__getattribute__"))) (gg : PySem.W.findIn K (.ref C) "__getattr__" = some none) (np : PySem.W.findIn K (.ref C) "place" = some none)
    (iC : PySem.W.findIn K (.ref C) "__init__" = some (some (.ref fI))) (tI : PySem.W.typeIn K (.ref fI) = some (.type "function"))
    {odI anI : Option Addr} {slI : Array (Option Value)} {ocI kVI dcI pmI cdI ctI : Value}
    (lI : K.lookup fI = some ⟨ocI, odI, .func (PySem.W.fnOf "__init__" "NoUnifier.__init__" (defArgs s_init) (defBody s_init) (defScope s_init) .none kVI dcI pmI anI cdI ctI), slI⟩) (cI : PySem.W.codeIn K cdI "NoUnifier.__init__" = true) (kI : PySem.W.keepIn K (.ref fI) = true)
    (kC : PySem.W.keepIn K (.ref C) = true) (eC : PySem.W.subIn K (.ref C) (.type "BaseException") = some true) (tC : PySem.W.typeIn K (.ref C) = some (.type "type")) (hd : PySem.W.hasDictIn K C = true) (ic : PySem.W.isClsIn K C = true) (sC : PySem.W.subIn K (.ref C) (.ref C) = some true)
    (cc : PySem.W.findIn K (.ref C) "__class__" = some (some (.builtin "object.__class__"))) (sg : PySem.W.specialIn K (.builtin "object.__class__") "__get__" = some (some (.builtin "getset_descriptor.__get__"))) (tk : PySem.W.takesIn K (.builtin "object.__class__") = some true) (mo : PySem.W.mroIn K C (.type "object") = some true)
    (q1 : PySem.W.kitOne K (.ref C) (.ref w1) = some true) (q2 : PySem.W.kitOne K (.ref C) (.type "ValueError") = some true) (q3 : PySem.W.kitAny K (.ref C) [.ref w2, .ref w3, .ref w4, .ref w5, .ref w6] = some false) :
    ∃ fd : FuncData, (∀ (s : Shared) (v : Value), BindsTo s fd ⟨[v], []⟩ [("_law_script", v)]) ∧ ∀ base : Heap, K.In base → base.Ns mainGlobals mg → FnG P w K mg base CX0 6 fa fd ["_law_script"] (spLaw K) := by
  have e := hfa.symm.trans (PySem.W.mg_of X G a15)
  cases e
  have F0 := fun_mk (st := s_is_free) l0 c0 k0
  have b0 := F0.binds (ps := ["term"]) fun _ _ _ _ _ _ us hl => match us, hl with | [_], _ => rfl
  have g0 := PySem.W.mg_of X G a0
  have F1 := fun_mk (st := s_variables_of) l1 c1 k1
  have b1 := F1.binds (ps := ["pattern"]) fun _ _ _ _ _ _ us hl => match us, hl with | [_], _ => rfl
  have g1 := PySem.W.mg_of X G a1
  have F2 := fun_mk (st := s_leader_of) l2 c2 k2
  have b2 := F2.binds (ps := ["leaders", "term"]) fun _ _ _ _ _ _ us hl => match us, hl with | [_, _], _ => rfl
  have g2 := PySem.W.mg_of X G a2
  have F3 := fun_mk (st := s_made_alike) l3 c3 k3
  have b3 := F3.binds (ps := ["leaders", "one", "other"]) fun _ _ _ _ _ _ us hl => match us, hl with | [_, _, _], _ => rfl
  have g3 := PySem.W.mg_of X G a3
  have F4 := fun_mk (st := s_unified) l4 c4 k4
  have b4 := F4.binds (ps := ["equations"]) fun _ _ _ _ _ _ us hl => match us, hl with | [_], _ => rfl
  have g4 := PySem.W.mg_of X G a4
  have kb4 := BV.Fun.kwb F4 (ps := ["equations"]) fun _ _ _ _ _ _ ws hl => match ws, hl with | [_], _ => rfl
  have F5 := fun_mk (st := s_purse) l5 c5 k5
  have b5 := F5.binds (ps := ["_law_script"]) fun _ _ _ _ _ _ us hl => match us, hl with | [_], _ => rfl
  have g5 := PySem.W.mg_of X G a5
  have F6 := fun_mk (st := s_draw) l6 c6 k6
  have b6 := F6.binds (ps := ["_law_purse_here", "_law_many"]) fun _ _ _ _ _ _ us hl => match us, hl with | [_, _], _ => rfl
  have g6 := PySem.W.mg_of X G a6
  have F7 := fun_mk (st := s_pick) l7 c7 k7
  have b7 := F7.binds (ps := ["_law_purse_here", "_law_some"]) fun _ _ _ _ _ _ us hl => match us, hl with | [_, _], _ => rfl
  have g7 := PySem.W.mg_of X G a7
  have F8 := fun_mk (st := s_terms) l8 c8 k8
  have b8 := F8.binds (ps := ["_law_purse_here"]) fun _ _ _ _ _ _ us hl => match us, hl with | [_], _ => rfl
  have g8 := PySem.W.mg_of X G a8
  have F9 := fun_mk (st := s_pairs) l9 c9 k9
  have b9 := F9.binds (ps := ["_law_purse_here", "_law_names", "_law_stock"]) fun _ _ _ _ _ _ us hl => match us, hl with | [_, _, _], _ => rfl
  have g9 := PySem.W.mg_of X G a9
  have F10 := fun_mk (st := s_place) l10 c10 k10
  have b10 := F10.binds (ps := ["_law_pairs_here"]) fun _ _ _ _ _ _ us hl => match us, hl with | [_], _ => rfl
  have g10 := PySem.W.mg_of X G a10
  have F11 := fun_mk (st := s_told) l11 c11 k11
  have b11 := F11.binds (ps := ["_law_pairs_here", "_law_is_named"]) fun _ _ _ _ _ _ us hl => match us, hl with | [_, _], _ => rfl
  have g11 := PySem.W.mg_of X G a11
  have F12 := fun_mk (st := s_are_beginnings_told) l12 c12 k12
  have b12 := F12.binds (ps := ["_law_pairs_here", "_law_due"]) fun _ _ _ _ _ _ us hl => match us, hl with | [_, _], _ => rfl
  have g12 := PySem.W.mg_of X G a12
  have F13 := fun_mk (st := s_idle) l13 c13 k13
  have b13 := F13.binds (ps := ["_law_purse_here", "_law_pairs_here"]) fun _ _ _ _ _ _ us hl => match us, hl with | [_, _], _ => rfl
  have g13 := PySem.W.mg_of X G a13
  have F14 := fun_mk (st := s_is_moved) l14 c14 k14
  have b14 := F14.binds (ps := ["_law_purse_here", "_law_pairs_here", "_law_due"]) fun _ _ _ _ _ _ us hl => match us, hl with | [_, _, _], _ => rfl
  have g14 := PySem.W.mg_of X G a14
  have F15 := fun_mk (st := s_law) l15 c15 k15
  have bi_ValueError := PySem.W.mg_none_of X G z0
  have bi_enumerate := PySem.W.mg_none_of X G z1
  have bi_int := PySem.W.mg_none_of X G z2
  have bi_isinstance := PySem.W.mg_none_of X G z3
  have bi_len := PySem.W.mg_none_of X G z4
  have bi_list := PySem.W.mg_none_of X G z5
  have bi_range := PySem.W.mg_none_of X G z6
  have bi_repr := PySem.W.mg_none_of X G z7
  have bi_sorted := PySem.W.mg_none_of X G z8
  have bi_str := PySem.W.mg_none_of X G z9
  have bi_sum := PySem.W.mg_none_of X G z10
  have bi_tuple := PySem.W.mg_none_of X G z11
  refine ⟨PySem.W.fnOf "law" "law" (defArgs s_law) (defBody s_law) (defScope s_law) .none kV15 dc15 pm15 an15 cd15 ct15, fun s v => .of_eq rfl, fun base _ _ => ?_⟩
  have G_draw : Kn P w K mg base "_law_draw" 1 ["_law_purse_here", "_law_many"] spDraw := ⟨_, _, ok_draw F6 bi_len bi_int, b6, k6, g6⟩
  have G_is_free : Kn P w K mg base "is_free" 1 ["term"] sp_is_free := Kn.says ⟨_, _, ok_is_free F0 bi_isinstance bi_str, b0, k0, g0⟩ says_is_free
  have G_variables_of : Kn P w K mg base "variables_of" 2 ["pattern"] sp_variables_of := Kn.says ⟨_, _, ok_variables_of F1 bi_tuple bi_sorted G_is_free, b1, k1, g1⟩ says_variables_of
  have G_pick : Kn P w K mg base "_law_pick" 2 ["_law_purse_here", "_law_some"] sp_pick := Kn.says ⟨_, _, ok_pick F7 bi_len G_draw, b7, k7, g7⟩ says_pick
  have G_terms : Kn P w K mg base "_law_terms" 3 ["_law_purse_here"] sp_terms := Kn.says ⟨_, _, ok_terms F8 bi_str bi_range G_pick G_draw, b8, k8, g8⟩ says_terms
  have G_pairs : Kn P w K mg base "_law_pairs" 3 ["_law_purse_here", "_law_names", "_law_stock"] sp_pairs := Kn.says ⟨_, _, ok_pairs F9 bi_range bi_tuple G_pick G_draw, b9, k9, g9⟩ says_pairs
  have G_place : Kn P w K mg base "_law_place" 1 ["_law_pairs_here"] sp_place := Kn.says ⟨_, _, ok_place F10 bi_enumerate bi_len bi_isinstance bi_int bi_list, b10, k10, g10⟩ says_place
  have G_idle : Kn P w K mg base "_law_idle" 3 ["_law_purse_here", "_law_pairs_here"] sp_idle := Kn.says ⟨_, _, ok_idle F13 bi_range bi_tuple G_draw G_pick, b13, k13, g13⟩ says_idle
  have FI := fun_mk (st := s_init) lI cI kI
  have bI := FI.binds (ps := ["self", "place"]) fun _ _ _ _ _ _ us hl => match us, hl with | [_, _], _ => rfl
  have TN : NoU K mg C fI := ⟨⟨⟨nmC, qC, NC, bsC, _, snC, subC, abC, colC, ddC, m0, m1, m2, m3, m5, xL, rfl⟩, sa, eC, tC, kC⟩, PySem.W.mg_of X G hC, iC, tI, np⟩
  have CLS : Cls K mg C := ⟨⟨w1, w2, w3, w4, w5, w6, PySem.W.mg_of X G h1, PySem.W.mg_of X G h2, PySem.W.mg_of X G h3, PySem.W.mg_of X G h4, PySem.W.mg_of X G h5, PySem.W.mg_of X G h6, q1, q2, q3⟩, bi_ValueError, ⟨ic, ga, gg, eC, cc, sg, tk, mo⟩, ⟨ga, gg, eC, hd⟩, PySem.W.exm_ref eC hd tC sC⟩
  have H_free : KG P w K mg base CX0 "is_free" 1 ["term"] spFree := ⟨_, _, ok_freeH F0 bi_isinstance bi_str, b0, k0, g0⟩
  have H_lead : KG P w K mg base CX0 "leader_of" 1 ["leaders", "term"] spLead := ⟨_, _, ok_leader_of F2, b2, k2, g2⟩
  have H_made : KG P w K mg base CX0 "made_alike" 2 ["leaders", "one", "other"] spMade := ⟨_, _, ok_made_alike F3 H_lead H_free, b3, k3, g3⟩
  have H_uni : KX P w K mg base "unified" 3 ["equations"] (spUni K C sp_variables_of) := ⟨_, _, ok_unified F4 bi_enumerate bi_tuple TN FI bI H_lead H_made G_variables_of, b4, k4, g4, kb4⟩
  have G_told : Kn P w K mg base "_law_told" 4 ["_law_pairs_here", "_law_is_named"] (sp_told sp_variables_of) := ⟨_, _, ok_told F11 bi_isinstance bi_tuple TN CLS H_uni, b11, k11, g11⟩
  have G_are_beginnings_told : Kn P w K mg base "_law_are_beginnings_told" 5 ["_law_pairs_here", "_law_due"] sp_are_beginnings_told := Kn.says ⟨_, _, ok_are_beginnings_told F12 bi_range bi_len bi_repr bi_int G_told, b12, k12, g12⟩ says_are_beginnings_told
  have G_is_moved : Kn P w K mg base "_law_is_moved" 5 ["_law_purse_here", "_law_pairs_here", "_law_due"] sp_is_moved := Kn.says ⟨_, _, ok_is_moved F14 bi_tuple bi_len bi_repr bi_list bi_range G_idle G_told G_draw G_place, b14, k14, g14⟩ says_is_moved
  exact ok_law F15 (ok_purse F5 bi_len bi_sum) b5 k5 g5 bi_range bi_repr G_terms G_pairs G_place G_are_beginnings_told G_is_moved G_told
end K07
open PySem PySem.W PyProof.Rows
set_option maxHeartbeats 0 in
theorem PySem.Challenge.cw_onlywith_k07_where_equations_cannot_be_u_holds : PySem.Challenge.rw_onlywith_k07_where_equations_cannot_be_u.Holds := by
  w_on; o_law; k_head; (case hw => w_witness2)
  k_fill
  refine BV.end_walk (l := PySem.Challenge.rw_onlywith_k07_where_equations_cannot_be_u) (n := 63) (k := 6) (x := "_law_script") (CX := fun _ => L2.CX0) (sp := fun w => K07.spLaw _) rfl (by decide) rfl ⟨rfl, by decide, by decide⟩ (fun w h Y => PySem.W.kIn_of Y) ?F (fun _ _ a ns hl _ hS => ⟨a, ns, rfl, hS, hl, fun _ => rfl⟩) (fun _ _ _ _ _ h => h)
  case F =>
    intro w mg fa h KX G hmg
    refine' K07.all_mk KX G hmg ?a0 ?l0 ?c0 ?k0 ?a1 ?l1 ?c1 ?k1 ?a2 ?l2 ?c2 ?k2 ?a3 ?l3 ?c3 ?k3 ?a4 ?l4 ?c4 ?k4 ?a5 ?l5 ?c5 ?k5 ?a6 ?l6 ?c6 ?k6 ?a7 ?l7 ?c7 ?k7 ?a8 ?l8 ?c8 ?k8 ?a9 ?l9 ?c9 ?k9 ?a10 ?l10 ?c10 ?k10 ?a11 ?l11 ?c11 ?k11 ?a12 ?l12 ?c12 ?k12 ?a13 ?l13 ?c13 ?k13 ?a14 ?l14 ?c14 ?k14 ?a15 ?l15 ?c15 ?k15 ?z0 ?z1 ?z2 ?z3 ?z4 ?z5 ?z6 ?z7 ?z8 ?z9 ?z10 ?z11 ?h1 ?h2 ?h3 ?h4 ?h5 ?h6 ?hC ?xL ?sa ?ga ?gg ?np ?iC ?tI ?lI ?cI ?kI ?kC ?eC ?tC ?hd ?ic ?sC ?cc ?sg ?tk ?mo ?q1 ?q2 ?q3
    (case a0 => k_is); (case l0 => k_is); (case c0 => k_is); (case k0 => k_is); (case a1 => k_is); (case l1 => k_is); (case c1 => k_is); (case k1 => k_is); (case a2 => k_is); (case l2 => k_is); (case c2 => k_is); (case k2 => k_is); (case a3 => k_is); (case l3 => k_is); (case c3 => k_is); (case k3 => k_is); (case a4 => k_is); (case l4 => k_is); (case c4 => k_is); (case k4 => k_is); (case a5 => k_is); (case l5 => k_is); (case c5 => k_is); (case k5 => k_is); (case a6 => k_is); (case l6 => k_is); (case c6 => k_is); (case k6 => k_is); (case a7 => k_is); (case l7 => k_is); (case c7 => k_is); (case k7 => k_is); (case a8 => k_is); (case l8 => k_is); (case c8 => k_is); (case k8 => k_is); (case a9 => k_is); (case l9 => k_is); (case c9 => k_is); (case k9 => k_is); (case a10 => k_is); (case l10 => k_is); (case c10 => k_is); (case k10 => k_is); (case a11 => k_is); (case l11 => k_is); (case c11 => k_is); (case k11 => k_is); (case a12 => k_is); (case l12 => k_is); (case c12 => k_is); (case k12 => k_is); (case a13 => k_is); (case l13 => k_is); (case c13 => k_is); (case k13 => k_is); (case a14 => k_is); (case l14 => k_is); (case c14 => k_is); (case k14 => k_is); (case a15 => k_is); (case l15 => k_is); (case c15 => k_is); (case k15 => k_is); (case z0 => k_is); (case z1 => k_is); (case z2 => k_is); (case z3 => k_is); (case z4 => k_is); (case z5 => k_is); (case z6 => k_is); (case z7 => k_is); (case z8 => k_is); (case z9 => k_is); (case z10 => k_is); (case z11 => k_is); (case h1 => k_is); (case h2 => k_is); (case h3 => k_is); (case h4 => k_is); (case h5 => k_is); (case h6 => k_is); (case hC => k_is); (case xL => k_is); (case sa => k_is); (case ga => k_is); (case gg => k_is); (case np => k_is); (case iC => k_is); (case tI => k_is); (case lI => k_is); (case cI => k_is); (case kI => k_is); (case kC => k_is); (case eC => k_is); (case tC => k_is); (case hd => k_is); (case ic => k_is); (case sC => first | k_is | kit_is | rfl); (case cc => k_is); (case sg => first | k_is | kit_is | rfl); (case tk => first | k_is | kit_is | rfl); (case mo => first | k_is | kit_is | rfl); (case q1 => first | k_is | kit_is | rfl); (case q2 => first | k_is | kit_is | rfl); (case q3 => first | k_is | kit_is | rfl)

