import PyProof.Rows.All
import Wide.All
import OpenK.AllK
import Wide.FinOn
import HandS.ForMost
import HandS.More
import HandS.TupAny
import HandS.Style
import KE.KDictPairs
import HandS.IsInst
import HandS.Evl
import HandS.Walk
import HandS.TupLe
import HandS.SortKw
import PyProof.StrOps2
import KE.KSortTup
import HandS.Text
import PyProof.Rows.ReprOcc
import HandS.Deep
import HandS.Set
import HandS.SetTxt0
import HandS.SetBool
import KE.SortKeyHeap
import KE.KDictZip
import KE.GoesMore
import KE.GoesZip
import HandS.MapObj
import KE.GoesEnum
import HandS.Comp
import KE.KDictKeyed
import KE.KDictCopyH
import KE.KDictList
import HandS.DictComp
import HandS.SetFor
import HandS.SetKeys
import HandS.Zip
import HandS.DictTup
import HandS.Conv
import HandS.TryOnly
import HandS.StrMore
import HandS.Dict
import PyProof.IsRules
import PyProof.StrLawsFirst
import PyProof.StrLawsChain
import PyProof.StrLawsTight
import PyProof.Rows.StrNews2
import KE.IntTextText
import PySem.Challenge.RW_onlywith_k01_words_numbers_and_variables
set_option Elab.async false
set_option linter.all false
set_option maxRecDepth 100000
set_option maxHeartbeats 4000000
/-! Tuples without a dict of their own, and dict() of them. -/
namespace BV
open PySem PySem.Spec PyProof.Rows L2

/-- a tuple at a, and the object there has no dict of its own -/
def SqP (K : PySem.W.Frag) (H : Hp) (a : Addr) (xs : List V) : Prop :=
  (∃ ob : Obj, H a = some (.frz ob (.tup xs)) ∧ ob.dict = none) ∨
    ∃ (o : Obj) (its : Array Value) (n : Nat), K.lookup a = some o ∧ o.cls = .type "tuple" ∧ o.dict = none ∧ o.data = .seq its n ∧ its.size ≤ sizeLine ∧ Vals xs its.toList
theorem SqP.t {K : PySem.W.Frag} {H : Hp} {a : Addr} {xs : List V} (h : SqP K H a xs) : SqT K H a xs := by
  rcases h with ⟨ob, h, _⟩ | ⟨o, its, n, h1, h2, _, h3, h4, h5⟩
  · exact .inl (.inr ⟨ob, h⟩)
  · exact .inr ⟨o, its, n, h1, h2, h3, h4, h5⟩
section
variable {X : Cx} {pins : List (Addr × Obj)} {σ : L2.St} {H : Hp} {s : Shared} {a : Addr} {xs : List V}
theorem plainT (I : Inv X pins σ H s) (h : SqP X.K H a xs) : ∃ its : List Value, Vals xs its ∧ (∃ (o : Obj) (n : Nat), s.heap.get? a = some o ∧ o.cls = .type "tuple" ∧ o.dict = none ∧ o.data = .seq its.toArray n) ∧ xs.length ≤ sizeLine := by
  rcases h with ⟨ob, h, hd⟩ | ⟨o, its, n, hk, hc, hd, hs, hz, r⟩
  · obtain ⟨e, z, its, r, ⟨o, e2, hc, n, hdat⟩⟩ := I.hok a _ h
    rw [e] at e2
    cases e2
    exact ⟨its, r, ⟨ob, n, e, hc, hd, hdat⟩, z⟩
  · refine ⟨its.toList, r, ⟨o, n, I.kIn a o hk, hc, hd, by simpa using hs⟩, ?_⟩
    have e := r.length
    simp only [Array.length_toList] at e
    omega
end
section
variable {X : Cx} {pos : Pos} {es : List Expr} {t : TA}
/-- (e, ..) -/
def tTupF (t : TA) : TE := fun σ H Q => t σ H fun xs H1 => xs.length ≤ sizeLine ∧ ∀ p ob, ob.dict = none → H1 p = none → Q (.ref p) (upd H1 p (.frz ob (.tup xs)))
theorem pe_tupF {x1} (h : PA X es t) : PE X (.Tuple es x1 pos) (tTupF t) := by
  refine ⟨fun pins s σ H Q I hq => ?_⟩
  refine wpAny_Tuple_spliced (thn (h.run pos pins s σ H _ I hq) fun us s1 ⟨xs, H1, I1, r, z, q⟩ => ⟨by rw [← r.length]; exact z, ?_⟩)
  have hf : H1 s1.heap.objs.size = none := I1.hok.fresh (Nat.le_refl _)
  refine ⟨.ref s1.heap.objs.size, upd H1 s1.heap.objs.size (.frz { cls := .type "tuple", data := .seq us.toArray } (.tup xs)), I1.laid (t' := s1.toks) (fun b u e => Heap.get?_push_of_some _ e) (Nat.le_refl _) ?_, rfl, q _ _ rfl hf⟩
  exact ⟨Heap.get?_push_size _ rfl, z, us, r, ⟨_, Heap.get?_push_size _ rfl, rfl, _, rfl⟩⟩
theorem call_tupleF : CallR X (.type "tuple") (fun xs H Q => ∃ p ys, xs = [.ref p] ∧ ((SqL X.K H p ys ∧ ∀ l ob, ob.dict = none → H l = none → Q (.ref l) (upd H l (.frz ob (.tup ys)))) ∨ (SqT X.K H p ys ∧ Q (.ref p) H))) := by
  intro pins s σ H xs us Q I r h
  obtain ⟨p, ys, rfl, h⟩ := h
  obtain ⟨u, rfl, rx⟩ := vals1 r
  cases rx
  rcases h with ⟨hq, q⟩ | ⟨hq, q⟩
  · obtain ⟨its, r', pl, hz⟩ := I.list hq
    have hlen := r'.length
    refine call_tuple_list pl.isList (fun h' kp => ?_) (by simp only [List.size_toArray] <;> omega)
    have I1 : Inv X pins σ H { s with heap := h' } := I.kept (t' := s.toks) kp
    have I2 : Inv X pins σ (upd H h'.objs.size (.frz { cls := .type "tuple", data := .seq its.toArray } (.tup ys))) { s with heap := h'.push { cls := .type "tuple", data := .seq its.toArray } } :=
      I1.laid (t' := s.toks) (fun b o e => Heap.get?_push_of_some _ e) (Nat.le_refl _) (show ObjOk X.prog X.w _ _ _ (.frz { cls := .type "tuple", data := .seq its.toArray } (.tup ys)) from ⟨Heap.get?_push_size _ rfl, hz, its, r', IsTup.new _ _⟩)
    exact ⟨.ref h'.objs.size, _, I2, rfl, q _ _ rfl (I1.hok.fresh (Nat.le_refl _))⟩
  · obtain ⟨its, r', pl, hz⟩ := I.tuple hq
    exact call_tuple_same pl ⟨.ref p, H, I, rfl, q⟩
def rCatF (K : PySem.W.Frag) : R2 := fun x y H Q => ∃ a b xs ys, x = .ref a ∧ y = .ref b ∧ SqT K H a xs ∧ SqT K H b ys ∧ xs.length + ys.length ≤ sizeLine ∧
  (xs = [] → Q (.ref b) H) ∧ (xs ≠ [] → ys = [] → Q (.ref a) H) ∧ (xs ≠ [] → ys ≠ [] → ∀ p ob, ob.dict = none → H p = none → Q (.ref p) (upd H p (.frz ob (.tup (xs ++ ys)))))
theorem op_catF : OpR X (binaryOp .Add) (rCatF X.K) := by
  intro pins s σ H x y v u Q I rx ry h
  obtain ⟨a, b, xs, ys, rfl, rfl, ha, hb, hz, q0, q1, q2⟩ := h
  by_cases hx : xs = []
  · exact op_catA pins s σ H _ _ v u Q I rx ry ⟨a, b, xs, ys, rfl, rfl, ha, hb, hz, q0, q1, fun z => absurd hx z⟩
  · cases rx
    cases ry
    obtain ⟨its, r1, p1, _⟩ := I.tuple ha
    obtain ⟨its2, r2, p2, _⟩ := I.tuple hb
    refine HT.cat_tup p1 p2 (fun z => hx (r1.nil_iff.mp z)) (fun z => ⟨.ref a, H, I, rfl, q1 hx (r2.nil_iff.mp z)⟩) (fun z => ?_) (by rw [← r1.length, ← r2.length]; exact hz)
    refine ⟨.ref s.heap.objs.size, _, I.laid (t' := s.toks) (o := .frz { cls := .type "tuple", data := .seq (its ++ its2).toArray } (.tup (xs ++ ys))) (fun b ob q => Heap.get?_push_of_some _ q) (Nat.le_refl _) ?_, rfl, q2 hx (fun w => z (r2.nil_iff.mpr w)) _ _ rfl (I.hok.fresh (Nat.le_refl _))⟩
    exact ⟨Heap.get?_push_size _ rfl, by rw [List.length_append]; exact hz, _, r1.append r2, IsTup.new _ _⟩
def rSlF (K : PySem.W.Frag) : V → Option Int → Option Int → Hp → VK → Prop := fun x lo hi H Q => ∃ a xs, x = .ref a ∧ SqT K H a xs ∧
  (HT.sIx xs.length 0 lo = 0 ∧ HT.sIx xs.length xs.length hi = xs.length → Q (.ref a) H) ∧ (¬ (HT.sIx xs.length 0 lo = 0 ∧ HT.sIx xs.length xs.length hi = xs.length) → ∀ p ob, ob.dict = none → H p = none → Q (.ref p) (upd H p (.frz ob (.tup (cutV xs lo hi)))))
theorem sl_tupF : SlR X (rSlF X.K) := by
  intro pins s σ H x v vl vu lo hi sl Q I rx hs pl pu h
  obtain ⟨a, xs, rfl, hx, q1, q2⟩ := h
  by_cases hw : HT.sIx xs.length 0 lo = 0 ∧ HT.sIx xs.length xs.length hi = xs.length
  · exact sl_tupA pins s σ H _ v vl vu lo hi sl Q I rx hs pl pu ⟨a, xs, rfl, hx, q1, fun z => absurd hw z⟩
  · cases rx
    obtain ⟨its, r, ht, hz⟩ := I.tuple hx
    have hlen : its.toArray.size = xs.length := by rw [List.size_toArray]; exact r.length.symm
    refine ⟨"tuple", _, PyProof.Rows.slot_tuple_getitem.lookup, ht.typeIs, ?_⟩
    refine HT.getItem_tuple_cut ht hs pl pu (by rw [hlen]; exact hw) ?_ (by rw [hlen]; exact hz)
    rw [hlen]
    refine ⟨.ref s.heap.objs.size, _, I.laid (t' := s.toks) (o := .frz { cls := .type "tuple", data := .seq (((its.drop (HT.sIx xs.length 0 lo)).take (HT.sIx xs.length xs.length hi - HT.sIx xs.length 0 lo))).toArray } (.tup (cutV xs lo hi))) (fun b ob q => Heap.get?_push_of_some _ q) (Nat.le_refl _) ?_, rfl, q2 hw _ _ rfl (I.hok.fresh (Nat.le_refl _))⟩
    exact ⟨Heap.get?_push_size _ rfl, Nat.le_trans (cutV_length xs lo hi) hz, _, (r.drop (HT.sIx xs.length 0 lo)).take (HT.sIx xs.length xs.length hi - HT.sIx xs.length 0 lo), IsTup.new _ _⟩
end
section
variable {X : Cx}
theorem zip_get {α β : Type} : ∀ {l : List α} {m : List β} {i : Nat} {p : α × β}, (l.zip m)[i]? = some p → l[i]? = some p.1 ∧ m[i]? = some p.2
  | [], _, i, p, h => by simp at h
  | _ :: _, [], i, p, h => by simp at h
  | a :: l, b :: m, 0, p, h => by simp at h; subst h; exact ⟨rfl, rfl⟩
  | a :: l, b :: m, i + 1, p, h => zip_get (l := l) (m := m) (by simpa using h)
theorem pairs_of2 {pins : List (Addr × Obj)} {σ : L2.St} {H : Hp} {s : Shared} (I : Inv X pins σ H s) : ∀ {ps : List Addr} {kvs : List (L2.Key × V)}, Paired (fun p kv => SqT X.K H p [kV kv.1, kv.2]) ps kvs →
    ∃ (prs : List (L2.Key × Value)) (us : List Value), KV kvs prs ∧ prs.length = ps.length ∧ us.length = ps.length ∧ ∀ (j : Nat) (q : L2.Key × Value) (u : Value), prs[j]? = some q → us[j]? = some u → ∃ b : Addr, ps[j]? = some b ∧ IsTup s.heap b #[u, q.2] ∧ keyIs q.1 u = true
  | _, _, .nil => ⟨[], [], .nil, rfl, rfl, fun j q u e => by simp at e⟩
  | _, _, .cons (a := p) (b := kv) h t => by
    obtain ⟨prs, us, r, hl, hl2, hp⟩ := pairs_of2 I t
    obtain ⟨its, rv, ht, _⟩ := I.tuple h
    obtain ⟨u, y, ei, ru, ry⟩ := vals2 rv
    subst ei
    refine ⟨(kv.1, y) :: prs, u :: us, .cons ⟨rfl, ry⟩ r, by rw [List.length_cons, List.length_cons, hl], by rw [List.length_cons, List.length_cons, hl2], fun j q u' e e' => ?_⟩
    cases j with
    | zero =>
      have e1 : (kv.1, y) = q := Option.some.inj e
      have e2 : u = u' := Option.some.inj e'
      subst e1
      subst e2
      exact ⟨p, rfl, ht, kV_is (P := X.prog) (w := X.w) ru⟩
    | succ j =>
      obtain ⟨b, e1, e2, e3⟩ := hp j q u' (by simpa using e) (by simpa using e')
      exact ⟨b, by simpa using e1, e2, e3⟩
/-- dict(t) of a tuple of pairs (key, value) -/
theorem call_dictT (hcalm : X.calm = true) : CallR X (.type "dict") (fun xs H Q => ∃ (a : Addr) (ps : List Addr) (kvs : List (L2.Key × V)), xs = [.ref a] ∧ SqP X.K H a (ps.map V.ref) ∧ Paired (fun p kv => SqT X.K H p [kV kv.1, kv.2]) ps kvs ∧
    ∀ p, H p = none → Q (.ref p) (upd H p (.dK (mergeK [] kvs)))) := by
  intro pins s σ H xs us Q I r q
  obtain ⟨a, ps, kvs, ex, hq, hp, q⟩ := q
  subst ex
  obtain ⟨u, eu, rx⟩ := vals1 r
  subst eu
  cases rx
  obtain ⟨its, rv, ⟨o, n, ho, hc, hd, hdat⟩, hz⟩ := plainT I hq
  have ei := refs_at rv
  subst ei
  rw [List.length_map] at hz
  obtain ⟨prs, ks, rel, hl, hl2, hpr⟩ := pairs_of2 I hp
  have hzl : (ks.zip (prs.map (·.2))).length = ps.length := by simp [hl, hl2]
  refine PySem.call_dict_pairs (knd := mixKind X.prog X.w) (kvs := prs) (PairArg.tuple a (ps.map Value.ref).toArray (fun j => ps.getD j 0) (ks.zip (prs.map (·.2)))) (I.ok.hd hcalm) ⟨⟨o, n, ho, hc, hd, hdat⟩, by simp [hl, hl2], fun j k v e => ?_⟩ ⟨by rw [hzl, hl], fun j k v e => ?_⟩ (by rw [hzl]; exact hz) fun h' tk hd' hk => ?_
  · obtain ⟨e1, e2⟩ := zip_get e
    rw [List.getElem?_map] at e2
    obtain ⟨q', e3, rfl⟩ := Option.map_eq_some_iff.mp e2
    obtain ⟨b, h1, h2, h3⟩ := hpr j q' k e3 e1
    have e4 : ps.getD j 0 = b := by rw [List.getD_eq_getElem?_getD, h1]; rfl
    refine ⟨by simp [h1], ?_⟩
    dsimp only
    rw [e4]
    exact .inl h2
  · obtain ⟨e1, e2⟩ := zip_get (p := (k, v)) e
    rw [List.getElem?_map] at e2
    obtain ⟨q', e3, e5⟩ := Option.map_eq_some_iff.mp e2
    obtain ⟨b, h1, h2, h3⟩ := hpr j q' k e3 e1
    refine ⟨q'.1, ?_, h3⟩
    rw [e3]
    exact congrArg some (Prod.ext rfl e5)
  · have hm : (s.heap.objs.size == sysModules) = false := beq_eq_false_iff_ne.mpr (Nat.ne_of_gt I.big)
    have hlen : (mergeK [] kvs).length ≤ sizeLine := by
      refine Nat.le_trans (length_mergeK kvs []) ?_
      rw [List.length_nil, Nat.zero_add, rel.length, hl]
      exact hz
    exact ⟨.ref s.heap.objs.size, upd H s.heap.objs.size (.dK (mergeK [] kvs)), I.laid (t' := tk) (fun b ob e => hk b ob (by simp) e) (Nat.le_refl _) (show ObjOk X.prog X.w _ _ _ (.dK (mergeK [] kvs)) from ⟨hlen, hm, merged [] prs, KV.merge rel .nil, hd'⟩), rfl, q _ (I.hok.fresh (Nat.le_refl _))⟩
end
end BV

/-! Data by value over the hand layer. -/
namespace BV
open PySem PySem.Spec PyProof.Rows L2 Evl

inductive D where
  | non | bl (b : Bool) | int (i : Int) | str (s : Str) | tup (ds : List D) | lst (ds : List D) | pur | pr (ds : List D) | dic (ks : List L2.Key) (vs : List D)

def keyPy : L2.Key → PyData
  | .inl i => .int i
  | .inr x => .str x
mutual
def D.py : D → PyData
  | .non => .none
  | .bl b => .bool b
  | .int i => .int i
  | .str s => .str s
  | .tup ds => .tuple (D.pys ds)
  | .lst ds => .list (D.pys ds)
  | .pur => .none
  | .pr ds => .tuple (D.pys ds)
  | .dic ks vs => .dict ((ks.map keyPy).zip (D.pys vs))
def D.pys : List D → List PyData
  | [] => []
  | d :: ds => D.py d :: D.pys ds
end
mutual
/-- no list, no purse in it -/
def D.lf : D → Bool
  | .lst _ => false
  | .pur => false
  | .tup ds => D.lfs ds
  | .pr ds => D.lfs ds
  | .dic _ _ => false
  | .non => true
  | .bl _ => true
  | .int _ => true
  | .str _ => true
def D.lfs : List D → Bool
  | [] => true
  | d :: ds => D.lf d && D.lfs ds
end
mutual
/-- no purse in it -/
def D.pf : D → Bool
  | .pur => false
  | .lst ds => D.pfs ds
  | .tup ds => D.pfs ds
  | .pr ds => D.pfs ds
  | .dic _ _ => false
  | .non => true
  | .bl _ => true
  | .int _ => true
  | .str _ => true
def D.pfs : List D → Bool
  | [] => true
  | d :: ds => D.pf d && D.pfs ds
end

mutual
def Dn (K : PySem.W.Frag) (C : Hp) (pu : Addr) : D → V → Prop
  | .non, v => v = .non
  | .bl b, v => v = .bl b
  | .int i, v => v = .int i
  | .str x, v => v = .str x
  | .tup ds, v => ∃ a xs, v = .ref a ∧ SqP K C a xs ∧ Dns K C pu ds xs
  | .pr ds, v => ∃ a xs, v = .ref a ∧ SqT K C a xs ∧ Dns K C pu ds xs
  | .dic ks vs, v => ∃ a kvs, v = .ref a ∧ C a = some (.dK kvs) ∧ kvs.map (·.1) = ks ∧ Dns K C pu vs (kvs.map (·.2))
  | .lst ds, v => ∃ a xs, v = .ref a ∧ C a = some (.lst xs) ∧ Dns K C pu ds xs
  | .pur, v => v = .ref pu
def Dns (K : PySem.W.Frag) (C : Hp) (pu : Addr) : List D → List V → Prop
  | [], xs => xs = []
  | d :: ds, xs => ∃ v r, xs = v :: r ∧ Dn K C pu d v ∧ Dns K C pu ds r
end

theorem ex_p {K : PySem.W.Frag} {C C' : Hp} (e : Ex C C') {a : Addr} {xs : List V} (h : SqP K C a xs) : SqP K C' a xs := by
  rcases h with ⟨ob, h, hd⟩ | h
  · exact .inl ⟨ob, e _ _ h, hd⟩
  · exact .inr h
section
variable {K : PySem.W.Frag} {C C' : Hp} {pu : Addr}
mutual
theorem Dn.mono (e : Ex C C') : ∀ (d : D) (v : V), Dn K C pu d v → Dn K C' pu d v
  | .non, v, h => by unfold Dn at h ⊢; exact h
  | .bl b, v, h => by unfold Dn at h ⊢; exact h
  | .int i, v, h => by unfold Dn at h ⊢; exact h
  | .str x, v, h => by unfold Dn at h ⊢; exact h
  | .tup ds, v, h => by
    unfold Dn at h ⊢
    obtain ⟨a, xs, e1, e2, e3⟩ := h
    exact ⟨a, xs, e1, ex_p e e2, Dns.mono e ds xs e3⟩
  | .pr ds, v, h => by
    unfold Dn at h ⊢
    obtain ⟨a, xs, e1, e2, e3⟩ := h
    exact ⟨a, xs, e1, ex_t e e2, Dns.mono e ds xs e3⟩
  | .dic ks vs, v, h => by
    unfold Dn at h ⊢
    obtain ⟨a, kvs, e1, e2, e3, e4⟩ := h
    exact ⟨a, kvs, e1, e _ _ e2, e3, Dns.mono e vs _ e4⟩
  | .lst ds, v, h => by
    unfold Dn at h ⊢
    obtain ⟨a, xs, e1, e2, e3⟩ := h
    exact ⟨a, xs, e1, e _ _ e2, Dns.mono e ds xs e3⟩
  | .pur, v, h => by unfold Dn at h ⊢; exact h
theorem Dns.mono (e : Ex C C') : ∀ (ds : List D) (xs : List V), Dns K C pu ds xs → Dns K C' pu ds xs
  | [], xs, h => by unfold Dns at h ⊢; exact h
  | d :: ds, xs, h => by
    unfold Dns at h ⊢
    obtain ⟨v, r, e1, e2, e3⟩ := h
    exact ⟨v, r, e1, Dn.mono e d v e2, Dns.mono e ds r e3⟩
end
theorem dn_non {v : V} : Dn K C pu .non v ↔ v = .non := by unfold Dn; exact Iff.rfl
theorem dn_bl {b : Bool} {v : V} : Dn K C pu (.bl b) v ↔ v = .bl b := by unfold Dn; exact Iff.rfl
theorem dn_int {i : Int} {v : V} : Dn K C pu (.int i) v ↔ v = .int i := by unfold Dn; exact Iff.rfl
theorem dn_str {i : Str} {v : V} : Dn K C pu (.str i) v ↔ v = .str i := by unfold Dn; exact Iff.rfl
theorem dn_tupP {ds : List D} {v : V} : Dn K C pu (.tup ds) v ↔ ∃ a xs, v = .ref a ∧ SqP K C a xs ∧ Dns K C pu ds xs := by rw [Dn]
theorem dn_tup {ds : List D} {v : V} (h : Dn K C pu (.tup ds) v) : ∃ a xs, v = .ref a ∧ SqT K C a xs ∧ Dns K C pu ds xs := by
  obtain ⟨a, xs, e1, e2, e3⟩ := dn_tupP.mp h
  exact ⟨a, xs, e1, e2.t, e3⟩
theorem dn_pr {ds : List D} {v : V} : Dn K C pu (.pr ds) v ↔ ∃ a xs, v = .ref a ∧ SqT K C a xs ∧ Dns K C pu ds xs := by rw [Dn]
theorem dn_dic {ks : List L2.Key} {vs : List D} {v : V} : Dn K C pu (.dic ks vs) v ↔ ∃ a kvs, v = .ref a ∧ C a = some (.dK kvs) ∧ kvs.map (·.1) = ks ∧ Dns K C pu vs (kvs.map (·.2)) := by rw [Dn]
theorem dn_lst {ds : List D} {v : V} : Dn K C pu (.lst ds) v ↔ ∃ a xs, v = .ref a ∧ C a = some (.lst xs) ∧ Dns K C pu ds xs := by rw [Dn]
theorem dn_pur {v : V} : Dn K C pu .pur v ↔ v = .ref pu := by unfold Dn; exact Iff.rfl
theorem dns_nil {xs : List V} : Dns K C pu [] xs ↔ xs = [] := by unfold Dns; exact Iff.rfl
theorem dns_cons {d : D} {ds : List D} {xs : List V} : Dns K C pu (d :: ds) xs ↔ ∃ v r, xs = v :: r ∧ Dn K C pu d v ∧ Dns K C pu ds r := by rw [Dns]

theorem Dns.len : ∀ {ds : List D} {xs : List V}, Dns K C pu ds xs → xs.length = ds.length
  | [], xs, h => by rw [dns_nil.mp h]; rfl
  | d :: ds, xs, h => by
    obtain ⟨v, r, e, _, q⟩ := dns_cons.mp h
    rw [e, List.length_cons, List.length_cons, Dns.len q]
theorem Dns.get : ∀ {ds : List D} {xs : List V} {i : Nat} {d : D}, Dns K C pu ds xs → ds[i]? = some d → ∃ v, xs[i]? = some v ∧ Dn K C pu d v
  | [], xs, i, d, h, e => by simp at e
  | c :: ds, xs, 0, d, h, e => by
    obtain ⟨v, r, e1, q, _⟩ := dns_cons.mp h
    have : c = d := by simpa using e
    subst this
    exact ⟨v, by rw [e1]; rfl, q⟩
  | c :: ds, xs, i + 1, d, h, e => by
    obtain ⟨v, r, e1, _, q⟩ := dns_cons.mp h
    obtain ⟨u, h1, h2⟩ := Dns.get (i := i) (d := d) q (by simpa using e)
    exact ⟨u, by rw [e1]; simpa using h1, h2⟩
theorem Dns.get' : ∀ {ds : List D} {xs : List V} {i : Nat} {v : V}, Dns K C pu ds xs → xs[i]? = some v → ∃ d, ds[i]? = some d ∧ Dn K C pu d v := fun {ds xs i v} h e => by
  have hl := h.len
  have hi : i < ds.length := by
    have := (List.getElem?_eq_some_iff.mp e).1
    omega
  obtain ⟨u, h1, h2⟩ := h.get (List.getElem?_eq_getElem hi)
  rw [e] at h1
  cases h1
  exact ⟨_, List.getElem?_eq_getElem hi, h2⟩
theorem Dns.app : ∀ {ds es : List D} {xs ys : List V}, Dns K C pu ds xs → Dns K C pu es ys → Dns K C pu (ds ++ es) (xs ++ ys)
  | [], es, xs, ys, h, k => by rw [dns_nil.mp h]; exact k
  | d :: ds, es, xs, ys, h, k => by
    obtain ⟨v, r, e, q1, q⟩ := dns_cons.mp h
    rw [e]
    exact dns_cons.mpr ⟨v, r ++ ys, rfl, q1, Dns.app q k⟩
theorem Dns.take : ∀ {ds : List D} {xs : List V} (n : Nat), Dns K C pu ds xs → Dns K C pu (ds.take n) (xs.take n)
  | ds, xs, 0, h => by simp [dns_nil]
  | [], xs, n + 1, h => by rw [dns_nil.mp h]; exact dns_nil.mpr rfl
  | d :: ds, xs, n + 1, h => by
    obtain ⟨v, r, e, q1, q⟩ := dns_cons.mp h
    rw [e]
    exact dns_cons.mpr ⟨v, r.take n, rfl, q1, Dns.take n q⟩
theorem Dns.drop : ∀ {ds : List D} {xs : List V} (n : Nat), Dns K C pu ds xs → Dns K C pu (ds.drop n) (xs.drop n)
  | ds, xs, 0, h => h
  | [], xs, n + 1, h => by rw [dns_nil.mp h]; exact dns_nil.mpr rfl
  | d :: ds, xs, n + 1, h => by
    obtain ⟨v, r, e, q1, q⟩ := dns_cons.mp h
    rw [e]
    exact Dns.drop n q
theorem Dns.one {d : D} {v : V} (h : Dn K C pu d v) : Dns K C pu [d] [v] := dns_cons.mpr ⟨v, [], rfl, h, dns_nil.mpr rfl⟩
theorem Dns.rep : ∀ {ds : List D} {xs : List V} (n : Nat), Dns K C pu ds xs → Dns K C pu (List.replicate n ds).flatten (List.replicate n xs).flatten
  | ds, xs, 0, h => dns_nil.mpr rfl
  | ds, xs, n + 1, h => by
    rw [List.replicate_succ, List.replicate_succ, List.flatten_cons, List.flatten_cons]
    exact Dns.app h (Dns.rep n h)
/-- of data without a list, only the tuples matter -/
def TupSub (K : PySem.W.Frag) (C C' : Hp) : Prop := (∀ a xs, SqT K C a xs → SqT K C' a xs) ∧ ∀ a xs, SqP K C a xs → SqP K C' a xs
mutual
theorem Dn.lf (e : TupSub K C C') : ∀ (d : D) (v : V), d.lf = true → Dn K C pu d v → Dn K C' pu d v
  | .non, v, l, h => by unfold Dn at h ⊢; exact h
  | .bl b, v, l, h => by unfold Dn at h ⊢; exact h
  | .int i, v, l, h => by unfold Dn at h ⊢; exact h
  | .str x, v, l, h => by unfold Dn at h ⊢; exact h
  | .tup ds, v, l, h => by
    rw [dn_tupP] at h ⊢
    obtain ⟨a, xs, e1, e2, e3⟩ := h
    exact ⟨a, xs, e1, e.2 a xs e2, Dns.lf e ds xs (by simpa [D.lf] using l) e3⟩
  | .pr ds, v, l, h => by
    rw [dn_pr] at h ⊢
    obtain ⟨a, xs, e1, e2, e3⟩ := h
    exact ⟨a, xs, e1, e.1 a xs e2, Dns.lf e ds xs (by simpa [D.lf] using l) e3⟩
  | .dic ks vs, v, l, h => by simp [D.lf] at l
  | .lst ds, v, l, h => by simp [D.lf] at l
  | .pur, v, l, h => by simp [D.lf] at l
theorem Dns.lf (e : TupSub K C C') : ∀ (ds : List D) (xs : List V), D.lfs ds = true → Dns K C pu ds xs → Dns K C' pu ds xs
  | [], xs, l, h => by unfold Dns at h ⊢; exact h
  | d :: ds, xs, l, h => by
    rw [dns_cons] at h ⊢
    obtain ⟨v, r, e1, e2, e3⟩ := h
    have l' : d.lf = true ∧ D.lfs ds = true := by simpa [D.lfs] using l
    exact ⟨v, r, e1, Dn.lf e d v l'.1 e2, Dns.lf e ds r l'.2 e3⟩
end
mutual
theorem Dn.dp {H : Hp} (e : Ex C H) : ∀ (d : D) (v : V), d.pf = true → Dn K C pu d v → Dp K H v d.py
  | .non, v, l, h => by rw [dn_non.mp h]; exact .non
  | .bl b, v, l, h => by rw [dn_bl.mp h]; exact .bl b
  | .int i, v, l, h => by rw [dn_int.mp h]; exact .int i
  | .str x, v, l, h => by rw [dn_str.mp h]; exact .str x
  | .tup ds, v, l, h => by
    obtain ⟨a, xs, e1, e2, e3⟩ := dn_tup h
    rw [e1]
    exact .tup (ex_t e e2) (Dns.dp e ds xs (by simpa [D.pf] using l) e3)
  | .pr ds, v, l, h => by
    obtain ⟨a, xs, e1, e2, e3⟩ := dn_pr.mp h
    rw [e1]
    exact .tup (ex_t e e2) (Dns.dp e ds xs (by simpa [D.pf] using l) e3)
  | .dic ks vs, v, l, h => by simp [D.pf] at l
  | .lst ds, v, l, h => by
    obtain ⟨a, xs, e1, e2, e3⟩ := dn_lst.mp h
    rw [e1]
    exact .lst (sq_of (e _ _ e2)) (Dns.dp e ds xs (by simpa [D.pf] using l) e3)
  | .pur, v, l, h => by simp [D.pf] at l
theorem Dns.dp {H : Hp} (e : Ex C H) : ∀ (ds : List D) (xs : List V), D.pfs ds = true → Dns K C pu ds xs → DpAll K H xs (D.pys ds)
  | [], xs, l, h => by rw [dns_nil.mp h]; exact .nil
  | d :: ds, xs, l, h => by
    obtain ⟨v, r, e1, e2, e3⟩ := dns_cons.mp h
    have l' : d.pf = true ∧ D.pfs ds = true := by simpa [D.pfs] using l
    rw [e1]
    exact .cons (Dn.dp e d v l'.1 e2) (Dns.dp e ds r l'.2 e3)
end
end

/-! ### the purse, the state, the step -/
structure Pz where
  p : Addr
  g : Addr
  c : Addr
structure Pur (z : Pz) (C H : Hp) : Prop where
  at_ : ∃ (gs cs : List Int) (s k : Int), H z.p = some (.lst [.ref z.g, .ref z.c, .int s, .int k]) ∧ H z.g = some (.lst (gs.map V.int)) ∧ H z.c = some (.lst (cs.map V.int)) ∧ gs.length ≤ 64 ∧ cs ≠ [] ∧ cs.length ≤ 64
  cp : C z.p = none
  cg : C z.g = none
  cc : C z.c = none
  pg : z.p ≠ z.g
  pc : z.p ≠ z.c
  gc : z.g ≠ z.c
structure Ok (z : Pz) (C H : Hp) : Prop where
  ex : Ex C H
  pur : Pur z C H
structure Tr (z : Pz) (C H C' H' : Hp) : Prop where
  cc : Ex C C'
  ok : Ok z C' H'
  keep : ∀ a o, H a = some o → a ≠ z.p → a ≠ z.g → H' a = some o
  new : ∀ a, H a ≠ none → C' a = C a
section
variable {z : Pz} {C H C1 H1 C2 H2 : Hp}
theorem Tr.refl (o : Ok z C H) : Tr z C H C H := ⟨Ex.refl _, o, fun _ _ h _ _ => h, fun _ _ => rfl⟩
theorem Pur.pn (p : Pur z C H) : H z.p ≠ none := by
  obtain ⟨gs, cs, s, k, e, _⟩ := p.at_
  rw [e]
  exact fun q => nomatch q
theorem Pur.gn (p : Pur z C H) : H z.g ≠ none := by
  obtain ⟨gs, cs, s, k, _, e, _⟩ := p.at_
  rw [e]
  exact fun q => nomatch q
theorem Tr.there (t : Tr z C H C1 H1) {a : Addr} (h : H a ≠ none) : H1 a ≠ none := by
  by_cases hp : a = z.p
  · rw [hp]; exact t.ok.pur.pn
  by_cases hg : a = z.g
  · rw [hg]; exact t.ok.pur.gn
  cases e : H a with
  | none => exact absurd e h
  | some o =>
    rw [t.keep a o e hp hg]
    exact fun q => nomatch q
theorem Tr.trans (t : Tr z C H C1 H1) (u : Tr z C1 H1 C2 H2) : Tr z C H C2 H2 :=
  ⟨t.cc.trans u.cc, u.ok, fun a o h hp hg => u.keep a o (t.keep a o h hp hg) hp hg, fun a h => (u.new a (t.there h)).trans (t.new a h)⟩
/-- the heap grew by what is no purse's, nothing of it in the core -/
theorem Tr.ext (o : Ok z C H) (e : Ex H H1) : Tr z C H C H1 :=
  ⟨Ex.refl _, ⟨o.ex.trans e, let ⟨gs, cs, s, k, h1, h2, h3, h4⟩ := o.pur.at_; ⟨⟨gs, cs, s, k, e _ _ h1, e _ _ h2, e _ _ h3, h4⟩, o.pur.cp, o.pur.cg, o.pur.cc, o.pur.pg, o.pur.pc, o.pur.gc⟩⟩, fun a u h _ _ => e a u h, fun _ _ => rfl⟩
theorem Pur.cn (p : Pur z C H) : H z.c ≠ none := by
  obtain ⟨gs, cs, s, k, _, _, e, _⟩ := p.at_
  rw [e]
  exact fun q => nomatch q
/-- a new object goes into the core -/
theorem Tr.put {p : Addr} {u : HO} (o : Ok z C H) (h : H p = none) : Tr z C H (upd C p u) (upd H p u) := by
  have hc : C p = none := by
    cases e : C p with
    | none => rfl
    | some x => rw [o.ex p x e] at h; cases h
  have np : z.p ≠ p := fun e => o.pur.pn (by rw [e]; exact h)
  have ng : z.g ≠ p := fun e => o.pur.gn (by rw [e]; exact h)
  have nc : z.c ≠ p := fun e => o.pur.cn (by rw [e]; exact h)
  refine ⟨Ex.new hc, ⟨fun a x e => ?_, ?_⟩, fun a x e _ _ => Ex.new h a x e, fun a e => ?_⟩
  · by_cases ha : a = p
    · subst ha; rw [upd_same] at e ⊢; exact e
    · rw [upd_ne ha] at e ⊢; exact o.ex a x e
  · obtain ⟨gs, cs, s, k, h1, h2, h3, h4⟩ := o.pur.at_
    exact ⟨⟨gs, cs, s, k, by rw [upd_ne np]; exact h1, by rw [upd_ne ng]; exact h2, by rw [upd_ne nc]; exact h3, h4⟩, by rw [upd_ne np]; exact o.pur.cp, by rw [upd_ne ng]; exact o.pur.cg, by rw [upd_ne nc]; exact o.pur.cc, o.pur.pg, o.pur.pc, o.pur.gc⟩
  · have : a ≠ p := fun q => e (by rw [q]; exact h)
    rw [upd_ne this]
end

abbrev Env := List (Option D)
abbrev ME := Env → (D → Prop) → Prop
structure EnvR (K : PySem.W.Frag) (z : Pz) (C : Hp) (env : Env) (σ : L2.St) : Prop where
  len : env.length = σ.length
  at_ : ∀ (i : Nat) (d : D), env[i]? = some (some d) → ∃ v, σ[i]? = some (some v) ∧ Dn K C z.p d v
theorem EnvR.mono {K : PySem.W.Frag} {z : Pz} {C C' : Hp} {env : Env} {σ : L2.St} (r : EnvR K z C env σ) (e : Ex C C') : EnvR K z C' env σ :=
  ⟨r.len, fun i d h => let ⟨v, h1, h2⟩ := r.at_ i d h; ⟨v, h1, h2.mono e⟩⟩
theorem EnvR.set {K : PySem.W.Frag} {z : Pz} {C : Hp} {env : Env} {σ : L2.St} (r : EnvR K z C env σ) (i : Nat) {d : D} {v : V} (h : Dn K C z.p d v) : EnvR K z C (env.set i (some d)) (σ.set i (some v)) := by
  refine ⟨by rw [List.length_set, List.length_set]; exact r.len, fun j e hj => ?_⟩
  by_cases hij : i = j
  · subst hij
    have hl : i < env.length := by
      have := (List.getElem?_eq_some_iff.mp hj).1
      rwa [List.length_set] at this
    rw [List.getElem?_set_self hl] at hj
    cases hj
    exact ⟨v, by rw [List.getElem?_set_self (by rw [← r.len]; exact hl)], h⟩
  · rw [List.getElem?_set_ne hij] at hj
    rw [List.getElem?_set_ne hij]
    exact r.at_ j e hj
theorem EnvR.unset {K : PySem.W.Frag} {z : Pz} {C : Hp} {env : Env} {σ : L2.St} (r : EnvR K z C env σ) (i : Nat) : EnvR K z C (env.set i none) (σ.set i none) := by
  refine ⟨by rw [List.length_set, List.length_set]; exact r.len, fun j e hj => ?_⟩
  by_cases hij : i = j
  · subst hij
    have hl : i < env.length := by
      have := (List.getElem?_eq_some_iff.mp hj).1
      rwa [List.length_set] at this
    rw [List.getElem?_set_self hl] at hj
    cases hj
  · rw [List.getElem?_set_ne hij] at hj
    rw [List.getElem?_set_ne hij]
    exact r.at_ j e hj
def wipeE (env : Env) : List Nat → Env
  | [] => env
  | v :: vs => (wipeE env vs).set v none
theorem EnvR.wipe {K : PySem.W.Frag} {z : Pz} {C : Hp} {env : Env} {σ : L2.St} (r : EnvR K z C env σ) : ∀ vs : List Nat, EnvR K z C (wipeE env vs) (L2.wipe σ vs)
  | [] => r
  | v :: vs => (EnvR.wipe r vs).unset v

def lift (K : PySem.W.Frag) (m : ME) : TE := fun σ H Q => ∃ z C env, Ok z C H ∧ EnvR K z C env σ ∧ m env fun d => ∀ v C' H', Tr z C H C' H' → Dn K C' z.p d v → Q v H'
def Mono (m : ME) : Prop := ∀ env (Q Q' : D → Prop), (∀ d, Q d → Q' d) → m env Q → m env Q'
structure PD (X : Cx) (e : Expr) (m : ME) : Prop where
  run : PE X e (lift X.K m)
  mono : Mono m
theorem pe_imp {X : Cx} {e : Expr} {t t' : TE} (h : PE X e t) (i : ∀ σ H Q, t' σ H Q → t σ H Q) : PE X e t' := ⟨fun pins s σ H Q I q => h.run pins s σ H Q I (i σ H Q q)⟩

/-! ### names, constants -/
def mVar (i : Nat) : ME := fun env Q => ∃ d, env[i]? = some (some d) ∧ Q d
def mC (d : D) : ME := fun _ Q => Q d
section
variable {X : Cx} {e a b : Expr} {pos : Pos} {ma mb : ME}
theorem pd_var (i : Nat) (h : PE X e (tVar i)) : PD X e (mVar i) := by
  refine ⟨pe_imp h fun σ H Q q => ?_, fun env Q Q' i ⟨d, h1, h2⟩ => ⟨d, h1, i d h2⟩⟩
  obtain ⟨z, C, env, o, r, d, h1, h2⟩ := q
  obtain ⟨v, g1, g2⟩ := r.at_ i d h1
  exact ⟨v, g1, h2 v C H (Tr.refl o) g2⟩
theorem pd_const {v : V} {d : D} (h : PE X e (tC v)) (hd : ∀ K C pu, Dn K C pu d v) : PD X e (mC d) := by
  refine ⟨pe_imp h fun σ H Q q => ?_, fun env Q Q' i h => i _ h⟩
  obtain ⟨z, C, env, o, r, h2⟩ := q
  exact h2 v C H (Tr.refl o) (hd _ _ _)
theorem pd_int {i j} : PD X (.Constant (.int i) j pos) (mC (.int i)) := pd_const pe_int fun _ _ _ => dn_int.mpr rfl
theorem pd_bl {i j} : PD X (.Constant (.bool i) j pos) (mC (.bl i)) := pd_const pe_bl fun _ _ _ => dn_bl.mpr rfl
theorem pd_non {j} : PD X (.Constant .none j pos) (mC .non) := pd_const pe_non fun _ _ _ => dn_non.mpr rfl
theorem pd_str {x j} : PD X (.Constant (.str x) j pos) (mC (.str x)) := pd_const pe_str fun _ _ _ => dn_str.mpr rfl

/-! ### two-place operations -/
/-- f on values does what g does on data -/
def OpD (X : Cx) (f : Value → Value → Sem Value) (g : D → D → Option D) : Prop :=
  ∃ R : R2, OpR X f R ∧ ∀ (z : Pz) (C H : Hp) (d e u : D) (x y : V) (Q : VK), Ok z C H → Dn X.K C z.p d x → Dn X.K C z.p e y → g d e = some u → (∀ v C' H', Tr z C H C' H' → Dn X.K C' z.p u v → Q v H') → R x y H Q
def mOp (g : D → D → Option D) (ma mb : ME) : ME := fun env Q => ma env fun x => mb env fun y => ∃ u, g x y = some u ∧ Q u
theorem mono_op {g : D → D → Option D} (ha : Mono ma) (hb : Mono mb) : Mono (mOp g ma mb) := fun env Q Q' i h =>
  ha env _ _ (fun x h => hb env _ _ (fun y ⟨u, h1, h2⟩ => ⟨u, h1, i u h2⟩) h) h
/-- two expressions in a row -/
theorem two {ta tb : TE} {R : V → V → Hp → Prop} {σ : L2.St} {H : Hp} {z : Pz} {C : Hp} {env : Env} {m1 m2 : ME} {P : D → D → Prop} {K : PySem.W.Frag} (o : Ok z C H) (r : EnvR K z C env σ) (ha : Mono m1) (hb : Mono m2)
    (h : m1 env fun x => m2 env fun y => P x y)
    (k : ∀ x y v u C' H', P x y → Tr z C H C' H' → Dn K C' z.p x v → Dn K C' z.p y u → R v u H') : lift K m1 σ H fun v H1 => lift K m2 σ H1 fun u H2 => R v u H2 :=
  ⟨z, C, env, o, r, ha env _ _ (fun x h1 v C1 H1 t1 d1 => ⟨z, C1, env, t1.ok, r.mono t1.cc, hb env _ _ (fun y h2 u C2 H2 t2 d2 => k x y v u C2 H2 h2 (t1.trans t2) (d1.mono t2.cc) d2) h1⟩) h⟩
theorem pd_op {op : Operator} {g : D → D → Option D} (ho : OpD X (binaryOp op) g) (ha : PD X a ma) (hb : PD X b mb) : PD X (.BinOp a op b pos) (mOp g ma mb) := by
  obtain ⟨R, hR, hi⟩ := ho
  refine ⟨pe_imp (pe_op hR ha.run hb.run) fun σ H Q q => ?_, mono_op ha.mono hb.mono⟩
  obtain ⟨z, C, env, o, r, q⟩ := q
  exact two (ta := lift X.K ma) (tb := lift X.K mb) o r ha.mono hb.mono q fun x y v u C' H' ⟨w, e, q⟩ t d1 d2 => hi z C' H' x y w v u Q t.ok d1 d2 e fun v' C2 H2 t2 => q v' C2 H2 (t.trans t2)
theorem pd_cmp {op : CmpOp} {g : D → D → Option D} (ho : OpD X (compareOp op) g) (ha : PD X a ma) (hb : PD X b mb) (hm : behindInMarks op b = false) : PD X (.Compare a [op] [b] pos) (mOp g ma mb) := by
  obtain ⟨R, hR, hi⟩ := ho
  refine ⟨pe_imp (pe_cmpR hR ha.run hb.run hm) fun σ H Q q => ?_, mono_op ha.mono hb.mono⟩
  obtain ⟨z, C, env, o, r, q⟩ := q
  exact two (ta := lift X.K ma) (tb := lift X.K mb) o r ha.mono hb.mono q fun x y v u C' H' ⟨w, e, q⟩ t d1 d2 => hi z C' H' x y w v u Q t.ok d1 d2 e fun v' C2 H2 t2 => q v' C2 H2 (t.trans t2)
theorem OpD.of {f : Value → Value → Sem Value} {g : D → D → Option D} (R : R2) (h : OpR X f R) (k : ∀ (z : Pz) (C H : Hp) (d e u : D) (x y : V) (Q : VK), Ok z C H → Dn X.K C z.p d x → Dn X.K C z.p e y → g d e = some u → (∀ v C' H', Tr z C H C' H' → Dn X.K C' z.p u v → Q v H') → R x y H Q) : OpD X f g := ⟨R, h, k⟩

/-! ### tests -/
abbrev MT := Env → (Bool → Prop) → Prop
def liftT (K : PySem.W.Frag) (m : MT) : TT := fun σ H Q => ∃ z C env, Ok z C H ∧ EnvR K z C env σ ∧ m env fun b => ∀ C' H', Tr z C H C' H' → Q b H'
def MonoT (m : MT) : Prop := ∀ env (Q Q' : Bool → Prop), (∀ d, Q d → Q' d) → m env Q → m env Q'
structure PDT (X : Cx) (e : Expr) (m : MT) : Prop where
  run : PT X e (liftT X.K m)
  mono : MonoT m
structure PDW (X : Cx) (e : Expr) (m : MT) : Prop where
  run : PW X e (liftT X.K m)
  mono : MonoT m
theorem pt_imp {t t' : TT} (h : PT X e t) (i : ∀ σ H Q, t' σ H Q → t σ H Q) : PT X e t' := ⟨fun pins s σ H Q I q => h.run pins s σ H Q I (i σ H Q q)⟩
theorem pw_imp {t t' : TT} (h : PW X e t) (i : ∀ σ H Q, t' σ H Q → t σ H Q) : PW X e t' := ⟨fun w pins s σ H Q I q => h.run w pins s σ H Q I (i σ H Q q)⟩
/-- a value that is a bool, as a test -/
def tBl (m : ME) : MT := fun env Q => m env fun d => ∃ b, d = .bl b ∧ Q b
theorem mono_bl {m : ME} (h : Mono m) : MonoT (tBl m) := fun env Q Q' i q => h env _ _ (fun d ⟨b, e, q⟩ => ⟨b, e, i b q⟩) q
theorem lift_bl {K : PySem.W.Frag} {m : ME} (hm : Mono m) {σ : L2.St} {H : Hp} {Q : Bool → Hp → Prop} (q : liftT K (tBl m) σ H Q) : lift K m σ H fun x H' => ∃ k, x = .bl k ∧ Q k H' := by
  obtain ⟨z, C, env, o, r, q⟩ := q
  exact ⟨z, C, env, o, r, hm env _ _ (fun d ⟨b, e, q⟩ v C' H' t dn => ⟨b, dn_bl.mp (e ▸ dn), q C' H' t⟩) q⟩
theorem pdt_val {m : ME} (h : PD X e m) (he : ∀ whole, isTrue e X.env whole = (do let v ← whole; standAt e.pos; holding [v] (truthy v)) := by intro _; rfl) : PDT X e (tBl m) :=
  ⟨pt_imp (pt_val h.run he) fun σ H Q q => lift_bl h.mono q, mono_bl h.mono⟩
theorem pdt_cmp {op : CmpOp} {g : D → D → Option D} (ho : OpD X (compareOp op) g) (ha : PD X a ma) (hb : PD X b mb) (hm : behindInMarks op b = false) : PDT X (.Compare a [op] [b] pos) (tBl (mOp g ma mb)) := by
  obtain ⟨R, hR, hi⟩ := ho
  refine ⟨pt_imp (pt_cmpR hR ha.run hb.run hm) fun σ H Q q => ?_, mono_bl (mono_op ha.mono hb.mono)⟩
  obtain ⟨z, C, env, o, r, q⟩ := q
  exact two (ta := lift X.K ma) (tb := lift X.K mb) o r ha.mono hb.mono q fun x y v u C' H' ⟨w, e, k, e2, q⟩ t d1 d2 => hi z C' H' x y w v u _ t.ok d1 d2 e fun v' C2 H2 t2 dn => ⟨k, dn_bl.mp (e2 ▸ dn), q C2 H2 (t.trans t2)⟩
def mNotT (m : MT) : MT := fun env Q => m env fun b => Q (!b)
def mAndT (m n : MT) : MT := fun env Q => m env fun b => if b = true then n env Q else Q false
def mOrT (m n : MT) : MT := fun env Q => m env fun b => if b = true then Q true else n env Q
theorem liftT_seq {K : PySem.W.Frag} {z : Pz} {C H : Hp} {env : Env} {σ : L2.St} {m : MT} {P : Bool → Prop} {Q : Bool → Hp → Prop} (hm : MonoT m) (o : Ok z C H) (r : EnvR K z C env σ) (q : m env P) (k : ∀ b C' H', P b → Tr z C H C' H' → Q b H') : liftT K m σ H Q :=
  ⟨z, C, env, o, r, hm env _ _ (fun b p C' H' t => k b C' H' p t) q⟩
theorem pdt_not {m : MT} (h : PDT X a m) : PDT X (.UnaryOp .Not a pos) (mNotT m) := by
  refine ⟨pt_imp (pt_not h.run) fun σ H Q q => ?_, fun env Q Q' i q => h.mono env _ _ (fun b q => i _ q) q⟩
  obtain ⟨z, C, env, o, r, q⟩ := q
  exact ⟨z, C, env, o, r, q⟩
theorem pdw_and1 {m : MT} (h : PDT X a m) : PDW X (.BoolOp .And [a] pos) m := ⟨pw_and1 h.run, h.mono⟩
theorem pdw_or1 {m : MT} (h : PDT X a m) : PDW X (.BoolOp .Or [a] pos) m := ⟨pw_or1 h.run, h.mono⟩
variable {rest : List Expr}
theorem pdw_and {m n : MT} (h : PDT X a m) (k : PDW X (.BoolOp .And (b :: rest) pos) n) : PDW X (.BoolOp .And (a :: b :: rest) pos) (mAndT m n) := by
  refine ⟨pw_imp (pw_and h.run k.run) fun σ H Q q => ?_, fun env Q Q' i q => h.mono env _ _ (fun b q => ?_) q⟩
  · obtain ⟨z, C, env, o, r, q⟩ := q
    refine liftT_seq h.mono o r q fun b C' H' p t => ?_
    cases b with
    | false => exact p C' H' t
    | true => exact liftT_seq k.mono t.ok (r.mono t.cc) p fun b2 C2 H2 p2 t2 => p2 C2 H2 (t.trans t2)
  · cases b with
    | false => exact i _ q
    | true => exact k.mono env _ _ i q
theorem pdw_or {m n : MT} (h : PDT X a m) (k : PDW X (.BoolOp .Or (b :: rest) pos) n) : PDW X (.BoolOp .Or (a :: b :: rest) pos) (mOrT m n) := by
  refine ⟨pw_imp (pw_or h.run k.run) fun σ H Q q => ?_, fun env Q Q' i q => h.mono env _ _ (fun b q => ?_) q⟩
  · obtain ⟨z, C, env, o, r, q⟩ := q
    refine liftT_seq h.mono o r q fun b C' H' p t => ?_
    cases b with
    | true => exact p C' H' t
    | false => exact liftT_seq k.mono t.ok (r.mono t.cc) p fun b2 C2 H2 p2 t2 => p2 C2 H2 (t.trans t2)
  · cases b with
    | true => exact i _ q
    | false => exact k.mono env _ _ i q
theorem PDW.pdt {m : MT} (h : PDW X e m) : PDT X e m := ⟨h.run.pt, h.mono⟩
/-- and, or, not, if as values -/
def mIf (t : MT) (ma mb : ME) : ME := fun env Q => t env fun b => if b = true then ma env Q else mb env Q
theorem lift_use {K : PySem.W.Frag} {z : Pz} {C H : Hp} {env : Env} {σ : L2.St} {m : ME} {P : D → Prop} {Q : VK} (hm : Mono m) (o : Ok z C H) (r : EnvR K z C env σ) (q : m env P) (k : ∀ d v C' H', P d → Tr z C H C' H' → Dn K C' z.p d v → Q v H') : lift K m σ H Q :=
  ⟨z, C, env, o, r, hm env _ _ (fun d p v C' H' t dn => k d v C' H' p t dn) q⟩
theorem pd_ifExp {c : Expr} {t : MT} (hc : PDT X c t) (ha : PD X a ma) (hb : PD X b mb) : PD X (.IfExp c a b pos) (mIf t ma mb) := by
  refine ⟨pe_imp (pe_ifExp hc.run ha.run hb.run) fun σ H Q q => ?_, fun env Q Q' i q => hc.mono env _ _ (fun b q => ?_) q⟩
  · obtain ⟨z, C, env, o, r, q⟩ := q
    refine liftT_seq hc.mono o r q fun b C' H' p t => ?_
    cases b with
    | true => exact lift_use ha.mono t.ok (r.mono t.cc) p fun d v C2 H2 p2 t2 dn => p2 v C2 H2 (t.trans t2) dn
    | false => exact lift_use hb.mono t.ok (r.mono t.cc) p fun d v C2 H2 p2 t2 dn => p2 v C2 H2 (t.trans t2) dn
  · cases b with
    | true => exact ha.mono env _ _ i q
    | false => exact hb.mono env _ _ i q
def mAndV (ma mb : ME) : ME := fun env Q => ma env fun x => ∃ c, x = .bl c ∧ if c = true then mb env Q else Q (.bl false)
def mOrV (ma mb : ME) : ME := fun env Q => ma env fun x => ∃ c, x = .bl c ∧ if c = true then Q (.bl true) else mb env Q
def mNotV (ma : ME) : ME := fun env Q => ma env fun x => ∃ c, x = .bl c ∧ Q (.bl (!c))
theorem pd_one {op} (h : PD X a ma) : PD X (.BoolOp op [a] pos) ma := ⟨pe_one h.run, h.mono⟩
theorem pd_and (ha : PD X a ma) (hb : PD X (.BoolOp .And (b :: rest) pos) mb) : PD X (.BoolOp .And (a :: b :: rest) pos) (mAndV ma mb) := by
  refine ⟨pe_imp (pe_and ha.run hb.run) fun σ H Q q => ?_, fun env Q Q' i q => ha.mono env _ _ (fun x ⟨c, e, q⟩ => ⟨c, e, ?_⟩) q⟩
  · obtain ⟨z, C, env, o, r, q⟩ := q
    refine lift_use ha.mono o r q fun d v C' H' ⟨c, e, p⟩ t dn => ⟨c, dn_bl.mp (e ▸ dn), ?_⟩
    cases c with
    | true => exact lift_use hb.mono t.ok (r.mono t.cc) p fun d v C2 H2 p2 t2 dn => p2 v C2 H2 (t.trans t2) dn
    | false => exact p _ C' H' t (dn_bl.mpr rfl)
  · cases c with
    | true => exact hb.mono env _ _ i q
    | false => exact i _ q
theorem pd_or (ha : PD X a ma) (hb : PD X (.BoolOp .Or (b :: rest) pos) mb) : PD X (.BoolOp .Or (a :: b :: rest) pos) (mOrV ma mb) := by
  refine ⟨pe_imp (pe_or ha.run hb.run) fun σ H Q q => ?_, fun env Q Q' i q => ha.mono env _ _ (fun x ⟨c, e, q⟩ => ⟨c, e, ?_⟩) q⟩
  · obtain ⟨z, C, env, o, r, q⟩ := q
    refine lift_use ha.mono o r q fun d v C' H' ⟨c, e, p⟩ t dn => ⟨c, dn_bl.mp (e ▸ dn), ?_⟩
    cases c with
    | false => exact lift_use hb.mono t.ok (r.mono t.cc) p fun d v C2 H2 p2 t2 dn => p2 v C2 H2 (t.trans t2) dn
    | true => exact p _ C' H' t (dn_bl.mpr rfl)
  · cases c with
    | false => exact hb.mono env _ _ i q
    | true => exact i _ q
theorem pd_not (ha : PD X a ma) : PD X (.UnaryOp .Not a pos) (mNotV ma) := by
  refine ⟨pe_imp (pe_not ha.run) fun σ H Q q => ?_, fun env Q Q' i q => ha.mono env _ _ (fun x ⟨c, e, q⟩ => ⟨c, e, i _ q⟩) q⟩
  obtain ⟨z, C, env, o, r, q⟩ := q
  exact lift_use ha.mono o r q fun d v C' H' ⟨c, e, p⟩ t dn => ⟨c, dn_bl.mp (e ▸ dn), p _ C' H' t (dn_bl.mpr rfl)⟩
/-- one-place operations -/
def UnD (X : Cx) (f : Value → Sem Value) (g : D → Option D) : Prop :=
  ∃ R : V → Hp → VK → Prop, UnR X f R ∧ ∀ (z : Pz) (C H : Hp) (d u : D) (x : V) (Q : VK), Ok z C H → Dn X.K C z.p d x → g d = some u → (∀ v C' H', Tr z C H C' H' → Dn X.K C' z.p u v → Q v H') → R x H Q
def mUn (g : D → Option D) (ma : ME) : ME := fun env Q => ma env fun x => ∃ u, g x = some u ∧ Q u
theorem pd_un {op : UnaryOp} {g : D → Option D} (ho : UnD X (unaryOp op) g) (ha : PD X a ma) : PD X (.UnaryOp op a pos) (mUn g ma) := by
  obtain ⟨R, hR, hi⟩ := ho
  refine ⟨pe_imp (pe_un hR ha.run) fun σ H Q q => ?_, fun env Q Q' i q => ha.mono env _ _ (fun x ⟨c, e, q⟩ => ⟨c, e, i _ q⟩) q⟩
  obtain ⟨z, C, env, o, r, q⟩ := q
  exact lift_use ha.mono o r q fun d v C' H' ⟨c, e, p⟩ t dn => hi z C' H' d c v Q t.ok dn e fun v' C2 H2 t2 => p v' C2 H2 (t.trans t2)

/-! ### arguments, displays -/
abbrev MA := Env → (List D → Prop) → Prop
def liftA (K : PySem.W.Frag) (m : MA) : TA := fun σ H Q => ∃ z C env, Ok z C H ∧ EnvR K z C env σ ∧ m env fun ds => ∀ vs C' H', Tr z C H C' H' → Dns K C' z.p ds vs → Q vs H'
def MonoA (m : MA) : Prop := ∀ env (Q Q' : List D → Prop), (∀ d, Q d → Q' d) → m env Q → m env Q'
structure PDA (X : Cx) (es : List Expr) (m : MA) : Prop where
  run : PA X es (liftA X.K m)
  mono : MonoA m
def maNil : MA := fun _ Q => Q []
def maCons (ma : ME) (mr : MA) : MA := fun env Q => ma env fun d => mr env fun ds => Q (d :: ds)
theorem pa_imp {es : List Expr} {t t' : TA} (h : PA X es t) (i : ∀ σ H Q, t' σ H Q → t σ H Q) : PA X es t' := ⟨fun p pins s σ H Q I q => h.run p pins s σ H Q I (i σ H Q q)⟩
theorem pda_nil : PDA X [] maNil := ⟨pa_imp pa_nil fun σ H Q ⟨z, C, env, o, r, q⟩ => q [] C H (Tr.refl o) (dns_nil.mpr rfl), fun env Q Q' i q => i _ q⟩
theorem liftA_use {K : PySem.W.Frag} {z : Pz} {C H : Hp} {env : Env} {σ : L2.St} {m : MA} {P : List D → Prop} {Q : List V → Hp → Prop} (hm : MonoA m) (o : Ok z C H) (r : EnvR K z C env σ) (q : m env P) (k : ∀ d v C' H', P d → Tr z C H C' H' → Dns K C' z.p d v → Q v H') : liftA K m σ H Q :=
  ⟨z, C, env, o, r, hm env _ _ (fun d p v C' H' t dn => k d v C' H' p t dn) q⟩
theorem pda_cons {es : List Expr} {mr : MA} (ha : PD X e ma) (hr : PDA X es mr) (hs : starEach (e :: es) X.env = (false, eval e X.env) :: starEach es X.env := by rfl) : PDA X (e :: es) (maCons ma mr) := by
  refine ⟨pa_imp (pa_cons ha.run hr.run hs) fun σ H Q q => ?_, fun env Q Q' i q => ha.mono env _ _ (fun d q => hr.mono env _ _ (fun ds q => i _ q) q) q⟩
  obtain ⟨z, C, env, o, r, q⟩ := q
  exact lift_use ha.mono o r q fun d v C' H' p t dn => liftA_use hr.mono t.ok (r.mono t.cc) p fun ds vs C2 H2 p2 t2 dns => p2 (v :: vs) C2 H2 (t.trans t2) (dns_cons.mpr ⟨v, vs, rfl, dn.mono t2.cc, dns⟩)
def szOk (n : Nat) : Bool := decide (n ≤ 4000000)
theorem sz_ok {n : Nat} (h : szOk n = true) : n ≤ sizeLine := by
  have : n ≤ 4000000 := of_decide_eq_true h
  have e : sizeLine = 16777216 := sizeLine_eq
  omega
theorem sz_lt {n : Nat} (h : szOk n = true) : n < sizeLine := by
  have : n ≤ 4000000 := of_decide_eq_true h
  have e : sizeLine = 16777216 := sizeLine_eq
  omega
def mTup (m : MA) : ME := fun env Q => m env fun ds => szOk ds.length = true ∧ Q (.tup ds)
def mLst (m : MA) : ME := fun env Q => m env fun ds => szOk ds.length = true ∧ Q (.lst ds)
theorem dn_new_tup {K : PySem.W.Frag} {C : Hp} {pu p : Addr} {ob : Obj} {ds : List D} {xs : List V} (h : Dns K C pu ds xs) (hc : C p = none) (hd : ob.dict = none) : Dn K (upd C p (.frz ob (.tup xs))) pu (.tup ds) (.ref p) :=
  dn_tupP.mpr ⟨p, xs, rfl, .inl ⟨ob, upd_same, hd⟩, h.mono (Ex.new hc)⟩
theorem dn_new_lst {K : PySem.W.Frag} {C : Hp} {pu p : Addr} {ds : List D} {xs : List V} (h : Dns K C pu ds xs) (hc : C p = none) : Dn K (upd C p (.lst xs)) pu (.lst ds) (.ref p) :=
  dn_lst.mpr ⟨p, xs, rfl, upd_same, h.mono (Ex.new hc)⟩
theorem pd_tup {es : List Expr} {m : MA} {x1} (h : PDA X es m) : PD X (.Tuple es x1 pos) (mTup m) := by
  refine ⟨pe_imp (pe_tupF h.run) fun σ H Q q => ?_, fun env Q Q' i q => h.mono env _ _ (fun ds ⟨a, q⟩ => ⟨a, i _ q⟩) q⟩
  obtain ⟨z, C, env, o, r, q⟩ := q
  exact liftA_use h.mono o r q fun ds vs C' H' ⟨hz, p⟩ t dn => ⟨by rw [dn.len]; exact sz_ok hz, fun p' ob hd hp => p _ _ _ (t.trans (Tr.put t.ok hp)) (dn_new_tup dn (fresh_back t.ok.ex hp) hd)⟩
theorem pd_lst {es : List Expr} {m : MA} (h : PDA X es m) : PD X (.List es pos) (mLst m) := by
  refine ⟨pe_imp (pe_lst h.run) fun σ H Q q => ?_, fun env Q Q' i q => h.mono env _ _ (fun ds ⟨a, q⟩ => ⟨a, i _ q⟩) q⟩
  obtain ⟨z, C, env, o, r, q⟩ := q
  exact liftA_use h.mono o r q fun ds vs C' H' ⟨hz, p⟩ t dn => ⟨by rw [dn.len]; exact sz_ok hz, fun p' hp => p _ _ _ (t.trans (Tr.put t.ok hp)) (dn_new_lst dn (fresh_back t.ok.ex hp))⟩

/-! ### calls -/
/-- what a def does, on data -/
abbrev SpD := List D → (D → Prop) → Prop
def liftF (K : PySem.W.Frag) (sp : SpD) : Sp := fun vs H Q _ => ∃ z C ds, ∃ T : D → Prop, Ok z C H ∧ Dns K C z.p ds vs ∧ sp ds T ∧ ∀ d v C' H', T d → Tr z C H C' H' → Dn K C' z.p d v → Q v H'
def CallD (X : Cx) (f : Value) (g : List D → Option D) : Prop :=
  ∃ R : List V → Hp → VK → Prop, CallR X f R ∧ ∀ (z : Pz) (C H : Hp) (ds : List D) (u : D) (xs : List V) (Q : VK), Ok z C H → Dns X.K C z.p ds xs → g ds = some u → (∀ v C' H', Tr z C H C' H' → Dn X.K C' z.p u v → Q v H') → R xs H Q
def mCB (g : List D → Option D) (m : MA) : ME := fun env Q => m env fun ds => ∃ u, g ds = some u ∧ Q u
theorem cb_use {R : List V → Hp → VK → Prop} {g : List D → Option D} {m : MA} {es : List Expr} (h : PDA X es m) (hi : ∀ (z : Pz) (C H : Hp) (ds : List D) (u : D) (xs : List V) (Q : VK), Ok z C H → Dns X.K C z.p ds xs → g ds = some u → (∀ v C' H', Tr z C H C' H' → Dn X.K C' z.p u v → Q v H') → R xs H Q)
    {σ : L2.St} {H : Hp} {Q : VK} (q : lift X.K (mCB g m) σ H Q) : tCB R (liftA X.K m) σ H Q := by
  obtain ⟨z, C, env, o, r, q⟩ := q
  exact liftA_use h.mono o r q fun ds vs C' H' ⟨u, e, p⟩ t dn => hi z C' H' ds u vs Q t.ok dn e fun v C2 H2 t2 => p v C2 H2 (t.trans t2)
theorem mono_cb {g : List D → Option D} {m : MA} (h : MonoA m) : Mono (mCB g m) := fun env Q Q' i q => h env _ _ (fun ds ⟨u, e, q⟩ => ⟨u, e, i _ q⟩) q
theorem pd_callB {x : Str} {p : Pos} {es : List Expr} {m : MA} {id : String} {g : List D → Option D} (hc : CallD X (.builtin id) g) (hg : Gl X x) (hm : X.mg x = none) (hv : bootBuiltins x = some (.builtin id)) (h : PDA X (e :: es) m)
    (hn : x ≠ "__name__" := by decide) (hdb : (x == ("__debug__" : Str)) = false := by decide) (he : starEach (e :: es) X.env = (false, eval e X.env) :: starEach es X.env := by rfl) (hpl : (backTo pos (starEach es X.env)).any (·.1) = false := by rfl) :
    PD X (.Call (.Name x p) (e :: es) [] pos) (mCB g m) := by
  obtain ⟨R, hR, hi⟩ := hc
  exact ⟨pe_imp (pe_callB hR hg hm hv h.run hn hdb he hpl) fun σ H Q q => cb_use h hi q, mono_cb h.mono⟩
theorem pd_callTy {x : Str} {p : Pos} {es : List Expr} {m : MA} {T : String} {g : List D → Option D} (hc : CallD X (.type T) g) (hg : Gl X x) (hm : X.mg x = none) (hv : bootBuiltins x = some (.type T)) (h : PDA X (e :: es) m)
    (hn : x ≠ "__name__" := by decide) (hdb : (x == ("__debug__" : Str)) = false := by decide) (he : starEach (e :: es) X.env = (false, eval e X.env) :: starEach es X.env := by rfl) (hpl : (backTo pos (starEach es X.env)).any (·.1) = false := by rfl) :
    PD X (.Call (.Name x p) (e :: es) [] pos) (mCB g m) := by
  obtain ⟨R, hR, hi⟩ := hc
  exact ⟨pe_imp (pe_callTy hR hg hm hv h.run hn hdb he hpl) fun σ H Q q => cb_use h hi q, mono_cb h.mono⟩
end
end BV


/-! Statements, loops, comprehensions, by value. -/
namespace BV
open PySem PySem.Spec PyProof.Rows L2 Evl

abbrev SEnv := List (Option (Bool × D))
def view (rs : List Nat) : Nat → SEnv → Env
  | _, [] => []
  | k, o :: r => (match o with | none => none | some (false, d) => some d | some (true, d) => if rs.contains k then some d else none) :: view rs (k + 1) r
def frz (rs : List Nat) : Nat → SEnv → SEnv
  | _, [] => []
  | k, o :: r => (match o with | none => none | some (false, d) => some (false, d) | some (true, d) => some (!rs.contains k, d)) :: frz rs (k + 1) r
theorem view_len {rs : List Nat} : ∀ (k : Nat) (env : SEnv), (view rs k env).length = env.length
  | k, [] => rfl
  | k, none :: r => by simp [view, view_len (k + 1) r]
  | k, some (false, d) :: r => by simp [view, view_len (k + 1) r]
  | k, some (true, d) :: r => by simp [view, view_len (k + 1) r]
theorem frz_len {rs : List Nat} : ∀ (k : Nat) (env : SEnv), (frz rs k env).length = env.length
  | k, [] => rfl
  | k, none :: r => by simp [frz, frz_len (k + 1) r]
  | k, some (false, d) :: r => by simp [frz, frz_len (k + 1) r]
  | k, some (true, d) :: r => by simp [frz, frz_len (k + 1) r]
theorem view_at {rs : List Nat} : ∀ {k : Nat} {env : SEnv} {i : Nat} {d : D}, (view rs k env)[i]? = some (some d) → env[i]? = some (some (false, d)) ∨ (env[i]? = some (some (true, d)) ∧ k + i ∈ rs)
  | k, [], i, d, h => by simp [view] at h
  | k, none :: r, 0, d, h => by simp [view] at h
  | k, some (false, c) :: r, 0, d, h => by simp [view] at h; simp [h]
  | k, some (true, c) :: r, 0, d, h => by
    simp only [view, List.getElem?_cons_zero, Option.some.injEq] at h
    split at h
    · rename_i hc
      cases h
      exact .inr ⟨rfl, by simpa using hc⟩
    · cases h
  | k, none :: r, i + 1, d, h => by
    have := view_at (rs := rs) (k := k + 1) (env := r) (i := i) (d := d) (by simpa [view] using h)
    simpa [Nat.add_assoc, Nat.add_comm 1 i] using this
  | k, some (false, c) :: r, i + 1, d, h => by
    have := view_at (rs := rs) (k := k + 1) (env := r) (i := i) (d := d) (by simpa [view] using h)
    simpa [Nat.add_assoc, Nat.add_comm 1 i] using this
  | k, some (true, c) :: r, i + 1, d, h => by
    have := view_at (rs := rs) (k := k + 1) (env := r) (i := i) (d := d) (by simpa [view] using h)
    simpa [Nat.add_assoc, Nat.add_comm 1 i] using this
theorem frz_sh {rs : List Nat} : ∀ {k : Nat} {env : SEnv} {i : Nat} {d : D}, (frz rs k env)[i]? = some (some (false, d)) → env[i]? = some (some (false, d)) ∨ (env[i]? = some (some (true, d)) ∧ k + i ∈ rs)
  | k, [], i, d, h => by simp [frz] at h
  | k, none :: r, 0, d, h => by simp [frz] at h
  | k, some (false, c) :: r, 0, d, h => by simp [frz] at h; simp [h]
  | k, some (true, c) :: r, 0, d, h => by
    simp only [frz, List.getElem?_cons_zero, Option.some.injEq, Prod.mk.injEq] at h
    exact .inr ⟨by simp [h.2], by simpa using h.1⟩
  | k, none :: r, i + 1, d, h => by
    have := frz_sh (rs := rs) (k := k + 1) (env := r) (i := i) (d := d) (by simpa [frz] using h)
    simpa [Nat.add_assoc, Nat.add_comm 1 i] using this
  | k, some (false, c) :: r, i + 1, d, h => by
    have := frz_sh (rs := rs) (k := k + 1) (env := r) (i := i) (d := d) (by simpa [frz] using h)
    simpa [Nat.add_assoc, Nat.add_comm 1 i] using this
  | k, some (true, c) :: r, i + 1, d, h => by
    have := frz_sh (rs := rs) (k := k + 1) (env := r) (i := i) (d := d) (by simpa [frz] using h)
    simpa [Nat.add_assoc, Nat.add_comm 1 i] using this
theorem frz_own {rs : List Nat} : ∀ {k : Nat} {env : SEnv} {i : Nat} {d : D}, (frz rs k env)[i]? = some (some (true, d)) → env[i]? = some (some (true, d)) ∧ ¬ k + i ∈ rs
  | k, [], i, d, h => by simp [frz] at h
  | k, none :: r, 0, d, h => by simp [frz] at h
  | k, some (false, c) :: r, 0, d, h => by simp [frz] at h
  | k, some (true, c) :: r, 0, d, h => by
    simp only [frz, List.getElem?_cons_zero, Option.some.injEq, Prod.mk.injEq] at h
    exact ⟨by simp [h.2], by simpa using h.1⟩
  | k, none :: r, i + 1, d, h => by
    have := frz_own (rs := rs) (k := k + 1) (env := r) (i := i) (d := d) (by simpa [frz] using h)
    simpa [Nat.add_assoc, Nat.add_comm 1 i] using this
  | k, some (false, c) :: r, i + 1, d, h => by
    have := frz_own (rs := rs) (k := k + 1) (env := r) (i := i) (d := d) (by simpa [frz] using h)
    simpa [Nat.add_assoc, Nat.add_comm 1 i] using this
  | k, some (true, c) :: r, i + 1, d, h => by
    have := frz_own (rs := rs) (k := k + 1) (env := r) (i := i) (d := d) (by simpa [frz] using h)
    simpa [Nat.add_assoc, Nat.add_comm 1 i] using this

/-- what an own list or dict holds -/
def Hl (K : PySem.W.Frag) (C : Hp) (pu : Addr) : D → HO → Prop
  | .lst ds, u => ∃ xs, u = .lst xs ∧ Dns K C pu ds xs
  | .dic ks vs, u => ∃ kvs, u = .dK kvs ∧ kvs.map (·.1) = ks ∧ Dns K C pu vs (kvs.map (·.2))
  | _, _ => False
theorem Hl.mono {K : PySem.W.Frag} {C C' : Hp} {pu : Addr} {d : D} {u : HO} (h : Hl K C pu d u) (e : Ex C C') : Hl K C' pu d u := by
  cases d with
  | lst ds => obtain ⟨xs, h1, h2⟩ := h; exact ⟨xs, h1, h2.mono e⟩
  | dic ks vs => obtain ⟨kvs, h1, h2, h3⟩ := h; exact ⟨kvs, h1, h2, h3.mono e⟩
  | _ => exact h.elim
theorem Hl.kind {K : PySem.W.Frag} {C : Hp} {pu : Addr} {d : D} {u : HO} (h : Hl K C pu d u) : (∃ xs, u = .lst xs) ∨ ∃ kvs, u = .dK kvs := by
  cases d with
  | lst ds => obtain ⟨xs, h1, h2⟩ := h; exact .inl ⟨xs, h1⟩
  | dic ks vs => obtain ⟨kvs, h1, h2, h3⟩ := h; exact .inr ⟨kvs, h1⟩
  | _ => exact h.elim
theorem Hl.dn {K : PySem.W.Frag} {C : Hp} {pu a : Addr} {d : D} {u : HO} (h : Hl K C pu d u) (e : C a = some u) : Dn K C pu d (.ref a) := by
  cases d with
  | lst ds => obtain ⟨xs, h1, h2⟩ := h; subst h1; exact dn_lst.mpr ⟨a, xs, rfl, e, h2⟩
  | dic ks vs => obtain ⟨kvs, h1, h2, h3⟩ := h; subst h1; exact dn_dic.mpr ⟨a, kvs, rfl, e, h2, h3⟩
  | _ => exact h.elim
/-- the state of a def's body: what it may lean on (shared), what is its own alone -/
structure SR (K : PySem.W.Frag) (z : Pz) (C0 H0 Cb C : Hp) (env : SEnv) (σ : L2.St) (H : Hp) : Prop where
  o0 : Ok z C0 H0
  tr : Tr z C0 H0 C H
  cb : Ex Cb C
  len : env.length = σ.length
  sh : ∀ (i : Nat) (d : D), env[i]? = some (some (false, d)) → ∃ v, σ[i]? = some (some v) ∧ Dn K C z.p d v
  own : ∀ (i : Nat) (d : D), env[i]? = some (some (true, d)) → ∃ a u, σ[i]? = some (some (.ref a)) ∧ C a = none ∧ H a = some u ∧ Hl K C z.p d u ∧ H0 a = none
  dif : ∀ (i j : Nat) (d e : D) (a : Addr), env[i]? = some (some (true, d)) → env[j]? = some (some (true, e)) → σ[i]? = some (some (.ref a)) → σ[j]? = some (some (.ref a)) → i = j

section
variable {K : PySem.W.Frag} {z : Pz} {C0 H0 Cb C H : Hp} {env : SEnv} {σ : L2.St}
theorem SR.nez (s : SR K z C0 H0 Cb C env σ H) {a : Addr} (h : H0 a = none) : a ≠ z.p ∧ a ≠ z.g ∧ a ≠ z.c :=
  ⟨fun e => s.o0.pur.pn (by rw [← e]; exact h), fun e => s.o0.pur.gn (by rw [← e]; exact h), fun e => s.o0.pur.cn (by rw [← e]; exact h)⟩
/-- the addresses of the slots rs that are own -/
def OwnAt (rs : List Nat) (env : SEnv) (σ : L2.St) (a : Addr) : Prop := ∃ i d, i ∈ rs ∧ env[i]? = some (some (true, d)) ∧ σ[i]? = some (some (.ref a))
open Classical in
noncomputable def coreP (rs : List Nat) (env : SEnv) (σ : L2.St) (C H : Hp) : Hp := fun a => if OwnAt rs env σ a then H a else C a
open Classical in
noncomputable def coreM (rs : List Nat) (env : SEnv) (σ : L2.St) (C : Hp) : Hp := fun a => if OwnAt rs env σ a then none else C a
theorem coreP_in {rs : List Nat} {a : Addr} (h : OwnAt rs env σ a) : coreP rs env σ C H a = H a := by unfold coreP; rw [if_pos h]
theorem coreP_out {rs : List Nat} {a : Addr} (h : ¬ OwnAt rs env σ a) : coreP rs env σ C H a = C a := by unfold coreP; rw [if_neg h]
theorem coreM_in {rs : List Nat} {a : Addr} (h : OwnAt rs env σ a) : coreM rs env σ C a = none := by unfold coreM; rw [if_pos h]
theorem coreM_out {rs : List Nat} {a : Addr} (h : ¬ OwnAt rs env σ a) : coreM rs env σ C a = C a := by unfold coreM; rw [if_neg h]
theorem SR.ownAt (s : SR K z C0 H0 Cb C env σ H) {rs : List Nat} {a : Addr} (h : OwnAt rs env σ a) : C a = none ∧ (∃ u, H a = some u ∧ ((∃ xs, u = .lst xs) ∨ ∃ kvs, u = .dK kvs)) ∧ H0 a = none := by
  obtain ⟨i, d, _, h1, h2⟩ := h
  obtain ⟨b, u, e2, e3, e4, e5, e6⟩ := s.own i d h1
  rw [h2] at e2
  cases e2
  exact ⟨e3, ⟨u, e4, e5.kind⟩, e6⟩
/-- an own list -/
theorem SR.ownL (s : SR K z C0 H0 Cb C env σ H) (i : Nat) (d : List D) (h : env[i]? = some (some (true, .lst d))) : ∃ a ds xs, D.lst d = .lst ds ∧ σ[i]? = some (some (.ref a)) ∧ C a = none ∧ H a = some (.lst xs) ∧ Dns K C z.p ds xs ∧ H0 a = none := by
  obtain ⟨a, u, e2, e3, e4, ⟨xs, e5, e6⟩, e7⟩ := s.own i _ h
  subst e5
  exact ⟨a, d, xs, rfl, e2, e3, e4, e6, e7⟩
theorem SR.exP (s : SR K z C0 H0 Cb C env σ H) (rs : List Nat) : Ex C (coreP rs env σ C H) := fun a o e => by
  have : ¬ OwnAt rs env σ a := fun h => by rw [(s.ownAt h).1] at e; cases e
  rw [coreP_out this]
  exact e
theorem SR.okP (s : SR K z C0 H0 Cb C env σ H) (rs : List Nat) : Ok z (coreP rs env σ C H) H := by
  have n : ∀ a, H0 a ≠ none → ¬ OwnAt rs env σ a := fun a e h => e (s.ownAt h).2.2
  refine ⟨fun a o e => ?_, s.tr.ok.pur.at_, ?_, ?_, ?_, s.tr.ok.pur.pg, s.tr.ok.pur.pc, s.tr.ok.pur.gc⟩
  · by_cases h : OwnAt rs env σ a
    · rw [coreP_in h] at e; exact e
    · rw [coreP_out h] at e; exact s.tr.ok.ex a o e
  · rw [coreP_out (n _ s.o0.pur.pn)]; exact s.tr.ok.pur.cp
  · rw [coreP_out (n _ s.o0.pur.gn)]; exact s.tr.ok.pur.cg
  · rw [coreP_out (n _ s.o0.pur.cn)]; exact s.tr.ok.pur.cc
theorem SR.trP (s : SR K z C0 H0 Cb C env σ H) (rs : List Nat) : Tr z C0 H0 (coreP rs env σ C H) H :=
  ⟨s.tr.cc.trans (s.exP rs), s.okP rs, s.tr.keep, fun a e => by rw [coreP_out fun h => e (s.ownAt h).2.2]; exact s.tr.new a e⟩
theorem SR.envP (s : SR K z C0 H0 Cb C env σ H) (rs : List Nat) : EnvR K z (coreP rs env σ C H) (view rs 0 env) σ := by
  refine ⟨by rw [view_len]; exact s.len, fun i d h => ?_⟩
  rcases view_at h with h | ⟨h, hm⟩
  · obtain ⟨v, h1, h2⟩ := s.sh i d h
    exact ⟨v, h1, h2.mono (s.exP rs)⟩
  · obtain ⟨a, u, e2, e3, e4, e5, e6⟩ := s.own i d h
    have ho : OwnAt rs env σ a := ⟨i, _, by simpa using hm, h, e2⟩
    exact ⟨_, e2, (e5.mono (s.exP rs)).dn (by rw [coreP_in ho]; exact e4)⟩
/-- what the slots are behind an expression that read the own slots rs and gave d -/
def aft (rs : List Nat) (d : D) (env : SEnv) : SEnv := if d.lf = true then env else frz rs 0 env
/-- kept: the own slots are not read, nothing else matters -/
theorem SR.thaw (s : SR K z C0 H0 Cb C env σ H) (rs : List Nat) {C' H' : Hp} (t : Tr z (coreP rs env σ C H) H C' H') : SR K z C0 H0 Cb (coreM rs env σ C') env σ H' := by
  have hP := s.trP rs
  have n : ∀ a, H0 a ≠ none → ¬ OwnAt rs env σ a := fun a e h => e (s.ownAt h).2.2
  have ex : Ex C (coreM rs env σ C') := fun a o e => by
    have : ¬ OwnAt rs env σ a := fun h => by rw [(s.ownAt h).1] at e; cases e
    rw [coreM_out this]
    exact t.cc a o (s.exP rs a o e)
  have tt := hP.trans t
  refine ⟨s.o0, ⟨s.tr.cc.trans ex, ⟨fun a o e => ?_, t.ok.pur.at_, ?_, ?_, ?_, t.ok.pur.pg, t.ok.pur.pc, t.ok.pur.gc⟩, tt.keep, fun a e => ?_⟩, s.cb.trans ex, s.len, fun i d h => ?_, fun i d h => ?_, s.dif⟩
  · by_cases h : OwnAt rs env σ a
    · rw [coreM_in h] at e; cases e
    · rw [coreM_out h] at e; exact t.ok.ex a o e
  · rw [coreM_out (n _ s.o0.pur.pn)]; exact t.ok.pur.cp
  · rw [coreM_out (n _ s.o0.pur.gn)]; exact t.ok.pur.cg
  · rw [coreM_out (n _ s.o0.pur.cn)]; exact t.ok.pur.cc
  · rw [coreM_out (n _ e)]; exact tt.new a e
  · obtain ⟨v, h1, h2⟩ := s.sh i d h
    exact ⟨v, h1, h2.mono ex⟩
  · obtain ⟨a, u, e2, e3, e4, e5, e6⟩ := s.own i d h
    have nz := s.nez e6
    refine ⟨a, u, e2, ?_, t.keep a _ e4 nz.1 nz.2.1, e5.mono ex, e6⟩
    by_cases ho : OwnAt rs env σ a
    · exact coreM_in ho
    · rw [coreM_out ho, t.new a (by rw [e4]; exact fun q => nomatch q), coreP_out ho]; exact e3
theorem SR.frozen (s : SR K z C0 H0 Cb C env σ H) (rs : List Nat) {C' H' : Hp} (t : Tr z (coreP rs env σ C H) H C' H') : SR K z C0 H0 Cb C' (frz rs 0 env) σ H' := by
  have ex : Ex C C' := (s.exP rs).trans t.cc
  refine ⟨s.o0, (s.trP rs).trans t, s.cb.trans ex, by rw [frz_len]; exact s.len, fun i d h => ?_, fun i d h => ?_, fun i j d e a h1 h2 h3 h4 => s.dif i j d e a (frz_own h1).1 (frz_own h2).1 h3 h4⟩
  · rcases frz_sh h with h | ⟨h, hm⟩
    · obtain ⟨v, h1, h2⟩ := s.sh i d h
      exact ⟨v, h1, h2.mono ex⟩
    · obtain ⟨a, u, e2, e3, e4, e5, e6⟩ := s.own i d h
      have ho : OwnAt rs env σ a := ⟨i, _, by simpa using hm, h, e2⟩
      exact ⟨_, e2, (e5.mono ex).dn (t.cc a _ (by rw [coreP_in ho]; exact e4))⟩
  · obtain ⟨h, hm⟩ := frz_own h
    obtain ⟨a, u, e2, e3, e4, e5, e6⟩ := s.own i d h
    have nz := s.nez e6
    have ho : ¬ OwnAt rs env σ a := fun ⟨j, e, hj, h1, h2⟩ => by
      have : j = i := s.dif j i e d a h1 h h2 e2
      subst this
      exact hm (by simpa using hj)
    refine ⟨a, u, e2, ?_, t.keep a _ e4 nz.1 nz.2.1, e5.mono ex, e6⟩
    rw [t.new a (by rw [e4]; exact fun q => nomatch q), coreP_out ho]; exact e3
theorem SR.tupSub (s : SR K z C0 H0 Cb C env σ H) (rs : List Nat) {C' H' : Hp} (t : Tr z (coreP rs env σ C H) H C' H') : TupSub K C' (coreM rs env σ C') := by
  have key : ∀ a o, C' a = some o → (∀ ys, o ≠ .lst ys) → (∀ ys, o ≠ .dK ys) → coreM rs env σ C' a = some o := fun a o e ne ne2 => by
    have : ¬ OwnAt rs env σ a := fun h => by
      obtain ⟨_, ⟨u, hy, hk⟩, _⟩ := s.ownAt h
      have := t.cc a _ (by rw [coreP_in h]; exact hy)
      rw [e] at this
      cases this
      rcases hk with ⟨ys, rfl⟩ | ⟨ys, rfl⟩
      · exact ne _ rfl
      · exact ne2 _ rfl
    rw [coreM_out this]
    exact e
  refine ⟨fun a xs h => ?_, fun a xs h => ?_⟩
  · rcases h with (h | ⟨o, h⟩) | h
    · exact .inl (.inl (key a _ h (fun _ q => nomatch q) fun _ q => nomatch q))
    · exact .inl (.inr ⟨o, key a _ h (fun _ q => nomatch q) fun _ q => nomatch q⟩)
    · exact .inr h
  · rcases h with ⟨o, h, hd⟩ | h
    · exact .inl ⟨o, key a _ h (fun _ q => nomatch q) (fun _ q => nomatch q), hd⟩
    · exact .inr h
theorem SR.use (s : SR K z C0 H0 Cb C env σ H) {m : ME} {P : D → Prop} {Q : VK} (rs : List Nat) (hm : Mono m) (q : m (view rs 0 env) P)
    (k : ∀ d v C' H', P d → SR K z C0 H0 Cb C' (aft rs d env) σ H' → Dn K C' z.p d v → Q v H') : lift K m σ H Q := by
  refine ⟨z, _, _, s.okP rs, s.envP rs, hm _ _ _ (fun d p v C' H' t dn => ?_) q⟩
  by_cases hd : d.lf = true
  · refine k d v (coreM rs env σ C') H' p ?_ (dn.lf (s.tupSub rs t) d v hd)
    unfold aft
    rw [if_pos hd]
    exact s.thaw rs t
  · refine k d v C' H' p ?_ dn
    unfold aft
    rw [if_neg hd]
    exact s.frozen rs t
theorem SR.useT (s : SR K z C0 H0 Cb C env σ H) {m : MT} {P : Bool → Prop} {Q : Bool → Hp → Prop} (rs : List Nat) (hm : MonoT m) (q : m (view rs 0 env) P)
    (k : ∀ b C' H', P b → SR K z C0 H0 Cb C' env σ H' → Q b H') : liftT K m σ H Q :=
  ⟨z, _, _, s.okP rs, s.envP rs, hm _ _ _ (fun b p C' H' t => k b _ H' p (s.thaw rs t)) q⟩
theorem get_set_eq {α : Type} {l : List α} {i j : Nat} {x y : α} (h : (l.set i x)[j]? = some y) : (j = i ∧ y = x ∧ i < l.length) ∨ (j ≠ i ∧ l[j]? = some y) := by
  by_cases hij : i = j
  · subst hij
    have hl : i < l.length := by
      have := (List.getElem?_eq_some_iff.mp h).1
      rwa [List.length_set] at this
    rw [List.getElem?_set_self hl] at h
    cases h
    exact .inl ⟨rfl, rfl, hl⟩
  · rw [List.getElem?_set_ne hij] at h
    exact .inr ⟨fun e => hij e.symm, h⟩
/-- a slot gets shared data -/
theorem SR.set (s : SR K z C0 H0 Cb C env σ H) (i : Nat) {d : D} {v : V} (dn : Dn K C z.p d v) : SR K z C0 H0 Cb C (env.set i (some (false, d))) (σ.set i (some v)) H := by
  refine ⟨s.o0, s.tr, s.cb, by rw [List.length_set, List.length_set]; exact s.len, fun j e h => ?_, fun j e h => ?_, fun j l e f a h1 h2 h3 h4 => ?_⟩
  · rcases get_set_eq h with ⟨rfl, h1, h2⟩ | ⟨h1, h2⟩
    · cases h1
      exact ⟨v, by rw [List.getElem?_set_self (by rw [← s.len]; exact h2)], dn⟩
    · rw [List.getElem?_set_ne (Ne.symm h1)]
      exact s.sh j e h2
  · rcases get_set_eq h with ⟨rfl, h1, h2⟩ | ⟨h1, h2⟩
    · cases h1
    · rw [List.getElem?_set_ne (Ne.symm h1)]
      exact s.own j e h2
  · rcases get_set_eq h1 with ⟨_, q, _⟩ | ⟨q1, q2⟩
    · cases q
    · rcases get_set_eq h2 with ⟨_, q, _⟩ | ⟨p1, p2⟩
      · cases q
      · rw [List.getElem?_set_ne (Ne.symm q1)] at h3
        rw [List.getElem?_set_ne (Ne.symm p1)] at h4
        exact s.dif j l e f a q2 p2 h3 h4
/-- a slot gets a list of its own: a is nobody else's -/
theorem SR.setOwnU (s : SR K z C0 H0 Cb C env σ H) (i : Nat) {d : D} {u : HO} {a : Addr} (hC : C a = none) (hH : H a = some u) (dn : Hl K C z.p d u) (h0 : H0 a = none)
    (ne : ∀ j e, env[j]? = some (some (true, e)) → σ[j]? = some (some (.ref a)) → j = i) : SR K z C0 H0 Cb C (env.set i (some (true, d))) (σ.set i (some (.ref a))) H := by
  refine ⟨s.o0, s.tr, s.cb, by rw [List.length_set, List.length_set]; exact s.len, fun j e h => ?_, fun j e h => ?_, fun j l e f b h1 h2 h3 h4 => ?_⟩
  · rcases get_set_eq h with ⟨rfl, h1, h2⟩ | ⟨h1, h2⟩
    · cases h1
    · rw [List.getElem?_set_ne (Ne.symm h1)]
      exact s.sh j e h2
  · rcases get_set_eq h with ⟨rfl, h1, h2⟩ | ⟨h1, h2⟩
    · cases h1
      exact ⟨a, u, by rw [List.getElem?_set_self (by rw [← s.len]; exact h2)], hC, hH, dn, h0⟩
    · rw [List.getElem?_set_ne (Ne.symm h1)]
      exact s.own j e h2
  · have key : ∀ j e, (env.set i (some (true, d)))[j]? = some (some (true, e)) → (σ.set i (some (.ref a)))[j]? = some (some (.ref b)) → (j = i ∧ b = a) ∨ (j ≠ i ∧ env[j]? = some (some (true, e)) ∧ σ[j]? = some (some (.ref b))) := fun j e h1 h3 => by
      rcases get_set_eq h1 with ⟨q, q', ql⟩ | ⟨q1, q2⟩
      · subst q
        rw [List.getElem?_set_self (by rw [← s.len]; exact ql)] at h3
        cases h3
        exact .inl ⟨rfl, rfl⟩
      · rw [List.getElem?_set_ne (Ne.symm q1)] at h3
        exact .inr ⟨q1, q2, h3⟩
    rcases key j e h1 h3 with ⟨p, q⟩ | ⟨p, q, r⟩
    · rcases key l f h2 h4 with ⟨p', q'⟩ | ⟨p', q', r'⟩
      · rw [p, p']
      · subst q
        exact absurd (ne l f q' r') p'
    · rcases key l f h2 h4 with ⟨p', q'⟩ | ⟨p', q', r'⟩
      · subst q'
        exact absurd (ne j e q r) p
      · exact s.dif j l e f b q q' r r'
theorem SR.setOwn (s : SR K z C0 H0 Cb C env σ H) (i : Nat) {ds : List D} {xs : List V} {a : Addr} (hC : C a = none) (hH : H a = some (.lst xs)) (dn : Dns K C z.p ds xs) (h0 : H0 a = none)
    (ne : ∀ j e, env[j]? = some (some (true, e)) → σ[j]? = some (some (.ref a)) → j = i) : SR K z C0 H0 Cb C (env.set i (some (true, .lst ds))) (σ.set i (some (.ref a))) H := s.setOwnU i hC hH ⟨xs, rfl, dn⟩ h0 ne
/-- who an address is new for -/
theorem SR.fresh (s : SR K z C0 H0 Cb C env σ H) {a : Addr} {i : Nat} (h : H a = none) : ∀ j e, env[j]? = some (some (true, e)) → σ[j]? = some (some (.ref a)) → j = i := fun j e hj ha => by
  obtain ⟨b, u, e2, _, e4, _⟩ := s.own j e hj
  rw [ha] at e2
  cases e2
  rw [h] at e4
  cases e4
theorem SR.cb' (s : SR K z C0 H0 Cb C env σ H) : SR K z C0 H0 C C env σ H := ⟨s.o0, s.tr, Ex.refl C, s.len, s.sh, s.own, s.dif⟩
theorem SR.weak {Cb' : Hp} (s : SR K z C0 H0 Cb C env σ H) (e : Ex Cb' Cb) : SR K z C0 H0 Cb' C env σ H := ⟨s.o0, s.tr, e.trans s.cb, s.len, s.sh, s.own, s.dif⟩
/-- the heap goes on, nothing of the def's own -/
theorem SR.next (s : SR K z C0 H0 Cb C env σ H) {C' H' : Hp} (t : Tr z C H C' H') : SR K z C0 H0 Cb C' env σ H' := by
  refine ⟨s.o0, s.tr.trans t, s.cb.trans t.cc, s.len, fun i d h => ?_, fun i d h => ?_, s.dif⟩
  · obtain ⟨v, h1, h2⟩ := s.sh i d h
    exact ⟨v, h1, h2.mono t.cc⟩
  · obtain ⟨a, u, e2, e3, e4, e5, e6⟩ := s.own i d h
    have nz := s.nez e6
    exact ⟨a, u, e2, (t.new a (by rw [e4]; exact fun q => nomatch q)).trans e3, t.keep a _ e4 nz.1 nz.2.1, e5.mono t.cc, e6⟩
/-- an own list changes -/
theorem SR.writeU (s : SR K z C0 H0 Cb C env σ H) {i : Nat} {d d' : D} {a : Addr} {u : HO} (hi : env[i]? = some (some (true, d))) (ha : σ[i]? = some (some (.ref a))) (dn : Hl K C z.p d' u) :
    SR K z C0 H0 Cb C (env.set i (some (true, d'))) σ (upd H a u) := by
  obtain ⟨b, u0, e2, e3, e4, e5, e6⟩ := s.own i d hi
  rw [ha] at e2
  cases e2
  have nz := s.nez e6
  have hil : i < env.length := (List.getElem?_eq_some_iff.mp hi).1
  refine ⟨s.o0, ⟨s.tr.cc, ⟨fun c o e => ?_, ?_⟩, fun c o e n1 n2 => ?_, s.tr.new⟩, s.cb, by rw [List.length_set]; exact s.len, fun j e h => ?_, fun j e h => ?_, fun j l e f b h1 h2 h3 h4 => ?_⟩
  · have : c ≠ a := fun q => by rw [q, e3] at e; cases e
    rw [upd_ne this]
    exact s.tr.ok.ex c o e
  · obtain ⟨gs, cs, sm, k, h1, h2, h3, h4⟩ := s.tr.ok.pur.at_
    exact ⟨⟨gs, cs, sm, k, by rw [upd_ne nz.1.symm]; exact h1, by rw [upd_ne nz.2.1.symm]; exact h2, by rw [upd_ne nz.2.2.symm]; exact h3, h4⟩, s.tr.ok.pur.cp, s.tr.ok.pur.cg, s.tr.ok.pur.cc, s.tr.ok.pur.pg, s.tr.ok.pur.pc, s.tr.ok.pur.gc⟩
  · have : c ≠ a := fun q => by rw [q, e6] at e; cases e
    rw [upd_ne this]
    exact s.tr.keep c o e n1 n2
  · rcases get_set_eq h with ⟨rfl, h1, h2⟩ | ⟨h1, h2⟩
    · cases h1
    · exact s.sh j e h2
  · rcases get_set_eq h with ⟨rfl, h1, h2⟩ | ⟨h1, h2⟩
    · cases h1
      exact ⟨a, u, ha, e3, upd_same, dn, e6⟩
    · obtain ⟨b, u1, f2, f3, f4, f5, f6⟩ := s.own j e h2
      have : b ≠ a := fun q => by
        subst q
        exact h1 (s.dif j i e d b h2 hi f2 ha)
      exact ⟨b, u1, f2, f3, by rw [upd_ne this]; exact f4, f5, f6⟩
  · have key : ∀ j e, (env.set i (some (true, d')))[j]? = some (some (true, e)) → ∃ e', env[j]? = some (some (true, e')) := fun j e h => by
      rcases get_set_eq h with ⟨rfl, _, _⟩ | ⟨_, h2⟩
      · exact ⟨d, hi⟩
      · exact ⟨e, h2⟩
    obtain ⟨e', k1⟩ := key j e h1
    obtain ⟨f', k2⟩ := key l f h2
    exact s.dif j l e' f' b k1 k2 h3 h4
theorem SR.write (s : SR K z C0 H0 Cb C env σ H) {i : Nat} {d : D} {a : Addr} {ds : List D} {xs : List V} (hi : env[i]? = some (some (true, d))) (ha : σ[i]? = some (some (.ref a))) (dn : Dns K C z.p ds xs) :
    SR K z C0 H0 Cb C (env.set i (some (true, .lst ds))) σ (upd H a (.lst xs)) := s.writeU hi ha ⟨xs, rfl, dn⟩
end

/-! ### statements -/
structure EndD where
  nx : SEnv → Prop
  rt : D → Prop
  bk : SEnv → Prop
  ct : SEnv → Prop
structure EndD.Le (E E' : EndD) : Prop where
  nx : ∀ e, E.nx e → E'.nx e
  rt : ∀ d, E.rt d → E'.rt d
  bk : ∀ e, E.bk e → E'.bk e
  ct : ∀ e, E.ct e → E'.ct e
abbrev MS := EndD → SEnv → Prop
def MonoS (m : MS) : Prop := ∀ E E' env, EndD.Le E E' → m E env → m E' env
section
variable (K : PySem.W.Frag) (z : Pz) (C0 H0 Cb : Hp)
def endsOf (D : Ends) : EndD where
  nx := fun env' => ∀ σ' C' H', SR K z C0 H0 Cb C' env' σ' H' → D.nx σ' H'
  rt := fun d => ∀ v C' H', Tr z C0 H0 C' H' → Dn K C' z.p d v → D.rt v H'
  bk := fun env' => ∀ σ' C' H', SR K z C0 H0 Cb C' env' σ' H' → D.bk σ' H'
  ct := fun env' => ∀ σ' C' H', SR K z C0 H0 Cb C' env' σ' H' → D.ct σ' H'
def liftS (m : MS) : TS := fun D σ H => ∃ C env, SR K z C0 H0 Cb C env σ H ∧ m (endsOf K z C0 H0 Cb D) env
end
structure PDS (X : Cx) (st : Stmt) (m : MS) : Prop where
  run : ∀ z C0 H0 Cb, PS X st (liftS X.K z C0 H0 Cb m)
  mono : MonoS m
structure PDSs (X : Cx) (st : List Stmt) (m : MS) : Prop where
  run : ∀ z C0 H0 Cb, PSs X st (liftS X.K z C0 H0 Cb m)
  mono : MonoS m
theorem ps_imp {X : Cx} {st : Stmt} {t t' : TS} (h : PS X st t) (i : ∀ D σ H, t' D σ H → t D σ H) : PS X st t' := ⟨fun pins s σ H D I q => h.run pins s σ H D I (i D σ H q)⟩
theorem pss_imp {X : Cx} {st : List Stmt} {t t' : TS} (h : PSs X st t) (i : ∀ D σ H, t' D σ H → t D σ H) : PSs X st t' := ⟨fun pins s σ H D I q => h.run pins s σ H D I (i D σ H q)⟩
def mNext : MS := fun E env => E.nx env
def mSeq (m n : MS) : MS := fun E env => m { E with nx := fun env' => n E env' } env
def mBreak : MS := fun E env => E.bk env
def mCont : MS := fun E env => E.ct env
section
variable {X : Cx} {st : Stmt} {rest : List Stmt} {m n : MS} {e : Expr} {pos : Pos} {me : ME}
theorem EndD.Le.refl (E : EndD) : EndD.Le E E := ⟨fun _ h => h, fun _ h => h, fun _ h => h, fun _ h => h⟩
theorem pdss_nil : PDSs X [] mNext :=
  ⟨fun z C0 H0 Cb => pss_imp pss_nil fun N σ H ⟨C, env, s, q⟩ => q σ C H s, fun E E' env l q => l.nx _ q⟩
theorem pds_pass : PDS X (.Pass pos) mNext :=
  ⟨fun z C0 H0 Cb => ps_imp ps_pass fun N σ H ⟨C, env, s, q⟩ => q σ C H s, fun E E' env l q => l.nx _ q⟩
theorem pds_break : PDS X (.Break pos) mBreak :=
  ⟨fun z C0 H0 Cb => ps_imp ps_break fun N σ H ⟨C, env, s, q⟩ => q σ C H s, fun E E' env l q => l.bk _ q⟩
theorem pds_continue : PDS X (.Continue pos) mCont :=
  ⟨fun z C0 H0 Cb => ps_imp ps_continue fun N σ H ⟨C, env, s, q⟩ => q σ C H s, fun E E' env l q => l.ct _ q⟩
theorem pdss_cons (h : PDS X st m) (k : PDSs X rest n) : PDSs X (st :: rest) (mSeq m n) := by
  refine ⟨fun z C0 H0 Cb => pss_imp (pss_cons (h.run z C0 H0 Cb) (k.run z C0 H0 Cb)) fun N σ H ⟨C, env, s, q⟩ => ⟨C, env, s, ?_⟩, fun E E' env l q => ?_⟩
  · exact h.mono { endsOf X.K z C0 H0 Cb N with nx := fun env' => n (endsOf X.K z C0 H0 Cb N) env' } _ env ⟨fun e q σ' C' H' s' => ⟨C', e, s', q⟩, fun _ h => h, fun _ h => h, fun _ h => h⟩ q
  · exact h.mono { E with nx := fun env' => n E env' } _ env ⟨fun e q => k.mono _ _ _ l q, l.rt, l.bk, l.ct⟩ q
theorem pdss_one (h : PDS X st m) : PDSs X [st] m :=
  ⟨fun z C0 H0 Cb => pss_one (h.run z C0 H0 Cb), h.mono⟩
/-- return e; the own lists rs are read in e -/
def mRet (rs : List Nat) (me : ME) : MS := fun E env => me (view rs 0 env) fun d => E.rt d
theorem pds_ret (rs : List Nat) (h : PD X e me) : PDS X (.Return (some e) pos) (mRet rs me) := by
  refine ⟨fun z C0 H0 Cb => ps_imp (ps_ret h.run) fun N σ H ⟨C, env, s, q⟩ => ?_, fun E E' env l q => h.mono _ _ _ (fun d q => l.rt _ q) q⟩
  exact s.use rs h.mono q fun d v C' H' p s' dn => p v C' H' s'.tr dn
def mRetN : MS := fun E env => E.rt .non
theorem pds_retN : PDS X (.Return none pos) mRetN :=
  ⟨fun z C0 H0 Cb => ps_imp ps_retN fun N σ H ⟨C, env, s, q⟩ => q .non C H s.tr (dn_non.mpr rfl), fun E E' env l q => l.rt _ q⟩
/-- x = e -/
def mAsg (rs : List Nat) (i : Nat) (me : ME) : MS := fun E env => me (view rs 0 env) fun d => E.nx ((aft rs d env).set i (some (false, d)))
theorem pds_asg (rs : List Nat) {i : Nat} (h : PD X e me) (hp : PS X st (tAsg (lift X.K me) (gName i))) : PDS X st (mAsg rs i me) := by
  refine ⟨fun z C0 H0 Cb => ps_imp hp fun N σ H ⟨C, env, s, q⟩ => ?_, fun E E' env l q => h.mono _ _ _ (fun d q => l.nx _ q) q⟩
  exact s.use rs h.mono q fun d v C' H' p s' dn => p _ C' H' (s'.set i dn)
def mIfS (rs : List Nat) (mt : MT) (m n : MS) : MS := fun E env => mt (view rs 0 env) fun b => if b = true then m E env else n E env
theorem pds_if (rs : List Nat) {a b : List Stmt} {mt : MT} (hc : PDT X e mt) (h : PDSs X a m) (k : PDSs X b n) : PDS X (.If e a b pos) (mIfS rs mt m n) := by
  refine ⟨fun z C0 H0 Cb => ps_imp (ps_if hc.run (h.run z C0 H0 Cb) (k.run z C0 H0 Cb)) fun N σ H ⟨C, env, s, q⟩ => ?_, fun E E' env l q => hc.mono _ _ _ (fun b q => ?_) q⟩
  · refine s.useT rs hc.mono q fun b C' H' p s' => ?_
    cases b with
    | true => exact ⟨C', env, s', p⟩
    | false => exact ⟨C', env, s', p⟩
  · cases b with
    | true => exact h.mono _ _ _ l q
    | false => exact k.mono _ _ _ l q
def mDrop (rs : List Nat) (me : ME) : MS := fun E env => me (view rs 0 env) fun d => E.nx (aft rs d env)
theorem pds_expr (rs : List Nat) (h : PD X e me) (hs : swapsWith e none pos.line X.env = pure false := by rfl) : PDS X (.Expr e pos) (mDrop rs me) := by
  refine ⟨fun z C0 H0 Cb => ps_imp (ps_expr h.run hs) fun N σ H ⟨C, env, s, q⟩ => ?_, fun E E' env l q => h.mono _ _ _ (fun d q => l.nx _ q) q⟩
  exact s.use rs h.mono q fun d v C' H' p s' dn => p _ C' H' s'

/-! ### fresh lists -/
def liftO (K : PySem.W.Frag) (m : MA) : TE := fun σ H Q => ∃ z C env, Ok z C H ∧ EnvR K z C env σ ∧ m env fun ds => ∀ a xs C' H', Tr z C H C' H' → H a = none → C' a = none → H' a = some (.lst xs) → Dns K C' z.p ds xs → Q (.ref a) H'
structure PDO (X : Cx) (e : Expr) (m : MA) : Prop where
  run : PE X e (liftO X.K m)
  mono : MonoA m
theorem Tr.free {z : Pz} {C H C' H' : Hp} (t : Tr z C H C' H') {a : Addr} (h : H' a = none) : H a = none := by
  cases e : H a with
  | none => rfl
  | some o => exact absurd h (t.there (by rw [e]; exact fun q => nomatch q))
def moLst (m : MA) : MA := fun env Q => m env fun ds => szOk ds.length = true ∧ Q ds
theorem pdo_lst {es : List Expr} {m : MA} (h : PDA X es m) : PDO X (.List es pos) (moLst m) := by
  refine ⟨pe_imp (pe_lst h.run) fun σ H Q q => ?_, fun env Q Q' i q => h.mono env _ _ (fun ds ⟨a, q⟩ => ⟨a, i _ q⟩) q⟩
  obtain ⟨z, C, env, o, r, q⟩ := q
  refine liftA_use h.mono o r q fun ds vs C' H' ⟨hz, p⟩ t dn => ⟨by rw [dn.len]; exact sz_ok hz, fun p' hp => ?_⟩
  have hc : C' p' = none := fresh_back t.ok.ex hp
  exact p p' vs C' _ (t.trans (Tr.ext t.ok (Ex.new hp))) (t.free hp) hc upd_same dn
def mLstO (m : MA) : ME := fun env Q => m env fun ds => Q (.lst ds)
/-- a fresh list as data -/
theorem pd_ofO {m : MA} (h : PDO X e m) : PD X e (mLstO m) := by
  refine ⟨pe_imp h.run fun σ H Q q => ?_, fun env Q Q' i q => h.mono env _ _ (fun ds q => i _ q) q⟩
  obtain ⟨z, C, env, o, r, q⟩ := q
  refine ⟨z, C, env, o, r, h.mono env _ _ (fun ds q a xs C' H' t h1 h2 h3 dn => ?_) q⟩
  have hz : ∀ b, H b ≠ none → b ≠ a := fun b hb e => hb (by rw [e]; exact h1)
  refine q (.ref a) (upd C' a (.lst xs)) H' ⟨t.cc.trans (Ex.new h2), ⟨fun b u e => ?_, ?_⟩, t.keep, fun b hb => ?_⟩ (dn_new_lst dn h2)
  · by_cases hb : b = a
    · subst hb; rw [upd_same] at e; cases e; exact h3
    · rw [upd_ne hb] at e; exact t.ok.ex b u e
  · obtain ⟨gs, cs, s, k, g1, g2, g3, g4⟩ := t.ok.pur.at_
    exact ⟨⟨gs, cs, s, k, g1, g2, g3, g4⟩, by rw [upd_ne (hz _ o.pur.pn)]; exact t.ok.pur.cp, by rw [upd_ne (hz _ o.pur.gn)]; exact t.ok.pur.cg, by rw [upd_ne (hz _ o.pur.cn)]; exact t.ok.pur.cc, t.ok.pur.pg, t.ok.pur.pc, t.ok.pur.gc⟩
  · rw [upd_ne (hz b hb)]; exact t.new b hb
/-- x = a fresh list that stays the def's own; the items read no own list, or hold none -/
def mAsgO (rs : List Nat) (i : Nat) (m : MA) : MS := fun E env => m (view rs 0 env) fun ds => D.lfs ds = true ∧ E.nx (env.set i (some (true, .lst ds)))
theorem useO {K : PySem.W.Frag} {z : Pz} {C0 H0 Cb C H : Hp} {env : SEnv} {σ : L2.St} (s : SR K z C0 H0 Cb C env σ H) {m : MA} {P : List D → Prop} {Q : VK} (rs : List Nat) (hm : MonoA m) (q : m (view rs 0 env) fun ds => D.lfs ds = true ∧ P ds)
    (k : ∀ ds xs a C' H', P ds → SR K z C0 H0 Cb C' env σ H' → C' a = none → H' a = some (.lst xs) → Dns K C' z.p ds xs → H a = none → Q (.ref a) H') : liftO K m σ H Q := by
  refine ⟨z, _, _, s.okP rs, s.envP rs, hm _ _ _ (fun ds ⟨l, p⟩ a xs C' H' t h1 h2 h3 dn => ?_) q⟩
  have hn : ¬ OwnAt rs env σ a := fun h => by
    obtain ⟨_, ⟨u, hy, _⟩, _⟩ := s.ownAt h
    rw [h1] at hy; cases hy
  exact k ds xs a _ H' p (s.thaw rs t) (by rw [coreM_out hn]; exact h2) h3 (dn.lf (s.tupSub rs t) ds xs l) h1
theorem pds_asgO (rs : List Nat) {i : Nat} {m : MA} (h : PDO X e m) (hp : PS X st (tAsg (liftO X.K m) (gName i))) : PDS X st (mAsgO rs i m) := by
  refine ⟨fun z C0 H0 Cb => ps_imp hp fun N σ H ⟨C, env, s, q⟩ => ?_, fun E E' env l q => h.mono _ _ _ (fun d ⟨a, q⟩ => ⟨a, l.nx _ q⟩) q⟩
  refine useO s rs h.mono q fun ds xs a C' H' p s' h2 h3 dn h1 => p _ C' H' (s'.setOwn i h2 h3 dn (s.tr.free h1) (s.fresh h1))
/-- x.append(e), x an own list -/
def mApp (rs : List Nat) (i : Nat) (me : ME) : MS := fun E env => (∃ ds0, env[i]? = some (some (true, .lst ds0))) ∧ me (view rs 0 env) fun d => ∃ ds, (aft rs d env)[i]? = some (some (true, .lst ds)) ∧ szOk (ds.length + 1) = true ∧ E.nx ((aft rs d env).set i (some (true, .lst (ds ++ [d]))))
theorem pds_app (rs : List Nat) {i : Nat} {o : Expr} {apos cpos : Pos} (ho : PE X o (tVar i)) (h : PD X e me)
    (h1 : attributeBase o "append" X.env (eval o X.env) = eval o X.env := by rfl)
    (h2 : ((((backTo cpos (starEach [e] X.env)).all fun x => !x.1) && ((backToKw cpos (keywordEach [] X.env)).all fun x => x.1.isSome) && decide (([e] : List Expr).length + ([] : List Keyword).length + (if ([] : List Keyword).isEmpty = true then 0 else 1) < 30)) = true) := by rfl)
    (h3 : (apos.endLine == cpos.line) = true := by rfl) (h4 : starEach [e] X.env = (false, eval e X.env) :: starEach [] X.env := by rfl) (h5 : ((backTo cpos (starEach [] X.env)).any fun x => x.1) = false := by rfl)
    (hs : swapsWith (.Call (.Attribute o "append" apos) [e] [] cpos) none pos.line X.env = pure false := by rfl) : PDS X (.Expr (.Call (.Attribute o "append" apos) [e] [] cpos) pos) (mApp rs i me) := by
  refine ⟨fun z C0 H0 Cb => ps_imp (ps_expr (pe_bm PySem.F.plainAttrs_list PySem.F.slot_list_append PySem.F.type_list_append mt_append ho (pa_cons h.run pa_nil h4) h1 h2 h3 h4 h5) hs) fun N σ H ⟨C, env, s, q⟩ => ?_,
    fun E E' env l ⟨q0, q⟩ => ⟨q0, h.mono _ _ _ (fun d ⟨ds, e1, e2, q⟩ => ⟨ds, e1, e2, l.nx _ q⟩) q⟩⟩
  obtain ⟨⟨ds0, h0⟩, q⟩ := q
  obtain ⟨a, _, xs, _, ea, _, eH, _⟩ := s.ownL i _ h0
  refine ⟨.ref a, ea, .inl ⟨rfl, xs, sq_of eH⟩, ?_⟩
  refine s.use rs h.mono q fun d v C' H' ⟨ds, e1, e2, p⟩ s' dn => ?_
  obtain ⟨b, ds', ys, f1, f2, f3, f4, f5, f6⟩ := s'.ownL i _ e1
  rw [ea] at f2
  cases f2
  cases f1
  have hl := f5.len
  refine ⟨a, ys, v, rfl, rfl, f4, sz_lt (by unfold szOk at e2 ⊢; rw [hl]; simp at e2 ⊢; omega), ?_⟩
  exact p σ C' _ (s'.write e1 ea (f5.app (Dns.one dn)))
end
end BV

/-! Loops and comprehensions, by value. -/
namespace BV
open PySem PySem.Spec PyProof.Rows L2 Evl

/-! ### what is walked -/
/-- the walk J gives the items, each new pair into the core -/
structure ItD (K : PySem.W.Frag) (z : Pz) (J : It) (items : List D) (C : Hp) : Prop where
  ex : ∃ (G : Hp → Prop) (Y : Nat → Hp → V → Hp → Prop), Walk J items.length G Y ∧ (∀ H', Ex C H' → G H') ∧
    ∀ i Ha x Hb, i < items.length → Y i Ha x Hb → ∀ C1, Ex C C1 → Ok z C1 Ha → ∃ d C2, items[i]? = some d ∧ Tr z C1 Ha C2 Hb ∧ Dn K C2 z.p d x
abbrev MI := Env → (List D → Prop) → Prop
def liftI (K : PySem.W.Frag) (m : MI) : TI := fun σ H R => ∃ z C env, Ok z C H ∧ EnvR K z C env σ ∧ m env fun items => ∀ J C' H', Tr z C H C' H' → ItD K z J items C' → R J H'
structure PDI (X : Cx) (tg it : Expr) (m : MI) : Prop where
  run : PI X tg it (liftI X.K m)
  mono : MonoA m
theorem pi_imp {X : Cx} {tg it : Expr} {t t' : TI} (h : PI X tg it t) (i : ∀ σ H R, t' σ H R → t σ H R) : PI X tg it t' := ⟨fun pins s σ H R I q => h.run pins s σ H R I (i σ H R q)⟩
section
variable {X : Cx} {tg l : Expr} {ml : ME} {z : Pz} {C : Hp} {K : PySem.W.Frag}
theorem itd_list {a : Addr} {xs : List V} {ds : List D} (h : SqL K C a xs) (dn : Dns K C z.p ds xs) : ItD K z (Itl K a) ds C :=
  ⟨_, _, by rw [← dn.len]; exact walk_list, fun H' e => ex_l e h, fun i Ha x Hb hi y C1 e o => by
    obtain ⟨rfl, y⟩ := y
    obtain ⟨d, h1, h2⟩ := dn.get' y
    exact ⟨d, C1, h1, Tr.refl o, h2.mono e⟩⟩
theorem itd_tup {a : Addr} {xs : List V} {ds : List D} (h : SqT K C a xs) (dn : Dns K C z.p ds xs) : ItD K z (Itt K a) ds C :=
  ⟨_, _, by rw [← dn.len]; exact walk_tup, fun H' e => ex_t e h, fun i Ha x Hb hi y C1 e o => by
    obtain ⟨rfl, y⟩ := y
    obtain ⟨d, h1, h2⟩ := dn.get' y
    exact ⟨d, C1, h1, Tr.refl o, h2.mono e⟩⟩
def chars (x : Str) : List D := x.cps.toList.map fun c => .str ⟨#[c]⟩
theorem itd_str {x : Str} : ItD K z (Its x) (chars x) C :=
  ⟨_, _, by show Walk _ (x.cps.toList.map _).length _ _; rw [List.length_map, Array.length_toList]; exact walk_str, fun H' e => trivial, fun i Ha v Hb hi y C1 e o => by
    obtain ⟨rfl, c, h1, rfl⟩ := y
    refine ⟨.str ⟨#[c]⟩, C1, ?_, Tr.refl o, dn_str.mpr rfl⟩
    unfold chars
    rw [List.getElem?_map, Array.getElem?_toList, h1]
    rfl⟩
def itemsD : D → Option (List D)
  | .lst ds => some ds
  | .tup ds => some ds
  | .pr ds => some ds
  | .str x => some (chars x)
  | _ => none
def mSeqI (ml : ME) : MI := fun env P => ml env fun d => ∃ items, itemsD d = some items ∧ P items
theorem pdi_seq (h : PD X l ml) : PDI X tg l (mSeqI ml) := by
  refine ⟨⟨fun pins s σ H R I q => ?_⟩, fun env Q Q' i q => h.mono env _ _ (fun d ⟨a, b, q⟩ => ⟨a, b, i _ q⟩) q⟩
  obtain ⟨z, C, env, o, r, q⟩ := q
  -- the three roads, by the value
  have key : lift X.K ml σ H fun v H1 => (∃ a, v = .ref a ∧ (∃ xs, SqL X.K H1 a xs) ∧ R (Itl X.K a) H1) ∨ (∃ a, v = .ref a ∧ (∃ xs, SqT X.K H1 a xs) ∧ R (Itt X.K a) H1) ∨ ∃ x, v = .str x ∧ R (Its x) H1 := by
    refine lift_use h.mono o r q fun d v C' H' ⟨items, e, p⟩ t dn => ?_
    cases d with
    | lst ds =>
      obtain ⟨a, xs, e1, e2, e3⟩ := dn_lst.mp dn
      cases e
      exact .inl ⟨a, e1, ⟨xs, ex_l t.ok.ex (sq_of e2)⟩, p _ C' H' t (itd_list (sq_of e2) e3)⟩
    | tup ds =>
      obtain ⟨a, xs, e1, e2, e3⟩ := dn_tup dn
      cases e
      exact .inr (.inl ⟨a, e1, ⟨xs, ex_t t.ok.ex e2⟩, p _ C' H' t (itd_tup e2 e3)⟩)
    | pr ds =>
      obtain ⟨a, xs, e1, e2, e3⟩ := dn_pr.mp dn
      cases e
      exact .inr (.inl ⟨a, e1, ⟨xs, ex_t t.ok.ex e2⟩, p _ C' H' t (itd_tup e2 e3)⟩)
    | str x =>
      cases e
      exact .inr (.inr ⟨x, dn_str.mp dn, p _ C' H' t itd_str⟩)
    | _ => cases e
  refine thn (h.run.run pins s σ H _ I key) fun v s1 ⟨x, H1, I1, r1, q1⟩ => ?_
  have self : PE X l (fun σ' H' Q' => True ∧ Q' x H1) → True := fun _ => trivial
  rcases q1 with ⟨a, e, ⟨xs, hq⟩, q⟩ | ⟨a, e, ⟨xs, hq⟩, q⟩ | ⟨y, e, q⟩
  · subst e
    cases r1
    obtain ⟨its, rv, p, hz⟩ := I1.list hq
    refine wpAny_pyIter_list p.isList ?_
    refine ⟨s1.heap.objs.size, [s1.heap.objs.size], _, _, H1, rfl, I1.kept (t' := s1.toks) fun b o e => Heap.get?_push_of_some _ e, turn_list a _, ⟨_, Heap.get?_push_size _ rfl, rfl, rfl⟩, fun b hb => ?_, q⟩
    have e : b = s1.heap.objs.size := by simpa using hb
    subst e
    exact I1.fpOk (Nat.le_refl _) (I1.hok.fresh (Nat.le_refl _))
  · subst e
    cases r1
    obtain ⟨its, rv, p, hz⟩ := I1.tuple hq
    refine wpAny_pyIter_tuple (show s1.heap.IsTuple a its.toArray from p) ?_
    refine ⟨s1.heap.objs.size, [s1.heap.objs.size], _, _, H1, rfl, I1.kept (t' := s1.toks) fun b o e => Heap.get?_push_of_some _ e, turn_tuple a _, ⟨_, Heap.get?_push_size _ rfl, rfl, rfl⟩, fun b hb => ?_, q⟩
    have e : b = s1.heap.objs.size := by simpa using hb
    subst e
    exact I1.fpOk (Nat.le_refl _) (I1.hok.fresh (Nat.le_refl _))
  · subst e
    obtain ⟨t, rfl⟩ := r1
    cases ha : y.cps.all (· < 128)
    · exact wpAny_pyIter_wide ha (pi_one (tk := s1.toks) I1 _ (turn_str _ y t "str_iterator" (.inr rfl)) ⟨_, Heap.get?_push_size _ rfl, rfl, rfl⟩ q)
    · exact wpAny_pyIter_ascii ha (pi_one (tk := s1.toks) I1 _ (turn_str _ y t "str_ascii_iterator" (.inl rfl)) ⟨_, Heap.get?_push_size _ rfl, rfl, rfl⟩ q)

/-- range(n), range(a, b): ints, whatever the core -/
structure PDR (X : Cx) (tg it : Expr) (m : MI) : Prop where
  run : PI X tg it (fun σ H R => ∃ z C env, Ok z C H ∧ EnvR X.K z C env σ ∧ m env fun items => ∀ J C' H', Tr z C H C' H' → (∀ C2, ItD X.K z J items C2) → R J H')
  mono : MonoA m
theorem itd_rng {lo : Int} {n : Nat} : ItD K z (Itr lo n) ((List.range n).map fun i => .int (lo + (i : Nat))) C :=
  ⟨_, _, by rw [List.length_map, List.length_range]; exact walk_range, fun H' e => trivial, fun i Ha v Hb hi y C1 e o => by
    obtain ⟨rfl, rfl⟩ := y
    rw [List.length_map, List.length_range] at hi
    refine ⟨_, C1, ?_, Tr.refl o, dn_int.mpr rfl⟩
    rw [List.getElem?_map, List.getElem?_range hi]
    rfl⟩
def rngL (lo : Int) (n : Nat) : List D := (List.range n).map fun i => .int (lo + (i : Nat))
def mRng1 (m : MA) : MI := fun env P => m env fun ds => ∃ j, ds = [.int j] ∧ -4000000 ≤ j ∧ j ≤ 4000000 ∧ P (rngL 0 j.toNat)
def mRng2 (m : MA) : MI := fun env P => m env fun ds => ∃ i j, ds = [.int i, .int j] ∧ -4000000 ≤ i ∧ i ≤ 4000000 ∧ -4000000 ≤ j ∧ j ≤ 4000000 ∧ P (rngL i (j - i).toNat)
theorem dns1 {pu : Addr} {d : D} {xs : List V} (h : Dns K C pu [d] xs) : ∃ v, xs = [v] ∧ Dn K C pu d v := by
  obtain ⟨v, r, e1, e2, e3⟩ := dns_cons.mp h
  rw [dns_nil.mp e3] at e1
  exact ⟨v, e1, e2⟩
theorem dns2 {pu : Addr} {d e : D} {xs : List V} (h : Dns K C pu [d, e] xs) : ∃ v w, xs = [v, w] ∧ Dn K C pu d v ∧ Dn K C pu e w := by
  obtain ⟨v, r, e1, e2, e3⟩ := dns_cons.mp h
  obtain ⟨w, e4, e5⟩ := dns1 e3
  rw [e4] at e1
  exact ⟨v, w, e1, e2, e5⟩
theorem pdr_1 {a : Expr} {m : MA} {p pos : Pos} (hg : Gl X "range") (hm : X.mg "range" = none) (h : PDA X [a] m) (hs : starEach [a] X.env = [(false, eval a X.env)] := by rfl) : PDR X tg (.Call (.Name "range" p) [a] [] pos) (mRng1 m) := by
  refine ⟨pi_imp (pi_range1 hg hm h.run hs) fun σ H R q => ?_, fun env Q Q' i q => h.mono env _ _ (fun d ⟨a, b, c, e, q⟩ => ⟨a, b, c, e, i _ q⟩) q⟩
  obtain ⟨z, C, env, o, r, q⟩ := q
  refine liftA_use h.mono o r q fun ds vs C' H' ⟨j, e, h1, h2, p⟩ t dn => ?_
  subst e
  obtain ⟨v, e1, e2⟩ := dns1 dn
  rw [dn_int.mp e2] at e1
  exact ⟨j, e1, by omega, by omega, p _ C' H' t fun C2 => itd_rng⟩
theorem pdr_2 {a b : Expr} {m : MA} {p pos : Pos} (hg : Gl X "range") (hm : X.mg "range" = none) (h : PDA X [a, b] m) (hs : starEach [a, b] X.env = [(false, eval a X.env), (false, eval b X.env)] := by rfl) (hs2 : starEach [b] X.env = [(false, eval b X.env)] := by rfl) : PDR X tg (.Call (.Name "range" p) [a, b] [] pos) (mRng2 m) := by
  refine ⟨pi_imp (pi_range2 hg hm h.run hs hs2) fun σ H R q => ?_, fun env Q Q' i q => h.mono env _ _ (fun d ⟨a, b, c, e, f, g, k, q⟩ => ⟨a, b, c, e, f, g, k, i _ q⟩) q⟩
  obtain ⟨z, C, env, o, r, q⟩ := q
  refine liftA_use h.mono o r q fun ds vs C' H' ⟨i, j, e, h1, h2, h3, h4, p⟩ t dn => ?_
  subst e
  obtain ⟨v, w, e1, e2, e3⟩ := dns2 dn
  rw [dn_int.mp e2, dn_int.mp e3] at e1
  exact ⟨i, j, e1, ⟨by omega, by omega, by omega, by omega⟩, p _ C' H' t fun C2 => itd_rng⟩
/-- enumerate(a list) -/
def enumL (ds : List D) : List D := ds.mapIdx fun i d => .pr [.int (i : Nat), d]
def mEnum (m : MA) : MI := fun env P => m env fun ds => ∃ items, ds = [.lst items] ∧ P (enumL items)
theorem tup_new {C1 Ha : Hp} {T : Addr} {x y : V} {d e : D} (o : Ok z C1 Ha) (hT : Ha T = none) (h1 : Dn K C1 z.p d x) (h2 : Dn K C1 z.p e y) : Tr z C1 Ha (upd C1 T (.tup [x, y])) (upd Ha T (.tup [x, y])) ∧ Dn K (upd C1 T (.tup [x, y])) z.p (.pr [d, e]) (.ref T) := by
  have hc : C1 T = none := fresh_back o.ex hT
  exact ⟨Tr.put o hT, dn_pr.mpr ⟨T, [x, y], rfl, st_of upd_same, (dns_cons.mpr ⟨x, [y], rfl, h1, Dns.one h2⟩ : Dns K C1 z.p [d, e] [x, y]).mono (Ex.new hc)⟩⟩
theorem itd_enum {a : Addr} {xs : List V} {ds : List D} (h : SqL K C a xs) (dn : Dns K C z.p ds xs) : ItD K z (Ite K a) (enumL ds) C :=
  ⟨_, _, by show Walk _ (ds.mapIdx _).length _ _; rw [List.length_mapIdx, ← dn.len]; exact walk_enum, fun H' e => ex_l e h, fun i Ha v Hb hi y C1 e o => by
    obtain ⟨T, x, y, rfl, hT, rfl, h1, h2⟩ := y
    obtain ⟨d, h3, h4⟩ := dn.get' h2
    cases h1
    obtain ⟨t, q⟩ := tup_new (d := .int (i : Nat)) o hT (dn_int.mpr rfl) (h4.mono e)
    refine ⟨_, _, ?_, t, q⟩
    unfold enumL
    rw [List.getElem?_mapIdx, h3]
    rfl⟩
theorem pdi_enum {e : Expr} {m : MA} {p pos tpos : Pos} {elts : List Expr} {kk : Nat} (hg : Gl X "enumerate") (hm : X.mg "enumerate" = none) (h : PDA X [e] m) (hs : starEach [e] X.env = [(false, eval e X.env)] := by rfl) :
    PDI X (.Tuple elts kk tpos) (.Call (.Name "enumerate" p) [e] [] pos) (mEnum m) := by
  refine ⟨pi_imp (pi_enum hg hm h.run hs) fun σ H R q => ?_, fun env Q Q' i q => h.mono env _ _ (fun d ⟨a, b, q⟩ => ⟨a, b, i _ q⟩) q⟩
  obtain ⟨z, C, env, o, r, q⟩ := q
  refine liftA_use h.mono o r q fun ds vs C' H' ⟨items, e, p⟩ t dn => ?_
  subst e
  obtain ⟨v, e1, e2⟩ := dns1 dn
  obtain ⟨a, xs, e3, e4, e5⟩ := dn_lst.mp e2
  rw [e3] at e1
  exact ⟨a, xs, e1, ex_l t.ok.ex (sq_of e4), p _ C' H' t (itd_enum (sq_of e4) e5)⟩
/-- zip of two lists -/
def zipL : List D → List D → List D
  | a :: as, b :: bs => .pr [a, b] :: zipL as bs
  | _, _ => []
theorem zipL_len : ∀ as bs : List D, (zipL as bs).length = min as.length bs.length
  | [], bs => by simp [zipL]
  | a :: as, [] => by simp [zipL]
  | a :: as, b :: bs => by simp only [zipL, List.length_cons, zipL_len as bs]; omega
theorem zipL_get : ∀ (as bs : List D) (i : Nat) (a b : D), as[i]? = some a → bs[i]? = some b → (zipL as bs)[i]? = some (.pr [a, b])
  | [], bs, i, a, b, h, _ => by simp at h
  | x :: as, [], i, a, b, _, h => by simp at h
  | x :: as, y :: bs, 0, a, b, h1, h2 => by simp at h1 h2; simp [zipL, h1, h2]
  | x :: as, y :: bs, i + 1, a, b, h1, h2 => by
    have := zipL_get as bs i a b (by simpa using h1) (by simpa using h2)
    simpa [zipL] using this
def mZip (m : MA) : MI := fun env P => m env fun ds => ∃ as bs, ds = [.lst as, .lst bs] ∧ P (zipL as bs)
theorem itd_zip {a b : Addr} {xs ys : List V} {ds es : List D} (h : SqL K C a xs) (h' : SqL K C b ys) (dn : Dns K C z.p ds xs) (dn' : Dns K C z.p es ys) : ItD K z (Itz K a b) (zipL ds es) C :=
  ⟨_, _, walk_zip (by rw [zipL_len, dn.len, dn'.len]), fun H' e => ⟨ex_l e h, ex_l e h'⟩, fun i Ha v Hb hi y C1 e o => by
    obtain ⟨T, x, y, rfl, hT, rfl, h1, h2⟩ := y
    obtain ⟨d, h3, h4⟩ := dn.get' h1
    obtain ⟨d', h3', h4'⟩ := dn'.get' h2
    obtain ⟨t, q⟩ := tup_new o hT (h4.mono e) (h4'.mono e)
    exact ⟨_, _, zipL_get _ _ _ _ _ h3 h3', t, q⟩⟩
theorem pdi_zip {e e2 : Expr} {m : MA} {p pos tpos : Pos} {elts : List Expr} {kk : Nat} (hg : Gl X "zip") (hm : X.mg "zip" = none) (h : PDA X [e, e2] m)
    (hs : starEach [e, e2] X.env = (false, eval e X.env) :: starEach [e2] X.env := by rfl) (hpl : (backTo pos (starEach [e2] X.env)).any (·.1) = false := by rfl) : PDI X (.Tuple elts kk tpos) (.Call (.Name "zip" p) [e, e2] [] pos) (mZip m) := by
  refine ⟨pi_imp (pi_zip hg hm h.run hs hpl) fun σ H R q => ?_, fun env Q Q' i q => h.mono env _ _ (fun d ⟨a, b, c, q⟩ => ⟨a, b, c, i _ q⟩) q⟩
  obtain ⟨z, C, env, o, r, q⟩ := q
  refine liftA_use h.mono o r q fun ds vs C' H' ⟨as, bs, e, p⟩ t dn => ?_
  subst e
  obtain ⟨v, w, e1, e2, e3⟩ := dns2 dn
  obtain ⟨a, xs, f1, f2, f3⟩ := dn_lst.mp e2
  obtain ⟨b, ys, g1, g2, g3⟩ := dn_lst.mp e3
  rw [f1, g1] at e1
  exact ⟨a, b, xs, ys, e1, ex_l t.ok.ex (sq_of f2), ex_l t.ok.ex (sq_of g2), p _ C' H' t (itd_zip (sq_of f2) (sq_of g2) f3 g3)⟩
end

/-! ### targets -/
inductive Tgt where
  | nm (i : Nat) | tp (is : List Nat)
def gNs : List Nat → TGs
  | [] => gNil
  | i :: r => gCons (gName i) (gNs r)
def Tgt.g (K : PySem.W.Frag) : Tgt → TG
  | .nm i => gName i
  | .tp is => gTup K is.length (gNs is)
def Tgt.sl : Tgt → List Nat
  | .nm i => [i]
  | .tp is => is
def setsE {α : Type} (f : D → α) : List Nat → List D → List (Option α) → Option (List (Option α))
  | [], [], env => some env
  | i :: is, d :: ds, env => setsE f is ds (env.set i (some (f d)))
  | _, _, _ => none
def Tgt.put {α : Type} (f : D → α) : Tgt → D → List (Option α) → Option (List (Option α))
  | .nm i, d, env => some (env.set i (some (f d)))
  | .tp is, .tup ds, env => setsE f is ds env
  | .tp is, .pr ds, env => setsE f is ds env
  | .tp _, _, _ => none
def shd (d : D) : Bool × D := (false, d)
def idD (d : D) : D := d
theorem SR.sets {K : PySem.W.Frag} {z : Pz} {C0 H0 Cb C H : Hp} {Q : L2.St → Hp → Prop} : ∀ {is : List Nat} {ds : List D} {env env' : SEnv} {σ : L2.St} {xs : List V}, SR K z C0 H0 Cb C env σ H → Dns K C z.p ds xs → setsE shd is ds env = some env' →
    (∀ σ', SR K z C0 H0 Cb C env' σ' H → Q σ' H) → gNs is xs σ H Q
  | [], [], env, env', σ, xs, s, dn, e, k => by
    rw [dns_nil.mp dn]
    cases e
    exact ⟨rfl, k σ s⟩
  | i :: is, d :: ds, env, env', σ, xs, s, dn, e, k => by
    obtain ⟨v, r, e1, e2, e3⟩ := dns_cons.mp dn
    exact ⟨v, r, e1, SR.sets (s.set i e2) e3 e k⟩
  | [], d :: ds, env, env', σ, xs, s, dn, e, k => by cases e
  | i :: is, [], env, env', σ, xs, s, dn, e, k => by cases e
theorem SR.put {K : PySem.W.Frag} {z : Pz} {C0 H0 Cb C H : Hp} {env env' : SEnv} {σ : L2.St} {Q : L2.St → Hp → Prop} (s : SR K z C0 H0 Cb C env σ H) {t : Tgt} {d : D} {v : V} (dn : Dn K C z.p d v) (e : t.put shd d env = some env')
    (k : ∀ σ', SR K z C0 H0 Cb C env' σ' H → Q σ' H) : t.g K v σ H Q := by
  cases t with
  | nm i =>
    cases e
    exact k _ (s.set i dn)
  | tp is =>
    cases d with
    | tup ds =>
      obtain ⟨a, xs, e1, e2, e3⟩ := dn_tup dn
      refine ⟨a, xs, e1, ex_t s.tr.ok.ex e2, ?_, SR.sets s e3 e k⟩
      rw [e3.len]
      have : ∀ (is : List Nat) (ds : List D) (env env' : SEnv), setsE shd is ds env = some env' → ds.length = is.length := by
        intro is
        induction is with
        | nil => intro ds env env' e; cases ds with
          | nil => rfl
          | cons => cases e
        | cons i is ih => intro ds env env' e; cases ds with
          | nil => cases e
          | cons d ds => simp only [List.length_cons]; rw [ih ds _ env' e]
      exact this is ds env env' e
    | pr ds =>
      obtain ⟨a, xs, e1, e2, e3⟩ := dn_pr.mp dn
      refine ⟨a, xs, e1, ex_t s.tr.ok.ex e2, ?_, SR.sets s e3 e k⟩
      rw [e3.len]
      have : ∀ (is : List Nat) (ds : List D) (env env' : SEnv), setsE shd is ds env = some env' → ds.length = is.length := by
        intro is
        induction is with
        | nil => intro ds env env' e; cases ds with
          | nil => rfl
          | cons => cases e
        | cons i is ih => intro ds env env' e; cases ds with
          | nil => cases e
          | cons d ds => simp only [List.length_cons]; rw [ih ds _ env' e]
      exact this is ds env env' e
    | _ => cases e
theorem EnvR.sets {K : PySem.W.Frag} {z : Pz} {C H : Hp} {vs : List Nat} {σ0 : L2.St} {Q : L2.St → Hp → Prop} : ∀ {is : List Nat} {ds : List D} {env env' : Env} {σ : L2.St} {xs : List V}, EnvR K z C env σ → L2.wipe σ vs = σ0 → (∀ i ∈ is, i ∈ vs) → Dns K C z.p ds xs → setsE idD is ds env = some env' →
    (∀ (σ : L2.St) (i : Nat) (x : V), i ∈ vs → L2.wipe (σ.set i (some x)) vs = L2.wipe σ vs) → (∀ σ', EnvR K z C env' σ' → L2.wipe σ' vs = σ0 → Q σ' H) → gNs is xs σ H Q
  | [], [], env, env', σ, xs, s, w, hs, dn, e, wi, k => by
    rw [dns_nil.mp dn]
    cases e
    exact ⟨rfl, k σ s w⟩
  | i :: is, d :: ds, env, env', σ, xs, s, w, hs, dn, e, wi, k => by
    obtain ⟨v, r, e1, e2, e3⟩ := dns_cons.mp dn
    exact ⟨v, r, e1, EnvR.sets (s.set i e2) (by rw [wi σ i v (hs i (by simp))]; exact w) (fun j hj => hs j (by simp [hj])) e3 e wi k⟩
  | [], d :: ds, env, env', σ, xs, s, w, hs, dn, e, wi, k => by cases e
  | i :: is, [], env, env', σ, xs, s, w, hs, dn, e, wi, k => by cases e
theorem wipe_set {σ : L2.St} {x : V} : ∀ {vs : List Nat} {i : Nat}, i ∈ vs → L2.wipe (σ.set i (some x)) vs = L2.wipe σ vs
  | v :: vs, i, h => by
    show (L2.wipe (σ.set i (some x)) vs).set v none = (L2.wipe σ vs).set v none
    by_cases hi : i ∈ vs
    · rw [wipe_set hi]
    · have hv : i = v := by
        rcases List.mem_cons.mp h with e | e
        · exact e
        · exact absurd e hi
      subst hv
      have : ∀ ws : List Nat, i ∉ ws → L2.wipe (σ.set i (some x)) ws = (L2.wipe σ ws).set i (some x) := by
        intro ws
        induction ws with
        | nil => intro _; rfl
        | cons w ws ih =>
          intro hw
          show (L2.wipe (σ.set i (some x)) ws).set w none = ((L2.wipe σ ws).set w none).set i (some x)
          rw [ih fun q => hw (by simp [q])]
          exact List.set_comm _ _ (fun q => hw (by simp [q]))
      rw [this vs hi, List.set_set]
theorem wipe_wipe {σ : L2.St} : ∀ vs : List Nat, L2.wipe (L2.wipe σ vs) vs = L2.wipe σ vs := by
  have h1 : ∀ (ws : List Nat) (σ : L2.St) (v : Nat), v ∈ ws → (L2.wipe σ ws).set v none = L2.wipe σ ws := by
    intro ws
    induction ws with
    | nil => intro σ v h; simp at h
    | cons w ws ih =>
      intro σ v h
      show ((L2.wipe σ ws).set w none).set v none = (L2.wipe σ ws).set w none
      by_cases e : v = w
      · subst e; rw [List.set_set]
      · have hv : v ∈ ws := by
          rcases List.mem_cons.mp h with q | q
          · exact absurd q e
          · exact q
        rw [List.set_comm _ _ (Ne.symm e), ih σ v hv]
  have h2 : ∀ (us ws : List Nat) (σ : L2.St), (∀ u ∈ us, u ∈ ws) → L2.wipe (L2.wipe σ ws) us = L2.wipe σ ws := by
    intro us
    induction us with
    | nil => intro ws σ _; rfl
    | cons u us ih =>
      intro ws σ h
      show (L2.wipe (L2.wipe σ ws) us).set u none = L2.wipe σ ws
      rw [ih ws σ fun x hx => h x (by simp [hx]), h1 ws σ u (h u (by simp))]
  exact fun vs => h2 vs vs σ fun _ h => h

/-! ### for -/
def forGo (t : Tgt) (body : MS) (E : EndD) : List D → SEnv → Prop
  | [], env => E.nx env
  | x :: xs, env => ∃ env1, t.put shd x env = some env1 ∧ body { E with nx := forGo t body E xs, ct := forGo t body E xs, bk := E.nx } env1
def mFor (rs : List Nat) (mi : MI) (t : Tgt) (body : MS) : MS := fun E env => mi (view rs 0 env) fun items => forGo t body E items (frz rs 0 env)
def mForR (rs : List Nat) (mi : MI) (t : Tgt) (body : MS) : MS := fun E env => mi (view rs 0 env) fun items => forGo t body E items env
theorem forGo_mono {t : Tgt} {body : MS} (hb : MonoS body) {E E' : EndD} (l : EndD.Le E E') : ∀ (xs : List D) (env : SEnv), forGo t body E xs env → forGo t body E' xs env
  | [], env, h => l.nx _ h
  | x :: xs, env, ⟨env1, e, h⟩ => ⟨env1, e, hb { E with nx := forGo t body E xs, ct := forGo t body E xs, bk := E.nx } _ _ ⟨fun e h => forGo_mono hb l xs e h, l.rt, l.nx, fun e h => forGo_mono hb l xs e h⟩ h⟩
section
variable {X : Cx} {tg iter : Expr} {body : List Stmt} {mi : MI} {t : Tgt} {mb : MS} {pos : Pos}
/-- over any base that the state bears -/
def liftX (K : PySem.W.Frag) (z : Pz) (C0 H0 : Hp) (m : MS) : TS := fun N σ H => ∃ Cb, liftS K z C0 H0 Cb m N σ H
theorem PDSs.runX (hb : PDSs X body mb) (z : Pz) (C0 H0 : Hp) : PSs X body (liftX X.K z C0 H0 mb) := ⟨fun pins s σ H N I ⟨Cb, q⟩ => (hb.run z C0 H0 Cb).run pins s σ H N I q⟩
theorem for_core {K : PySem.W.Frag} {z : Pz} {C0 H0 Cb C H : Hp} {env : SEnv} {σ : L2.St} {J : It} {items : List D} {N : Ends} (hK : K = X.K) (s : SR K z C0 H0 Cb C env σ H) (it : ItD K z J items C) (hb : PDSs X body mb)
    (q : forGo t mb (endsOf K z C0 H0 Cb N) items env) :
    ∃ W : Nat → Nat → L2.St → Hp → Prop, (∃ m, W 0 m σ H) ∧ ∀ i m σ H, W i m σ H →
      (J.stop i H ∧ N.nx σ H) ∨ (J.go i H ∧ ∃ M : L2.St → Hp → Prop, (∀ σ' H', M σ' H' → ∃ m', m' < m ∧ W (i + 1) m' σ' H') ∧ ∀ x H', J.yld i H x H' → t.g K x σ H' fun σ2 H2 => liftX K z C0 H0 mb { N with nx := M, ct := M, bk := N.nx } σ2 H2) := by
  obtain ⟨G, Y, w, hG, hY⟩ := it.ex
  refine for_it w (g := t.g K) (tb := liftX K z C0 H0 mb) (D := N) (fun i σ Hc => ∃ C' env', SR K z C0 H0 C C' env' σ Hc ∧ forGo t mb (endsOf K z C0 H0 Cb N) (items.drop i) env') ⟨C, env, s.cb', by simpa using q⟩ (fun i σ Hc _ ⟨C', env', s', _⟩ => hG Hc (s'.cb.trans s'.tr.ok.ex)) (fun i x σ Hc Hd hi ⟨C', env', s', q'⟩ y => ?_) fun σ Hc ⟨C', env', s', q'⟩ => ?_
  · obtain ⟨d, C2, h1, h2, h3⟩ := hY i Hc x Hd hi y C' s'.cb s'.tr.ok
    have hd : items.drop i = d :: items.drop (i + 1) := by
      rw [List.drop_eq_getElem_cons hi]
      congr 1
      rw [List.getElem?_eq_getElem hi] at h1
      exact Option.some.inj h1
    rw [hd] at q'
    obtain ⟨env1, e1, q1⟩ := q'
    refine (s'.next h2).put h3 e1 fun σ' s2 => ⟨C, C2, env1, s2, hb.mono { endsOf K z C0 H0 Cb N with nx := forGo t mb (endsOf K z C0 H0 Cb N) (items.drop (i + 1)), ct := forGo t mb (endsOf K z C0 H0 Cb N) (items.drop (i + 1)), bk := (endsOf K z C0 H0 Cb N).nx } _ env1
      ⟨fun e q σ' C' H' sx => ⟨C', e, sx, q⟩, fun d q => q, fun e q σ' C' H' sx => q σ' C' H' (sx.weak s.cb), fun e q σ' C' H' sx => ⟨C', e, sx, q⟩⟩ q1⟩
  · rw [List.drop_of_length_le (Nat.le_refl _)] at q'
    exact q' σ C' Hc (s'.weak s.cb)
theorem pds_for (rs : List Nat) (hp : PassesOwn (model X.prog X.w) X.A X.env X.xe) (hc : X.calm = true) (hi : PDI X tg iter mi) (hg : PG X tg (t.g X.K)) (hb : PDSs X body mb) (hs : ∀ x, foldedSetIterable iter X.env x = pure x := by intro _; rfl) :
    PDS X (.For tg iter body [] pos) (mFor rs mi t mb) := by
  refine ⟨fun z C0 H0 Cb => ?_, fun E E' env l q => hi.mono _ _ _ (fun items q => forGo_mono hb.mono l items _ q) q⟩
  refine ps_imp (ps_for hp hc hi.run hg (hb.runX z C0 H0) hs) fun N σ H ⟨C, env, s, q⟩ => ?_
  refine ⟨z, _, _, s.okP rs, s.envP rs, hi.mono _ _ _ (fun items q J C' H' t it => ?_) q⟩
  obtain ⟨W, w1, w2⟩ := for_core rfl (s.frozen rs t) it hb q
  exact ⟨W, w1, w2⟩
/-- over a range: the own lists stay so -/
theorem pds_forR (rs : List Nat) (hp : PassesOwn (model X.prog X.w) X.A X.env X.xe) (hc : X.calm = true) (hi : PDR X tg iter mi) (hg : PG X tg (t.g X.K)) (hb : PDSs X body mb) (hs : ∀ x, foldedSetIterable iter X.env x = pure x := by intro _; rfl) :
    PDS X (.For tg iter body [] pos) (mForR rs mi t mb) := by
  refine ⟨fun z C0 H0 Cb => ?_, fun E E' env l q => hi.mono _ _ _ (fun items q => forGo_mono hb.mono l items _ q) q⟩
  refine ps_imp (ps_for hp hc hi.run hg (hb.runX z C0 H0) hs) fun N σ H ⟨C, env, s, q⟩ => ?_
  refine ⟨z, _, _, s.okP rs, s.envP rs, hi.mono _ _ _ (fun items q J C' H' t it => ?_) q⟩
  exact for_core rfl (s.thaw rs t) (it _) hb q
end

/-! ### comprehensions -/
structure PDTs (X : Cx) (ifs : List Expr) (m : MT) : Prop where
  run : PTs X ifs (liftT X.K m)
  mono : MonoT m
def mYes : MT := fun _ Q => Q true
theorem pts_imp {X : Cx} {ifs : List Expr} {t t' : TT} (h : PTs X ifs t) (i : ∀ σ H Q, t' σ H Q → t σ H Q) : PTs X ifs t' := ⟨fun pins s σ H Q I q => h.run pins s σ H Q I (i σ H Q q)⟩
theorem pdts_nil {X : Cx} : PDTs X [] mYes := ⟨pts_imp pts_nil fun σ H Q ⟨z, C, env, o, r, q⟩ => q C H (Tr.refl o), fun env Q Q' i q => i _ q⟩
theorem pdts_one {X : Cx} {c : Expr} {m : MT} (h : PDT X c m) : PDTs X [c] m := ⟨pts_one h.run, h.mono⟩
def lcGo (t : Tgt) (mt : MT) (me : ME) (env : Env) : List D → List D → (List D → Prop) → Prop
  | [], acc, Q => Q acc
  | x :: xs, acc, Q => ∃ env1, t.put idD x env = some env1 ∧ mt env1 fun b => if b = true then me env1 fun y => lcGo t mt me env xs (acc ++ [y]) Q else lcGo t mt me env xs acc Q
def moLc (vs : List Nat) (mi : MI) (t : Tgt) (mt : MT) (me : ME) : MA := fun env Q => mi env fun items => szOk (items.length + 1) = true ∧ lcGo t mt me (wipeE env vs) items [] Q
theorem lcGo_mono {t : Tgt} {mt : MT} {me : ME} (h1 : MonoT mt) (h2 : Mono me) {env : Env} {Q Q' : List D → Prop} (i : ∀ ds, Q ds → Q' ds) : ∀ (xs acc : List D), lcGo t mt me env xs acc Q → lcGo t mt me env xs acc Q'
  | [], acc, h => i _ h
  | x :: xs, acc, ⟨env1, e, h⟩ => ⟨env1, e, h1 _ _ _ (fun b h => by
      cases b with
      | true => exact h2 _ _ _ (fun y h => lcGo_mono h1 h2 i xs _ h) h
      | false => exact lcGo_mono h1 h2 i xs _ h) h⟩
theorem Tr.mut {z : Pz} {C H C' H' : Hp} {p : Addr} {u : HO} (o : Ok z C H) (t : Tr z C H C' H') (h : H p = none) (hc : C' p = none) : Tr z C H C' (upd H' p u) := by
  have np : z.p ≠ p := fun e => o.pur.pn (by rw [e]; exact h)
  have ng : z.g ≠ p := fun e => o.pur.gn (by rw [e]; exact h)
  have nc : z.c ≠ p := fun e => o.pur.cn (by rw [e]; exact h)
  obtain ⟨gs, cs, s, k, g1, g2, g3, g4⟩ := t.ok.pur.at_
  refine ⟨t.cc, ⟨fun a x e => ?_, ⟨gs, cs, s, k, by rw [upd_ne np]; exact g1, by rw [upd_ne ng]; exact g2, by rw [upd_ne nc]; exact g3, g4⟩, t.ok.pur.cp, t.ok.pur.cg, t.ok.pur.cc, t.ok.pur.pg, t.ok.pur.pc, t.ok.pur.gc⟩, fun a x e n1 n2 => ?_, t.new⟩
  · have : a ≠ p := fun q => by rw [q, hc] at e; cases e
    rw [upd_ne this]; exact t.ok.ex a x e
  · have : a ≠ p := fun q => by rw [q, h] at e; cases e
    rw [upd_ne this]; exact t.keep a x e n1 n2
theorem EnvR.put {K : PySem.W.Frag} {z : Pz} {C H : Hp} {env env' : Env} {σ : L2.St} {vs : List Nat} {Q : L2.St → Hp → Prop} (s : EnvR K z C env (L2.wipe σ vs)) (e0 : Ex C H) {t : Tgt} {d : D} {v : V} (ht : ∀ i ∈ t.sl, i ∈ vs) (dn : Dn K C z.p d v) (e : t.put idD d env = some env')
    (k : ∀ σ', EnvR K z C env' σ' → L2.wipe σ' vs = L2.wipe σ vs → Q σ' H) : t.g K v (L2.wipe σ vs) H Q := by
  cases t with
  | nm i =>
    cases e
    exact k _ (s.set i dn) (by rw [wipe_set (ht i (by simp [Tgt.sl])), wipe_wipe])
  | tp is =>
    cases d with
    | tup ds =>
      obtain ⟨a, xs, e1, e2, e3⟩ := dn_tup dn
      refine ⟨a, xs, e1, ex_t e0 e2, ?_, EnvR.sets s (wipe_wipe vs) (fun i hi => ht i hi) e3 e (fun σ i x hi => wipe_set hi) k⟩
      rw [e3.len]
      have : ∀ (is : List Nat) (ds : List D) (env env' : Env), setsE idD is ds env = some env' → ds.length = is.length := by
        intro is
        induction is with
        | nil => intro ds env env' e; cases ds with
          | nil => rfl
          | cons => cases e
        | cons i is ih => intro ds env env' e; cases ds with
          | nil => cases e
          | cons d ds => simp only [List.length_cons]; rw [ih ds _ env' e]
      exact this is ds env env' e
    | pr ds =>
      obtain ⟨a, xs, e1, e2, e3⟩ := dn_pr.mp dn
      refine ⟨a, xs, e1, ex_t e0 e2, ?_, EnvR.sets s (wipe_wipe vs) (fun i hi => ht i hi) e3 e (fun σ i x hi => wipe_set hi) k⟩
      rw [e3.len]
      have : ∀ (is : List Nat) (ds : List D) (env env' : Env), setsE idD is ds env = some env' → ds.length = is.length := by
        intro is
        induction is with
        | nil => intro ds env env' e; cases ds with
          | nil => rfl
          | cons => cases e
        | cons i is ih => intro ds env env' e; cases ds with
          | nil => cases e
          | cons d ds => simp only [List.length_cons]; rw [ih ds _ env' e]
      exact this is ds env env' e
    | _ => cases e
section
variable {X : Cx} {elt tg iter : Expr} {ifs : List Expr} {scope : Scope} {own : List (Str × Nat)} {pos : Pos} {mi : MI} {t : Tgt} {mt : MT} {me : ME}
theorem lc_core {K : PySem.W.Frag} {z : Pz} {C H : Hp} {env : Env} {σ : L2.St} {J : It} {items : List D} {vs : List Nat} {P : List D → Prop} {Q : VK} (o : Ok z C H) (r : EnvR K z C env σ) (it : ItD K z J items C) (h1 : MonoT mt) (h2 : Mono me) (ht : ∀ i ∈ t.sl, i ∈ vs)
    (hz : szOk (items.length + 1) = true) (q : lcGo t mt me (wipeE env vs) items [] P) (k : ∀ ds xs a C' H', P ds → Tr z C H C' H' → H a = none → C' a = none → H' a = some (.lst xs) → Dns K C' z.p ds xs → Q (.ref a) H') :
    ∀ N, H N = none → ∃ W : Nat → Nat → Hp → Prop, (∃ m, W 0 m (upd H N (.lst []))) ∧ ∀ i m H, W i m H →
      (J.stop i H ∧ Q (.ref N) H) ∨ (J.go i H ∧ ∃ Nx : Hp → Prop, (∀ H', Nx H' → ∃ m', m' < m ∧ W (i + 1) m' H') ∧ ∀ x H', J.yld i H x H' → t.g K x (L2.wipe σ vs) H' fun σ2 H2 => L2.wipe σ2 vs = L2.wipe σ vs ∧ liftT K mt σ2 H2 fun b H3 =>
        if b = true then lift K me σ2 H3 fun y H4 => ∃ acc, H4 N = some (.lst acc) ∧ acc.length < sizeLine ∧ Nx (upd H4 N (.lst (acc ++ [y]))) else Nx H3) := by
  intro N hN
  obtain ⟨G, Y, w, hG, hY⟩ := it.ex
  have hCN : C N = none := fresh_back o.ex hN
  have nNp : N ≠ z.p := fun e => o.pur.pn (by rw [← e]; exact hN)
  have nNg : N ≠ z.g := fun e => o.pur.gn (by rw [← e]; exact hN)
  refine lc_it w (g := t.g K) (tt := liftT K mt) (te := lift K me) (vs := vs) (σ := σ) (Qd := fun H => Q (.ref N) H)
    (fun i Hc => ∃ C' acc xs, Tr z C H C' Hc ∧ C' N = none ∧ Hc N = some (.lst xs) ∧ Dns K C' z.p acc xs ∧ acc.length ≤ i ∧ lcGo t mt me (wipeE env vs) (items.drop i) acc P)
    ⟨C, [], [], Tr.ext o (Ex.new hN), hCN, upd_same, dns_nil.mpr rfl, Nat.le_refl _, by simpa using q⟩ (fun i Hc _ ⟨C', acc, xs, t1, _⟩ => hG Hc (t1.cc.trans t1.ok.ex)) (fun i x Hc Hd hi ⟨C', acc, xs, t1, c1, c2, c3, c4, q'⟩ y => ?_) fun Hc ⟨C', acc, xs, t1, c1, c2, c3, c4, q'⟩ => ?_
  · obtain ⟨d, C2, g1, g2, g3⟩ := hY i Hc x Hd hi y C' t1.cc t1.ok
    have hd : items.drop i = d :: items.drop (i + 1) := by
      rw [List.drop_eq_getElem_cons hi]
      congr 1
      rw [List.getElem?_eq_getElem hi] at g1
      exact Option.some.inj g1
    rw [hd] at q'
    obtain ⟨env1, e1, q1⟩ := q'
    have t2 := t1.trans g2
    have hnn : Hc N ≠ none := by rw [c2]; exact fun q => nomatch q
    refine EnvR.put ((r.mono t2.cc).wipe vs) g2.ok.ex ht g3 e1 fun σ2 s2 w2 => ⟨w2, z, C2, env1, g2.ok, s2, h1 _ _ _ (fun b q2 C3 H3 t3 => ?_) q1⟩
    have t23 := g2.trans t3
    have hN3 : H3 N = some (.lst xs) := t23.keep N _ c2 nNp nNg
    have hC3 : C3 N = none := (t23.new N hnn).trans c1
    cases b with
    | false => exact ⟨C3, acc, xs, t1.trans t23, hC3, hN3, c3.mono t23.cc, Nat.le_succ_of_le c4, q2⟩
    | true =>
      show lift K me σ2 H3 _
      refine ⟨z, C3, env1, t3.ok, s2.mono t3.cc, h2 _ _ _ (fun d2 q3 v C4 H4 t4 dn4 => ?_) q2⟩
      have t24 := t23.trans t4
      have hN4 : H4 N = some (.lst xs) := t24.keep N _ c2 nNp nNg
      have hC4 : C4 N = none := (t24.new N hnn).trans c1
      have hl := c3.len
      refine ⟨xs, hN4, ?_, C4, acc ++ [d2], xs ++ [v], Tr.mut o (t1.trans t24) hN hC4, hC4, upd_same, (c3.mono t24.cc).app (Dns.one dn4), by simp; exact c4, q3⟩
      refine sz_lt ?_
      unfold szOk at hz ⊢
      simp only [decide_eq_true_eq] at hz ⊢
      omega
  · rw [List.drop_of_length_le (Nat.le_refl _)] at q'
    exact k acc xs N C' Hc q' t1 hN c1 c2 c3
theorem lc_run (hi : PDI X tg iter mi) (h1 : MonoT mt) (h2 : Mono me) {vs : List Nat} (ht : ∀ i ∈ t.sl, i ∈ vs) {σ : L2.St} {H : Hp} {Q : VK} (q : liftO X.K (moLc vs mi t mt me) σ H Q) : tLc (liftI X.K mi) (t.g X.K) (liftT X.K mt) (lift X.K me) vs σ H Q := by
  obtain ⟨z, C, env, o, r, q⟩ := q
  refine ⟨z, C, env, o, r, hi.mono _ _ _ (fun items ⟨hz, q⟩ J C' H' t1 it => ?_) q⟩
  exact lc_core t1.ok (r.mono t1.cc) it h1 h2 ht hz q fun ds xs a C2 H2 p t2 g1 g2 g3 g4 => p a xs C2 H2 (t1.trans t2) (t1.free g1) g2 g3 g4
theorem mono_lc {vs : List Nat} (hi : MonoA mi) (h1 : MonoT mt) (h2 : Mono me) : MonoA (moLc vs mi t mt me) := fun env Q Q' i q => hi _ _ _ (fun items ⟨a, q⟩ => ⟨a, lcGo_mono h1 h2 i _ _ q⟩) q
theorem PDR.pdi (h : PDR X tg iter mi) : PDI X tg iter mi := ⟨pi_imp h.run fun σ H R ⟨z, C, env, o, r, q⟩ => ⟨z, C, env, o, r, h.mono _ _ _ (fun items q J C' H' t it => q J C' H' t (it C')) q⟩, h.mono⟩
theorem pdo_lc (hc : X.calm = true) (hN : X.N.Nodup) (hi : PDI X tg iter mi) (ok : BlkOk X.N X.env.scope scope own) (ht : ∀ i ∈ t.sl, i ∈ own.map (·.2))
    (hg : ∀ (s : Shared) (H : Hp) (C : Addr) (cl : List (Str × Addr)) (fp : List Addr), PG (X.blk s H scope (compEnvC scope cl C X.env) fp) tg (t.g X.K)) (hts : ∀ (s : Shared) (H : Hp) (C : Addr) (cl : List (Str × Addr)) (fp : List Addr), PDTs (X.blk s H scope (compEnvC scope cl C X.env) fp) ifs mt)
    (he : ∀ (s : Shared) (H : Hp) (C : Addr) (cl : List (Str × Addr)) (fp : List Addr), PD (X.blk s H scope (compEnvC scope cl C X.env) fp) elt me) (hs : ∀ x, foldedSetIterable iter X.env x = pure x := by intro _; rfl) (h1 : MonoT mt) (h2 : Mono me) :
    PDO X (.ListComp elt [⟨tg, iter, ifs, 0⟩] scope pos) (moLc (own.map (·.2)) mi t mt me) :=
  ⟨pe_imp (pe_lc (tt := liftT X.K mt) (te := lift X.K me) hc hN hi.run ok hg (fun s H C cl fp => (hts s H C cl fp).run) (fun s H C cl fp => (he s H C cl fp).run) hs) fun σ H Q q => lc_run hi h1 h2 ht q, mono_lc hi.mono h1 h2⟩
/-- name = [..], the name a local: own -/
theorem pds_setLcO (rs : List Nat) {i : Nat} {y : Str} {py spos : Pos} (hc : X.calm = true) (hN : X.N.Nodup) (hy : X.N[i]? = some y) (hyl : X.env.scope.names.lookup y = some .local)
    (hsw : swapsWith (.ListComp elt [⟨tg, iter, ifs, 0⟩] scope pos) (some (.Name y py)) spos.line X.env = pure true) (hi : PDI X tg iter mi) (ok : BlkOk X.N X.env.scope scope own) (ht : ∀ i ∈ t.sl, i ∈ own.map (·.2))
    (hg : ∀ (s : Shared) (H : Hp) (C : Addr) (cl : List (Str × Addr)) (fp : List Addr), PG (X.blk s H scope (compEnvC scope cl C X.env) fp) tg (t.g X.K)) (hts : ∀ (s : Shared) (H : Hp) (C : Addr) (cl : List (Str × Addr)) (fp : List Addr), PDTs (X.blk s H scope (compEnvC scope cl C X.env) fp) ifs mt)
    (he : ∀ (s : Shared) (H : Hp) (C : Addr) (cl : List (Str × Addr)) (fp : List Addr), PD (X.blk s H scope (compEnvC scope cl C X.env) fp) elt me) (hs : ∀ x, foldedSetIterable iter X.env x = pure x := by intro _; rfl) (h1 : MonoT mt) (h2 : Mono me) :
    PDS X (.Assign [.Name y py] (.ListComp elt [⟨tg, iter, ifs, 0⟩] scope pos) spos) (mAsgO rs i (moLc (own.map (·.2)) mi t mt me)) := by
  refine ⟨fun z C0 H0 Cb => ps_imp (ps_setLc (tt := liftT X.K mt) (te := lift X.K me) hc hN hy hyl hsw hi.run ok hg (fun s H C cl fp => (hts s H C cl fp).run) (fun s H C cl fp => (he s H C cl fp).run) hs) fun N σ H ⟨C, env, s, q⟩ => ?_, fun E E' env l q => mono_lc hi.mono h1 h2 _ _ _ (fun d ⟨a, q⟩ => ⟨a, l.nx _ q⟩) q⟩
  refine lc_run hi h1 h2 ht (useO s rs (mono_lc hi.mono h1 h2) q fun ds xs a C' H' p s' g2 g3 dn g1 => p _ C' H' (s'.setOwn i g2 g3 dn (s.tr.free g1) (s.fresh g1)))
/-- the same, shared at once (where the items hold lists, say) -/
def mAsgS (rs : List Nat) (i : Nat) (m : MA) : MS := mAsg rs i (mLstO m)
theorem pds_setLcS (rs : List Nat) {i : Nat} {y : Str} {py spos : Pos} (hc : X.calm = true) (hN : X.N.Nodup) (hy : X.N[i]? = some y) (hyl : X.env.scope.names.lookup y = some .local)
    (hsw : swapsWith (.ListComp elt [⟨tg, iter, ifs, 0⟩] scope pos) (some (.Name y py)) spos.line X.env = pure true) (hi : PDI X tg iter mi) (ok : BlkOk X.N X.env.scope scope own) (ht : ∀ i ∈ t.sl, i ∈ own.map (·.2))
    (hg : ∀ (s : Shared) (H : Hp) (C : Addr) (cl : List (Str × Addr)) (fp : List Addr), PG (X.blk s H scope (compEnvC scope cl C X.env) fp) tg (t.g X.K)) (hts : ∀ (s : Shared) (H : Hp) (C : Addr) (cl : List (Str × Addr)) (fp : List Addr), PDTs (X.blk s H scope (compEnvC scope cl C X.env) fp) ifs mt)
    (he : ∀ (s : Shared) (H : Hp) (C : Addr) (cl : List (Str × Addr)) (fp : List Addr), PD (X.blk s H scope (compEnvC scope cl C X.env) fp) elt me) (hs : ∀ x, foldedSetIterable iter X.env x = pure x := by intro _; rfl) (h1 : MonoT mt) (h2 : Mono me) :
    PDS X (.Assign [.Name y py] (.ListComp elt [⟨tg, iter, ifs, 0⟩] scope pos) spos) (mAsgS rs i (moLc (own.map (·.2)) mi t mt me)) := by
  have hp := ps_setLc (i := i) (spos := spos) (pos := pos) (own := own) (tt := liftT X.K mt) (te := lift X.K me) hc hN hy hyl hsw hi.run ok hg (fun s H C cl fp => (hts s H C cl fp).run) (fun s H C cl fp => (he s H C cl fp).run) hs
  -- first as a fresh list, then into the core
  refine ⟨fun z C0 H0 Cb => ps_imp hp fun N σ H ⟨C, env, s, q⟩ => ?_, fun E E' env l q => mono_lc hi.mono h1 h2 _ _ _ (fun d q => l.nx _ q) q⟩
  refine lc_run hi h1 h2 ht ?_
  refine ⟨z, _, _, s.okP rs, s.envP rs, mono_lc hi.mono h1 h2 _ _ _ (fun ds p a xs C' H' t g1 g2 g3 dn => ?_) q⟩
  have hz : ∀ b, H b ≠ none → b ≠ a := fun b hb e => hb (by rw [e]; exact g1)
  have o := s.okP rs
  have t' : Tr z (coreP rs env σ C H) H (upd C' a (.lst xs)) H' := by
    refine ⟨t.cc.trans (Ex.new g2), ⟨fun b u e => ?_, ?_⟩, t.keep, fun b hb => ?_⟩
    · by_cases hb : b = a
      · subst hb; rw [upd_same] at e; cases e; exact g3
      · rw [upd_ne hb] at e; exact t.ok.ex b u e
    · obtain ⟨gs, cs, sm, k, f1, f2, f3, f4⟩ := t.ok.pur.at_
      exact ⟨⟨gs, cs, sm, k, f1, f2, f3, f4⟩, by rw [upd_ne (hz _ o.pur.pn)]; exact t.ok.pur.cp, by rw [upd_ne (hz _ o.pur.gn)]; exact t.ok.pur.cg, by rw [upd_ne (hz _ o.pur.cn)]; exact t.ok.pur.cc, t.ok.pur.pg, t.ok.pur.pc, t.ok.pur.gc⟩
    · rw [upd_ne (hz b hb)]; exact t.new b hb
  have s' := s.frozen rs t'
  have p' : (endsOf X.K z C0 H0 Cb N).nx ((aft rs (.lst ds) env).set i (some (false, .lst ds))) := p
  unfold aft at p'
  rw [if_neg (by simp [D.lf])] at p'
  exact p' _ _ H' (s'.set i (dn_new_lst dn g2))
end
end BV

/-! Defs that are called where no repr is under way: their promise, their call, their body, the law's end. -/
namespace BV
open PySem PySem.Spec PyProof.Rows L2 Evl

/-- a def keeps its promise wherever no container is being shown -/
structure FnG (P : Program) (w : World) (K : PySem.W.Frag) (mg : Str → Option Value) (base : Heap) (CX : CXT) (k : Nat) (f : Addr) (fd : FuncData) (ps : List Str) (sp : Sp) : Prop where
  many : ∀ vs H Q E, sp vs H Q E → vs.length = ps.length
  go : ∀ (A : Around) (out : List PySem.Env) (s : Shared) (H : Hp) (ar : Args) (us : List Value) (vs : List V) (Q : VK) (E : XK), Room k A → A.guards = some [] → Env0 P w K mg base A out s H → BindsTo s fd ar (ps.zip us) → Vals vs us → sp vs H Q E →
    codeAny (model P w) A (.call (.ref f) ar) (CR CX out P w H s Q E) s
section
variable {P : Program} {w : World} {K : PySem.W.Frag} {mg : Str → Option Value} {base : Heap} {CX : CXT} {j k : Nat} {f : Addr} {fd : FuncData} {ps : List Str} {sp sp' : Sp}
theorem FnG.up (F : FnG P w K mg base CX j f fd ps sp) (h : j ≤ k) : FnG P w K mg base CX k f fd ps sp := ⟨F.many, fun A o s H ar us vs Q E r => F.go A o s H ar us vs Q E (r.mono h)⟩
theorem FnG.imp (F : FnG P w K mg base CX k f fd ps sp) (h : ∀ vs H Q E, sp' vs H Q E → sp vs H Q E) : FnG P w K mg base CX k f fd ps sp' :=
  ⟨fun vs H Q E q => F.many vs H Q E (h _ _ _ _ q), fun A o s H ar us vs Q E r g e b v q => F.go A o s H ar us vs Q E r g e b v (h _ _ _ _ q)⟩
end

/-! ### the call -/
section
variable {X : Cx} {CX : CXT} {k : Nat} {f : Addr} {fd : FuncData} {ps ks : List Str} {sp : Sp} {E : XK} {x : Str} {p pos : Pos} {e : Expr} {es : List Expr} {t tk : TA} {kws : List Keyword}
theorem end_of {pins : List (Addr × Obj)} {σ : L2.St} {H : Hp} {s : Shared} {Q : VK} (I : Inv X pins σ H s) (hx : Passes CX X E) : ∀ (r : Result) (s' : Shared), CR CX X.stack X.prog X.w H s Q E r s' → match r with
    | .ok (.ret u) => EP X pins σ Q u s'
    | .ok _ => False
    | .error e => X.xe e s'
  | .error e, s', q => hx pins σ H s e s' I q
  | .ok (.ret u), s', q => I.after q
  | .ok .next, s', q => q
  | .ok .brk, s', q => q
  | .ok .cont, s', q => q
theorem pe_callG (F : FnG X.prog X.w X.K X.mg X.base CX k f fd ps sp) (hr : Room k X.A) (hgd : X.A.guards = some []) (hg : Gl X x) (hm : X.mg x = some (.ref f)) (hk : PySem.W.keepIn X.K (.ref f) = true) (hb : Binds X.K fd ps []) (hx : Passes CX X E)
    (ha : PA X (e :: es) t) (hdb : (x == ("__debug__" : Str)) = false) (he : starEach (e :: es) X.env = (false, eval e X.env) :: starEach es X.env) (hpl : (backTo pos (starEach es X.env)).any (·.1) = false) :
    PE X (.Call (.Name x p) (e :: es) [] pos) (tCall sp [] E t) := by
  refine ⟨fun pins s σ H Q I q0 => wpAny_Call_Name_kw (ld_glob I hg hm ?_ hdb)⟩
  refine PySem.W.callWith_K (h₀ := X.base) I.ok.mod.kin hk (thn (ha.run pos pins s σ H _ I q0) fun us s1 ⟨vs, H1, I1, r1, q1⟩ => ⟨I1.kIn, ?_⟩) he hpl
  have q2 : sp vs H1 Q E := by
    have q3 : sp (vs ++ []) H1 Q E := q1
    rwa [List.append_nil] at q3
  have hn : (us ++ ([] : List Value)).length = ps.length := by rw [List.append_nil, ← r1.length]; exact F.many _ _ _ _ q2
  have hbt := hb s1 us I1.kIn hn
  rw [List.append_nil] at hbt
  refine wpAny_call (codeAny_mono (F.go X.A X.stack s1 H1 _ us vs Q E hr hgd I1.env0 hbt r1 q2) fun r s' z => ?_)
  have z' := end_of I1 hx r s' z
  match r, z' with
  | .error _, z' => exact z'
  | .ok (.ret _), z' => exact z'
  | .ok .next, z' => exact z'.elim
  | .ok .brk, z' => exact z'.elim
  | .ok .cont, z' => exact z'.elim
/-- f(k = v, ..), all by name; g puts the values in the parameters' order -/
structure KwB (K : PySem.W.Frag) (fd : FuncData) (ps ks : List Str) (g : List Value → List Value) (gV : List V → List V) : Prop where
  to : ∀ (s : Shared) (ws : List Value), K.In s.heap → ws.length = ks.length → (g ws).length = ps.length → BindsTo s fd ⟨[], ks.zip ws⟩ (ps.zip (g ws))
  rel : ∀ {zs : List V} {ws : List Value}, Vals zs ws → Vals (gV zs) (g ws)
def tCallG (sp : Sp) (gV : List V → List V) (n : Nat) (E : XK) (tk : TA) : TE := fun σ H Q => tk σ H fun zs H1 => zs.length = n ∧ sp (gV zs) H1 Q E
theorem pe_callGK {g : List Value → List Value} {gV : List V → List V} (F : FnG X.prog X.w X.K X.mg X.base CX k f fd ps sp) (hr : Room k X.A) (hgd : X.A.guards = some []) (hg : Gl X x) (hm : X.mg x = some (.ref f)) (hk : PySem.W.keepIn X.K (.ref f) = true)
    (hb : KwB X.K fd ps ks g gV) (hx : Passes CX X E) (hkw : PK X kws tk) (hall : (backToKw pos (keywordEach kws X.env)).all (·.1.isSome) = true) (hks : (backToKw pos (keywordEach kws X.env)).filterMap (·.1) = ks)
    (hdb : (x == ("__debug__" : Str)) = false) (hpl : ((backTo pos (starEach [] X.env)).any (·.1) || (backToKw pos (keywordEach kws X.env)).any (·.1.isNone)) = false) :
    PE X (.Call (.Name x p) [] kws pos) (tCallG sp gV ks.length E tk) := by
  refine ⟨fun pins s σ H Q I q0 => wpAny_Call_Name_kw (ld_glob I hg hm ?_ hdb)⟩
  refine PySem.W.callWith_KW0 (h₀ := X.base) I.ok.mod.kin hk hall (thn (hkw.run pos pins s σ H _ I q0) fun ws s1 ⟨zs, H1, I1, r1, hl, q1⟩ => ⟨I1.kIn, ?_⟩) hpl
  rw [hks]
  have r2 := hb.rel r1
  have hn : (g ws).length = ps.length := by rw [← r2.length]; exact F.many _ _ _ _ q1
  refine wpAny_call (codeAny_mono (F.go X.A X.stack s1 H1 _ (g ws) (gV zs) Q E hr hgd I1.env0 (hb.to s1 ws I1.kIn (by rw [← r1.length]; exact hl) hn) r2 q1) fun r s' z => ?_)
  have z' := end_of I1 hx r s' z
  match r, z' with
  | .error _, z' => exact z'
  | .ok (.ret _), z' => exact z'
  | .ok .next, z' => exact z'.elim
  | .ok .brk, z' => exact z'.elim
  | .ok .cont, z' => exact z'.elim
end

/-! ### the body -/
section
variable {P : Program} {w : World} {K : PySem.W.Frag} {mg : Str → Option Value} {base : Heap} {CX : CXT} {k : Nat} {f : Addr} {fd : FuncData} {N ps : List Str} {sp : Sp} {x qual : Str} {st : Stmt}
theorem fnG_of (F : Fun K x qual st f fd) (S : FnScope N ps (defScope st)) (many : ∀ vs H Q E, sp vs H Q E → vs.length = ps.length)
    (body : ∀ (cdv : Value) (A : Around) (out : List PySem.Env) (s : Shared) (H : Hp) (vs : List V) (Q : VK) (E : XK), Room k (A.deeper (envOfC qual (defScope st) s.heap.objs.size f cdv)) → A.guards = some [] → sp vs H Q E →
      ∃ t, PSs (cxOf CX P w K mg base N qual (defScope st) f cdv A out s H E) (defBody st) t ∧ t { nx := fun _ H' => Q .non H', rt := Q } (start N vs) H) : FnG P w K mg base CX (k + 1) f fd ps sp := by
  obtain ⟨oc, od, kV, doc, pm, an, cdv, ct, osl, rfl, lk, hcd⟩ := F.ex
  refine ⟨many, fun A out s H ar us vs Q E hr gd e0 hb r hsp => ?_⟩
  have hn := many _ _ _ _ hsp
  have KX : K.In s.heap := e0.mod.kin.keeps fun b o e => (e0.bs b o e).1
  have lim := e0.mod.nolimit.keeps fun b o e => (e0.bs b o e).1
  refine codeAny_call_function hr.depth (KX _ _ lk) rfl S.co S.gen rfl (PySem.W.codeRec_of KX hcd) (hb _ _ _ _ (wpAny_newFunctionEnv_cells S.kind (fun y hy => ?_) fun env he s1 x1 => ?_))
  · rcases S.par y.1 (List.of_mem_zip (b := y.2) hy).1 with q | q
    · exact .inl q
    · exact .inr ⟨q, PySem.W.cellsFrom_some _ _ _ (.inl q)⟩
  · subst he
    obtain ⟨t, ht, hq⟩ := body cdv A out s H vs Q E (hr.deeper _) gd hsp
    refine ⟨lim.keeps x1.toInCall.keep, codeAny_func (wpAny_mono (ht.run [] s1 (start N vs) H _ (inv_start S hr.hd e0 hn r x1) hq) (fun fl s' hs => ?_) fun e s' hs => hs)⟩
    match fl, hs with
    | .ret u, ⟨v, σ', H', J, rv, q⟩ => exact ⟨v, H', J.os, J.bare, J.base, J.hok, rv, q⟩
    | .next, ⟨σ', H', J, q⟩ => exact ⟨V.non, H', J.os, J.bare, J.base, J.hok, rfl, q⟩
    | .brk, ⟨_, _, _, q⟩ => exact False.elim q
    | .cont, ⟨_, _, _, q⟩ => exact False.elim q
end

/-! ### the law's end -/
section
/-- what the law's call finds: the script alone, locked, or one of the written part -/
theorem end_law {P : Program} {w : World} {K : PySem.W.Frag} {mg mb : Str → Option Value} {CX : CXT} {k : Nat} {fa a : Addr} {fd : FuncData} {x : Str} {sp : Sp} {s₁ : Shared} {vs : List Value} {ns : List Int}
    (KX : K.In s₁.heap) (hns : s₁.heap.Ns mainGlobals mg) (hb : s₁.heap.Ns builtinsNs mb) (hbb : ∀ x : Str, x ≠ "__name__" → mb x = bootBuiltins x) (hlim : s₁.heap.NoLimit) (hg : s₁.gens = #[])
    (ha : s₁.heap.get? a = some { cls := .type "list", data := .seq vs.toArray }) (hi : IntsAre vs ns) (hl : ns.length ≤ sizeLine) (hr : Room k callerA)
    (F : ∀ base : Heap, K.In base → base.Ns mainGlobals mg → FnG P w K mg base CX k fa fd [x] sp) (hbind : ∀ (s : Shared) (u : Value), BindsTo s fd ⟨[u], []⟩ [(x, u)])
    (hsp : ∀ H : Hp, Only H → SqL K H a (ns.map V.int) → sp [.ref a] H (fun v _ => v = .bl true) fun _ _ _ => False)
    (hCX : ∀ H e s', CX [] H s₁ (fun _ _ _ => False) e s' → False) :
    codeAny (model P w) callerA (.call (.ref fa) ⟨[.ref a], []⟩) (fun r s' => r = .ok (.ret (.bool true)) ∧ OldK s₁.heap s'.heap ∧ s'.os = s₁.os ∧ AllBare s'.gens) s₁ := by
  have rv := vals_ints hi
  have lenV := hi.length
  -- what is told of the script, by whether it is written
  have way : ∃ H : Hp, Only H ∧ SqL K H a (ns.map V.int) ∧ HOk P w H s₁.heap ∧ (∀ b, H b ≠ none → b = a ∧ K.lookup a = none) := by
    cases hk : K.lookup a with
    | some o =>
      have e := KX a o hk
      rw [ha] at e
      cases e
      exact ⟨fun _ => none, fun _ => .inl rfl, .inr ⟨_, vs.toArray, _, hk, rfl, rfl, rfl, by rw [List.size_toArray, lenV]; exact hl, by simpa using rv⟩, fun b u z => (nomatch (show (none : Option HO) = some u from z)), fun b z => absurd rfl z⟩
    | none =>
      refine ⟨fun b => if b = a then some (.frz { cls := .type "list", data := .seq vs.toArray } (.lst (ns.map V.int))) else none, fun b => ?_, .inl (.inr ⟨_, if_pos rfl⟩), fun b u z => ?_, fun b z => ⟨?_, rfl⟩⟩
      · by_cases q : b = a
        · exact .inr ⟨_, _, if_pos q⟩
        · exact .inl (if_neg q)
      · by_cases q : b = a
        · have z' := (if_pos q).symm.trans z
          cases z'
          subst q
          exact ⟨ha, by rw [List.length_map]; exact hl, vs, _, rv, ha⟩
        · have z' := (if_neg q).symm.trans z
          cases z'
      · by_cases q : b = a
        · exact q
        · exact absurd (if_neg q) z
  obtain ⟨H, hO, hS, hok, hA⟩ := way
  have plain : ∀ {b : Addr} {o : Obj} {es : Array DictEntry} {ep : Nat}, s₁.heap.get? b = some o → o.data = .dict es ep → H b = none := fun {b o es ep} e d => by
    cases q : H b with
    | none => rfl
    | some u =>
      obtain ⟨e', _⟩ := hA b (by rw [q]; simp)
      subst e'
      rw [ha] at e
      cases e
      exact nomatch (show Data.seq vs.toArray _ = Data.dict es ep from d)
  have names : ∀ {b : Addr} {m : Str → Option Value}, s₁.heap.Ns b m → (hidT s₁.heap H).Ns b m := fun {b m} ⟨o, es, ep, e, d, r⟩ => ⟨o, es, ep, hidT_get e (plain e d), d, r⟩
  have written : K.In (hidT s₁.heap H) := fun b o e => hidT_get (KX b o e) (by
    cases q : H b with
    | none => rfl
    | some u =>
      obtain ⟨e', n⟩ := hA b (by rw [q]; simp)
      subst e'
      rw [n] at e
      cases e)
  have md : Mod K mg (hidT s₁.heap H) := ⟨written, names hns, ⟨mb, names hb, hbb⟩, let ⟨mc, h1, h2⟩ := hlim; ⟨mc, names h1, h2⟩⟩
  have e0 : Env0 P w K mg (hidT s₁.heap H) callerA [] s₁ H := ⟨rfl, md, fun b o e => of_hidT e, Nat.le_of_eq (hidT_size _ _), trivial, fun b z => (nomatch (show b ∈ ([] : List Addr) from z)), hok, .of_eq hg⟩
  refine codeAny_mono ((F _ written (names hns)).go callerA [] s₁ H ⟨[.ref a], []⟩ [.ref a] [.ref a] _ _ hr rfl e0 (hbind s₁ (.ref a)) (.cons rfl .nil) (hsp H hO hS)) fun r s' z => ?_
  match r, z with
  | .error e, z => exact (hCX H e s' z).elim
  | .ok .next, z => exact False.elim z
  | .ok .brk, z => exact False.elim z
  | .ok .cont, z => exact False.elim z
  | .ok (.ret u), ⟨v, H', os, bare, un, hok', r', q⟩ =>
    have q' : v = .bl true := q
    subst q'
    obtain rfl : u = Value.bool true := r'
    refine ⟨rfl, OldK.of_keep fun b o e => ?_, os, bare⟩
    cases hb' : H b with
    | none => exact un.keep b o e hb' (fun z => (nomatch (show b ∈ ([] : List Addr) from z))) (by simp)
    | some u =>
      rcases hO b with z | ⟨ob, xs, z⟩
      · rw [hb'] at z; cases z
      · obtain ⟨e1, _⟩ := hok b _ z
        obtain ⟨e2, _⟩ := hok' b _ (un.frzs b ob _ z)
        rw [e] at e1
        cases e1
        exact e2
/-- the goal behind the head, from the law's promise -/
theorem end_walk {l : PySem.W.OpenLaw} {n k : Nat} {q : Program} {loose : List Str} {XP : (Str → Option Value) → Heap → Prop} {YP : World → Heap → Prop} {d : DefRec} {K : Params → PySem.W.Frag} {CX : World → CXT} {sp : World → Sp} {x : Str}
    (hn : l.most = some n) (hn2 : n ≤ sizeLine) (hdf : d.params.defaults = []) (hr : Room k callerA) (hY : ∀ (w : World) (h : Heap), YP w h → (K w.params).In h)
    (F : ∀ (w : World) (mg : Str → Option Value) (fa : Addr) (h : Heap), (K w.params).In h → h.Ns mainGlobals mg → mg d.name = some (.ref fa) →
      ∃ fd : FuncData, (∀ (s : Shared) (u : Value), BindsTo s fd ⟨[u], []⟩ [(x, u)]) ∧ ∀ base : Heap, (K w.params).In base → base.Ns mainGlobals mg → FnG l.prog w (K w.params) mg base (CX w) k fa fd [x] (sp w))
    (hsp : ∀ (w : World) (H : Hp) (a : Addr) (ns : List Int), ns.length ≤ n → Only H → SqL (K w.params) H a (ns.map V.int) → sp w [.ref a] H (fun v _ => v = .bl true) fun _ _ _ => False)
    (hCX : ∀ (w : World) (H : Hp) (s : Shared) (e : Value) (s' : Shared), CX w [] H s (fun _ _ _ => False) e s' → False) :
    PySem.W.WalkO q loose XP YP l.row.toRowW d [] (fun f vs => PySem.call f vs) := by
  refine Att.attach_call hn hdf fun w s₀ s₁ mg mb fa o pm cd doc a vs ns G Y ho hd hcd hmg hobj hints hlen hg => ?_
  obtain ⟨fd, hb, hF⟩ := F w mg fa _ (hY w _ Y) G.T.g hmg
  exact end_law (hY w _ Y) G.T.g G.T.b G.T.builtins G.T.nolimit hg hobj hints (Nat.le_trans hlen hn2) hr hF hb (fun H hO hS => hsp w H a ns hlen hO hS) fun H e s' => hCX w H s₁ e s'
end

/-! ### on data -/
abbrev FnD (P : Program) (w : World) (K : PySem.W.Frag) (mg : Str → Option Value) (base : Heap) (k : Nat) (f : Addr) (fd : FuncData) (ps : List Str) (sp : SpD) : Prop := FnG P w K mg base CX0 k f fd ps (liftF K sp)
theorem FnG.says {P : Program} {w : World} {K : PySem.W.Frag} {mg : Str → Option Value} {base : Heap} {k : Nat} {f : Addr} {fd : FuncData} {ps : List Str} {sp sp' : SpD} (F : FnD P w K mg base k f fd ps sp) (h : ∀ ds T, sp' ds T → sp ds T) : FnD P w K mg base k f fd ps sp' :=
  F.imp fun vs H Q E ⟨z, C, ds, T, o, dn, q, k⟩ => ⟨z, C, ds, T, o, dn, h _ _ q, k⟩
section
variable {X : Cx} {e : Expr} {pos : Pos}
def mCall (sp : SpD) (m : MA) : ME := fun env Q => m env fun ds => ∃ T : D → Prop, sp ds T ∧ ∀ d, T d → Q d
theorem call_use {sp : SpD} {ds : List D} {vs : List V} {z : Pz} {C H C' H' : Hp} {K : PySem.W.Frag} {Q : VK} (t : Tr z C H C' H') (dn : Dns K C' z.p ds vs) (p : ∃ T : D → Prop, sp ds T ∧ ∀ d, T d → ∀ v C' H', Tr z C H C' H' → Dn K C' z.p d v → Q v H') : liftF K sp vs H' Q E0 := by
  obtain ⟨T, q, k⟩ := p
  exact ⟨z, C', ds, T, t.ok, dn, q, fun d v C2 H2 hT t2 dn2 => k d hT v C2 H2 (t.trans t2) dn2⟩
theorem pd_call {k : Nat} {f : Addr} {fd : FuncData} {ps : List Str} {sp : SpD} {x : Str} {p : Pos} {es : List Expr} {m : MA} (F : FnD X.prog X.w X.K X.mg X.base k f fd ps sp) (hr : Room k X.A) (hgd : X.A.guards = some []) (hk : PySem.W.keepIn X.K (.ref f) = true) (hb : Binds X.K fd ps [])
    (hm : X.mg x = some (.ref f)) (h : PDA X (e :: es) m) (hg : Gl X x := by rfl) (hdb : (x == ("__debug__" : Str)) = false := by decide) (he : starEach (e :: es) X.env = (false, eval e X.env) :: starEach es X.env := by rfl) (hpl : (backTo pos (starEach es X.env)).any (·.1) = false := by rfl) :
    PD X (.Call (.Name x p) (e :: es) [] pos) (mCall sp m) := by
  refine ⟨pe_imp (pe_callG F hr hgd hg hm hk hb pass0 h.run hdb he hpl) fun σ H Q q => ?_, fun env Q Q' i q => h.mono env _ _ (fun ds ⟨T, q, k⟩ => ⟨T, q, fun d hT => i d (k d hT)⟩) q⟩
  obtain ⟨z, C, env, o, r, q⟩ := q
  refine liftA_use h.mono o r q fun ds vs C' H' p t dn => ?_
  show liftF X.K sp (vs ++ []) H' Q E0
  rw [List.append_nil]
  exact call_use t dn p
/-- by names -/
structure PDK (X : Cx) (kws : List Keyword) (m : MA) : Prop where
  run : PK X kws (liftA X.K m)
  mono : MonoA m
theorem pk_imp {kws : List Keyword} {t t' : TA} (h : PK X kws t) (i : ∀ σ H Q, t' σ H Q → t σ H Q) : PK X kws t' := ⟨fun p pins s σ H Q I q => h.run p pins s σ H Q I (i σ H Q q)⟩
theorem pdk_nil : PDK X [] maNil := ⟨pk_imp pk_nil fun σ H Q ⟨z, C, env, o, r, q⟩ => q [] C H (Tr.refl o) (dns_nil.mpr rfl), fun env Q Q' i q => i _ q⟩
theorem pdk_cons {kws : List Keyword} {nm : Option Str} {kpos : Pos} {ma : ME} {mr : MA} (ha : PD X e ma) (hr : PDK X kws mr) : PDK X (⟨nm, e, kpos⟩ :: kws) (maCons ma mr) := by
  refine ⟨pk_imp (pk_cons ha.run hr.run) fun σ H Q q => ?_, fun env Q Q' i q => ha.mono env _ _ (fun d q => hr.mono env _ _ (fun ds q => i _ q) q) q⟩
  obtain ⟨z, C, env, o, r, q⟩ := q
  exact lift_use ha.mono o r q fun d v C' H' p t dn => liftA_use hr.mono t.ok (r.mono t.cc) p fun ds vs C2 H2 p2 t2 dns => p2 (v :: vs) C2 H2 (t.trans t2) (dns_cons.mpr ⟨v, vs, rfl, dn.mono t2.cc, dns⟩)
/-- keywords in the parameters' order -/
theorem pd_callK {k : Nat} {f : Addr} {fd : FuncData} {ps : List Str} {sp : SpD} {x : Str} {p : Pos} {kws : List Keyword} {m : MA} (F : FnD X.prog X.w X.K X.mg X.base k f fd ps sp) (hr : Room k X.A) (hgd : X.A.guards = some []) (hk : PySem.W.keepIn X.K (.ref f) = true)
    (hb : KwB X.K fd ps ps id id) (hm : X.mg x = some (.ref f)) (h : PDK X kws m) (hall : (backToKw pos (keywordEach kws X.env)).all (·.1.isSome) = true := by rfl) (hks : (backToKw pos (keywordEach kws X.env)).filterMap (·.1) = ps := by rfl)
    (hg : Gl X x := by rfl) (hdb : (x == ("__debug__" : Str)) = false := by decide) (hpl : ((backTo pos (starEach [] X.env)).any (·.1) || (backToKw pos (keywordEach kws X.env)).any (·.1.isNone)) = false := by rfl) :
    PD X (.Call (.Name x p) [] kws pos) (mCall sp m) := by
  refine ⟨pe_imp (pe_callGK F hr hgd hg hm hk hb pass0 h.run hall hks hdb hpl) fun σ H Q q => ?_, fun env Q Q' i q => h.mono env _ _ (fun ds ⟨T, q, k⟩ => ⟨T, q, fun d hT => i d (k d hT)⟩) q⟩
  obtain ⟨z, C, env, o, r, q⟩ := q
  refine liftA_use h.mono o r q fun ds vs C' H' p t dn => ?_
  have q2 : liftF X.K sp vs H' Q E0 := call_use t dn p
  exact ⟨F.many _ _ _ _ q2, q2⟩
end
/-- a def's promise, as its body tells it -/
def startE (n : Nat) (ds : List D) : SEnv := ds.map (fun d => some (false, d)) ++ List.replicate (n - ds.length) none
def endF (T : D → Prop) : EndD := { nx := fun _ => T .non, rt := T, bk := fun _ => False, ct := fun _ => False }
def spOf (np n : Nat) (m : MS) : SpD := fun ds T => ds.length = np ∧ m (endF T) (startE n ds)
section
variable {P : Program} {w : World} {K : PySem.W.Frag} {mg : Str → Option Value} {base : Heap} {k : Nat} {f : Addr} {fd : FuncData} {N ps : List Str} {x qual : Str} {st : Stmt} {m : MS}
theorem startE_at {n : Nat} {ds : List D} {i : Nat} {y : Bool × D} (h : (startE n ds)[i]? = some (some y)) : y.1 = false ∧ ds[i]? = some y.2 := by
  unfold startE at h
  by_cases hi : i < ds.length
  · rw [List.getElem?_append_left (by simpa using hi), List.getElem?_map, List.getElem?_eq_getElem hi] at h
    simp only [Option.map_some, Option.some.injEq] at h
    rw [← h, List.getElem?_eq_getElem hi]
    exact ⟨rfl, rfl⟩
  · rw [List.getElem?_append_right (by simpa using hi), List.getElem?_replicate] at h
    split at h <;> cases h
theorem sr_start {z : Pz} {C H : Hp} {ds : List D} {vs : List V} (o : Ok z C H) (dn : Dns K C z.p ds vs) : SR K z C H C C (startE N.length ds) (L2.start N vs) H := by
  have hl := dn.len
  refine ⟨o, Tr.refl o, Ex.refl C, ?_, fun i d h => ?_, fun i d h => ?_, fun i j d e a h _ _ _ => ?_⟩
  · unfold startE L2.start
    simp [hl]
  · obtain ⟨v, h1, h2⟩ := dn.get (startE_at h).2
    refine ⟨v, ?_, h2⟩
    have hv := (List.getElem?_eq_some_iff.mp h1).1
    unfold L2.start
    rw [List.getElem?_append_left (by simpa using hv), List.getElem?_map, h1]
    rfl
  · cases (startE_at h).1
  · cases (startE_at h).1
/-- THE RULE for a def on data -/
theorem fnD_of (F : Fun K x qual st f fd) (S : FnScope N ps (defScope st))
    (body : ∀ (cdv : Value) (A : Around) (out : List PySem.Env) (s : Shared) (H : Hp) (E : XK), Room k (A.deeper (envOfC qual (defScope st) s.heap.objs.size f cdv)) → A.guards = some [] →
      PDSs (cxOf CX0 P w K mg base N qual (defScope st) f cdv A out s H E).nox (defBody st) m) : FnD P w K mg base (k + 1) f fd ps (spOf ps.length N.length m) := by
  refine fnG_of F S (fun vs H Q E ⟨z, C, ds, T, o, dn, h, _⟩ => by rw [dn.len, h.1]) fun cdv A out s H vs Q E hr gd ⟨z, C, ds, T, o, dn, h, k⟩ => ?_
  have b := body cdv A out s H E hr gd
  refine ⟨_, (b.run z C H C).nox, C, _, sr_start (N := N) o dn, b.mono (endF T) _ _ ⟨fun e q σ' C' H' s' => ?_, fun d q v C' H' t dn => k d v C' H' q t dn, fun _ q => q.elim, fun _ q => q.elim⟩ h.2⟩
  exact k .non .non C' H' q s'.tr (dn_non.mpr rfl)
end
end BV

/-! Operators, subscripts, slices, built-ins, by value. -/
namespace BV
open PySem PySem.Spec PyProof.Rows L2 Evl

section
variable {X : Cx}
def addD : D → D → Option D
  | .int i, .int j => some (.int (i + j))
  | .str a, .str b => if szOk (a.length + b.length) = true then some (.str (a ++ b)) else none
  | .tup a, .tup b => if szOk (a.length + b.length) = true then some (.tup (a ++ b)) else none
  | .lst a, .lst b => if szOk (a.length + b.length) = true then some (.lst (a ++ b)) else none
  | _, _ => none
theorem ite_of {α : Type} {c : Prop} [Decidable c] {a u : α} (h : (if c then some a else none) = some u) : c ∧ a = u := by
  by_cases hc : c
  · rw [if_pos hc] at h; exact ⟨hc, Option.some.inj h⟩
  · rw [if_neg hc] at h; cases h
theorem opd_add : OpD X (binaryOp .Add) addD := by
  refine OpD.of _ (op_add.or (op_add_str.or (op_catF.or op_cat))) fun z C H d e u x y Q o dx dy g k => ?_
  unfold addD at g
  split at g
  · cases g
    exact .inl ⟨_, _, dn_int.mp dx, dn_int.mp dy, k _ C H (Tr.refl o) (dn_int.mpr rfl)⟩
  · obtain ⟨hz, rfl⟩ := ite_of g
    exact .inr (.inl ⟨_, _, dn_str.mp dx, dn_str.mp dy, sz_ok hz, k _ C H (Tr.refl o) (dn_str.mpr rfl)⟩)
  · rename_i as bs
    obtain ⟨hz, rfl⟩ := ite_of g
    obtain ⟨a, xs, e1, e2, e3⟩ := dn_tup dx
    obtain ⟨b, ys, f1, f2, f3⟩ := dn_tup dy
    have l1 := e3.len
    have l2 := f3.len
    refine .inr (.inr (.inl ⟨a, b, xs, ys, e1, f1, ex_t o.ex e2, ex_t o.ex f2, by rw [l1, l2]; exact sz_ok hz, fun h => ?_, fun _ h => ?_, fun _ _ p ob hd hp => ?_⟩))
    · refine k _ C H (Tr.refl o) ?_
      have : as = [] := List.eq_nil_of_length_eq_zero (by rw [← l1, h]; rfl)
      rw [this, List.nil_append, ← f1]
      exact dy
    · refine k _ C H (Tr.refl o) ?_
      have : bs = [] := List.eq_nil_of_length_eq_zero (by rw [← l2, h]; rfl)
      rw [this, List.append_nil, ← e1]
      exact dx
    · exact k _ _ _ (Tr.put o hp) (dn_new_tup (e3.app f3) (fresh_back o.ex hp) hd)
  · rename_i as bs
    obtain ⟨hz, rfl⟩ := ite_of g
    obtain ⟨a, xs, e1, e2, e3⟩ := dn_lst.mp dx
    obtain ⟨b, ys, f1, f2, f3⟩ := dn_lst.mp dy
    refine .inr (.inr (.inr ⟨a, b, xs, ys, e1, f1, o.ex _ _ e2, o.ex _ _ f2, by rw [e3.len, f3.len]; exact sz_ok hz, fun p hp => ?_⟩))
    exact k _ _ _ (Tr.put o hp) (dn_new_lst (e3.app f3) (fresh_back o.ex hp))
  · cases g
def subD : D → D → Option D
  | .int i, .int j => some (.int (i - j))
  | _, _ => none
theorem opd_sub : OpD X (binaryOp .Sub) subD := by
  refine OpD.of _ op_sub fun z C H d e u x y Q o dx dy g k => ?_
  unfold subD at g
  split at g
  · cases g
    exact ⟨_, _, dn_int.mp dx, dn_int.mp dy, k _ C H (Tr.refl o) (dn_int.mpr rfl)⟩
  · cases g
def modD : D → D → Option D
  | .int i, .int j => if 0 < j then some (.int (i % j)) else none
  | _, _ => none
theorem opd_mod : OpD X (binaryOp .Mod) modD := by
  refine OpD.of _ op_mod fun z C H d e u x y Q o dx dy g k => ?_
  unfold modD at g
  split at g
  · obtain ⟨hz, rfl⟩ := ite_of g
    exact ⟨_, _, dn_int.mp dx, dn_int.mp dy, hz, k _ C H (Tr.refl o) (dn_int.mpr rfl)⟩
  · cases g
def fdivD : D → D → Option D
  | .int i, .int j => if 0 < j ∧ j < 1073741824 then some (.int (i / j)) else none
  | _, _ => none
theorem opd_fdiv : OpD X (binaryOp .FloorDiv) fdivD := by
  refine OpD.of _ op_fdiv fun z C H d e u x y Q o dx dy g k => ?_
  unfold fdivD at g
  split at g
  · obtain ⟨hz, rfl⟩ := ite_of g
    exact ⟨_, _, dn_int.mp dx, dn_int.mp dy, hz, k _ C H (Tr.refl o) (dn_int.mpr rfl)⟩
  · cases g
def powD : D → D → Option D
  | .int i, .int j => if 0 ≤ j ∧ j ≤ 1000000 ∧ i.natAbs < 2 ^ 64 then some (.int (i ^ j.toNat)) else none
  | _, _ => none
theorem opd_pow : OpD X (binaryOp .Pow) powD := by
  refine OpD.of _ op_pow fun z C H d e u x y Q o dx dy g k => ?_
  unfold powD at g
  split at g
  · obtain ⟨hz, rfl⟩ := ite_of g
    exact ⟨_, _, dn_int.mp dx, dn_int.mp dy, hz, k _ C H (Tr.refl o) (dn_int.mpr rfl)⟩
  · cases g
/-- a text so many times -/
def repS (x : Str) (n : Nat) : Str := ⟨(List.replicate n x.cps.toList).flatten.toArray⟩
theorem foldl_app (l : List (Array Nat)) : ∀ a : Array Nat, (l.foldl (· ++ ·) a).toList = a.toList ++ (l.map Array.toList).flatten := by
  induction l with
  | nil => intro a; simp
  | cons b l ih => intro a; simp [ih]
theorem op_rep_str : OpR X (binaryOp .Mult) (fun x y H Q => ∃ a n, x = .str a ∧ y = .int n ∧ 0 ≤ n ∧ n ≤ 4000000 ∧ a.length * n.toNat ≤ 4000000 ∧ Q (.str (repS a n.toNat)) H) := by
  intro pins s σ H x y v u Q I rx ry h
  obtain ⟨a, n, rfl, rfl, h0, h1, h2, q⟩ := h
  obtain ⟨t, rfl⟩ := rx
  obtain ⟨t', rfl⟩ := ry
  have hl : sizeLine = 16777216 := sizeLine_eq
  refine PySem.P.mul_str (by rw [decide_eq_false (by omega), decide_eq_false (by omega)]; rfl) (fun h3 h4 => ?_) (fun h3 h4 => ?_) ?_
  · have h5 : (a.length : Int) * n ≤ 4000000 := by
      have : ((a.length * n.toNat : Nat) : Int) ≤ 4000000 := by omega
      rw [Int.natCast_mul, Int.toNat_of_nonneg h0] at this
      exact this
    have hn : 0 < n := by omega
    have h7 : (a.length : Int) ≤ (2 ^ 63 - 1) / n := by
      rw [Int.le_ediv_iff_mul_le hn]
      omega
    omega
  · show decide (a.length * n.toNat > sizeLine) = false
    exact decide_eq_false (by omega)
  · by_cases hn : n < 1
    · rw [if_pos hn]
      have e0 : n = 0 := by omega
      subst e0
      refine ⟨by decide, .str Str.empty, H, I.tok _, ⟨_, rfl⟩, ?_⟩
      exact q
    · rw [if_neg hn]
      by_cases h4 : (n == 1 || a.length == 0) = true
      · rw [if_pos h4]
        have e : repS a n.toNat = a := by
          unfold repS
          rcases Bool.or_eq_true _ _ ▸ h4 with e | e
          · have : n = 1 := by simpa using e
            subst this
            simp
          · have : a.cps.toList = [] := by
              have : a.cps.size = 0 := by
                have e' : a.length = 0 := by simpa using e
                exact e'
              exact List.eq_nil_of_length_eq_zero (by rw [Array.length_toList]; exact this)
            rw [this]
            cases a with
            | mk cps =>
              simp only at this
              have : cps = #[] := by simpa using this
              subst this
              simp
        rw [e] at q
        exact ⟨.str a, H, I, ⟨_, rfl⟩, q⟩
      · rw [if_neg h4]
        have e : (⟨(List.replicate n.toNat a.cps).foldl (· ++ ·) #[]⟩ : Str) = repS a n.toNat := by
          unfold repS
          congr 1
          apply Array.toList_inj.mp
          rw [foldl_app]
          simp
        rw [e]
        refine ⟨?_, .str _, H, I.tok _, ⟨_, rfl⟩, q⟩
        show (repS a n.toNat).length ≤ sizeLine
        have : (repS a n.toNat).length = n.toNat * a.length := by
          unfold repS Str.length
          simp [List.length_flatten]
        rw [this, Nat.mul_comm]
        omega
def mulD : D → D → Option D
  | .int i, .int j => if (-(2 ^ 64) < i ∧ i < 2 ^ 64) ∨ (-(2 ^ 64) < j ∧ j < 2 ^ 64) then some (.int (i * j)) else none
  | .str a, .int n => if 0 ≤ n ∧ n ≤ 4000000 ∧ a.length * n.toNat ≤ 4000000 then some (.str (repS a n.toNat)) else none
  | .lst a, .int n => if 0 ≤ n ∧ n ≤ 4000000 ∧ a.length * n.toNat ≤ 4000000 then some (.lst (List.replicate n.toNat a).flatten) else none
  | _, _ => none
theorem opd_mul : OpD X (binaryOp .Mult) mulD := by
  refine OpD.of _ (op_mul.or (op_rep_str.or op_rep)) fun z C H d e u x y Q o dx dy g k => ?_
  unfold mulD at g
  split at g
  · obtain ⟨hz, rfl⟩ := ite_of g
    exact .inl ⟨_, _, dn_int.mp dx, dn_int.mp dy, hz, k _ C H (Tr.refl o) (dn_int.mpr rfl)⟩
  · obtain ⟨⟨h1, h2, h3⟩, rfl⟩ := ite_of g
    exact .inr (.inl ⟨_, _, dn_str.mp dx, dn_int.mp dy, h1, h2, h3, k _ C H (Tr.refl o) (dn_str.mpr rfl)⟩)
  · obtain ⟨⟨h1, h2, h3⟩, rfl⟩ := ite_of g
    obtain ⟨a, xs, e1, e2, e3⟩ := dn_lst.mp dx
    have hl : sizeLine = 16777216 := sizeLine_eq
    refine .inr (.inr ⟨a, _, xs, e1, dn_int.mp dy, o.ex _ _ e2, by omega, by omega, by rw [e3.len]; omega, fun p hp => ?_⟩)
    exact k _ _ _ (Tr.put o hp) (dn_new_lst (e3.rep _) (fresh_back o.ex hp))
  · cases g
def negD : D → Option D
  | .int i => some (.int (-i))
  | _ => none
theorem und_neg : UnD X (unaryOp .USub) negD := by
  refine ⟨_, un_neg, fun z C H d u x Q o dx g k => ?_⟩
  unfold negD at g
  split at g
  · cases g
    exact ⟨_, dn_int.mp dx, k _ C H (Tr.refl o) (dn_int.mpr rfl)⟩
  · cases g

/-! ### comparisons -/
def leD : D → D → Option D
  | .int i, .int j => some (.bl (decide (i ≤ j)))
  | _, _ => none
theorem opd_le : OpD X (compareOp .LtE) leD := by
  refine OpD.of _ op_le fun z C H d e u x y Q o dx dy g k => ?_
  unfold leD at g
  split at g
  · cases g
    exact ⟨_, _, dn_int.mp dx, dn_int.mp dy, k _ C H (Tr.refl o) (dn_bl.mpr rfl)⟩
  · cases g
def gtD : D → D → Option D
  | .int i, .int j => some (.bl (decide (j < i)))
  | _, _ => none
theorem opd_gt : OpD X (compareOp .Gt) gtD := by
  refine OpD.of _ op_gt fun z C H d e u x y Q o dx dy g k => ?_
  unfold gtD at g
  split at g
  · cases g
    exact ⟨_, _, dn_int.mp dx, dn_int.mp dy, k _ C H (Tr.refl o) (dn_bl.mpr rfl)⟩
  · cases g
def geD : D → D → Option D
  | .int i, .int j => some (.bl (decide (j ≤ i)))
  | _, _ => none
theorem opd_ge : OpD X (compareOp .GtE) geD := by
  refine OpD.of _ op_ge fun z C H d e u x y Q o dx dy g k => ?_
  unfold geD at g
  split at g
  · cases g
    exact ⟨_, _, dn_int.mp dx, dn_int.mp dy, k _ C H (Tr.refl o) (dn_bl.mpr rfl)⟩
  · cases g
/-- data that == looks at -/
def okEq (d : D) : Bool := d.pf && SeqAt.shaped d.py
def eqD (d e : D) : Option D := if okEq d = true ∧ okEq e = true then some (.bl (PyData.eqv d.py e.py)) else none
def neD (d e : D) : Option D := if okEq d = true ∧ okEq e = true then some (.bl (!PyData.eqv d.py e.py)) else none
theorem okEq_of {d : D} (h : okEq d = true) : d.pf = true ∧ SeqAt.shaped d.py = true := by simpa [okEq] using h
theorem opd_eq (hu : X.A.units + 64 < cLine) : OpD X (compareOp .Eq) eqD := by
  refine OpD.of _ (op_eqD hu) fun z C H d e u x y Q o dx dy g k => ?_
  obtain ⟨⟨h1, h2⟩, rfl⟩ := ite_of g
  exact ⟨d.py, e.py, dx.dp o.ex d x (okEq_of h1).1, dy.dp o.ex e y (okEq_of h2).1, (okEq_of h1).2, (okEq_of h2).2, k _ C H (Tr.refl o) (dn_bl.mpr rfl)⟩
theorem opd_ne (hu : X.A.units + 64 < cLine) : OpD X (compareOp .NotEq) neD := by
  refine OpD.of _ (op_neD hu) fun z C H d e u x y Q o dx dy g k => ?_
  obtain ⟨⟨h1, h2⟩, rfl⟩ := ite_of g
  exact ⟨d.py, e.py, dx.dp o.ex d x (okEq_of h1).1, dy.dp o.ex e y (okEq_of h2).1, (okEq_of h1).2, (okEq_of h2).2, k _ C H (Tr.refl o) (dn_bl.mpr rfl)⟩

/-! ### subscripts -/
def ixD : D → D → Option D
  | .lst xs, .int i => atI xs i
  | .tup xs, .int i => atI xs i
  | .pr xs, .int i => atI xs i
  | .str x, .int i => if szOk x.length = true then (atI x.cps.toList i).map fun c => .str ⟨#[c]⟩ else none
  | _, _ => none
theorem at_dn {K : PySem.W.Frag} {C : Hp} {pu : Addr} {ds : List D} {xs : List V} {i : Int} {d : D} (h : Dns K C pu ds xs) (e : atI ds i = some d) : ∃ v, atI xs i = some v ∧ Dn K C pu d v := by
  unfold atI at e ⊢
  rw [h.len]
  cases hx : ixN ds.length i with
  | none => rw [hx] at e; cases e
  | some j =>
    rw [hx] at e
    exact h.get e
theorem pd_ix {a b : Expr} {ma mb : ME} {pos : Pos} (ha : PD X a ma) (hb : PD X b mb) (hs : PlainIx b) : PD X (.Subscript a b pos) (mOp ixD ma mb) := by
  refine ⟨pe_imp (pe_ix ix_seq ha.run hb.run hs) fun σ H Q q => ?_, mono_op ha.mono hb.mono⟩
  obtain ⟨z, C, env, o, r, q⟩ := q
  refine two (ta := lift X.K ma) (tb := lift X.K mb) o r ha.mono hb.mono q fun d e x y C' H' ⟨w, g, p⟩ t dx dy => ?_
  unfold ixD at g
  split at g
  · obtain ⟨l, xs, e1, e2, e3⟩ := dn_lst.mp dx
    obtain ⟨v, h1, h2⟩ := at_dn e3 g
    exact .inl ⟨l, xs, _, v, e1, dn_int.mp dy, ex_l t.ok.ex (sq_of e2), h1, p v C' H' t h2⟩
  · obtain ⟨l, xs, e1, e2, e3⟩ := dn_tup dx
    obtain ⟨v, h1, h2⟩ := at_dn e3 g
    exact .inr (.inl ⟨l, xs, _, v, e1, dn_int.mp dy, ex_t t.ok.ex e2, h1, p v C' H' t h2⟩)
  · obtain ⟨l, xs, e1, e2, e3⟩ := dn_pr.mp dx
    obtain ⟨v, h1, h2⟩ := at_dn e3 g
    exact .inr (.inl ⟨l, xs, _, v, e1, dn_int.mp dy, ex_t t.ok.ex e2, h1, p v C' H' t h2⟩)
  · split at g
    · rename_i hz
      obtain ⟨c, h1, rfl⟩ := Option.map_eq_some_iff.mp g
      exact .inr (.inr ⟨_, _, c, dn_str.mp dx, dn_int.mp dy, sz_ok hz, h1, p _ C' H' t (dn_str.mpr rfl)⟩)
    · cases g
  · cases g
/-! ### slices -/
abbrev MO := Env → (Option Int → Prop) → Prop
def liftP (K : PySem.W.Frag) (m : MO) : TO := fun σ H Q => ∃ z C env, Ok z C H ∧ EnvR K z C env σ ∧ m env fun o => ∀ C' H', Tr z C H C' H' → Q o H'
structure PDO' (X : Cx) (e : Option Expr) (m : MO) : Prop where
  run : PO X e (liftP X.K m)
  mono : ∀ env (Q Q' : Option Int → Prop), (∀ d, Q d → Q' d) → m env Q → m env Q'
def moNo : MO := fun _ Q => Q none
def moYes (m : ME) : MO := fun env Q => m env fun d => ∃ i, d = .int i ∧ Q (some i)
theorem po_imp {e : Option Expr} {t t' : TO} (h : PO X e t) (i : ∀ σ H Q, t' σ H Q → t σ H Q) : PO X e t' := ⟨fun pins s σ H Q I q => h.run pins s σ H Q I (i σ H Q q)⟩
theorem pdp_none : PDO' X none moNo := ⟨po_imp po_none fun σ H Q ⟨z, C, env, o, r, q⟩ => q C H (Tr.refl o), fun env Q Q' i q => i _ q⟩
theorem pdp_some {e : Expr} {m : ME} (h : PD X e m) : PDO' X (some e) (moYes m) := by
  refine ⟨po_imp (po_some h.run) fun σ H Q q => ?_, fun env Q Q' i q => h.mono _ _ _ (fun d ⟨j, e, q⟩ => ⟨j, e, i _ q⟩) q⟩
  obtain ⟨z, C, env, o, r, q⟩ := q
  exact lift_use h.mono o r q fun d v C' H' ⟨j, e, p⟩ t dn => ⟨j, dn_int.mp (e ▸ dn), p C' H' t⟩
def cutD {α : Type} (xs : List α) (lo hi : Option Int) : List α := (xs.drop (HT.sIx xs.length 0 lo)).take (HT.sIx xs.length xs.length hi - HT.sIx xs.length 0 lo)
def slD (d : D) (lo hi : Option Int) : Option D := match d with
  | .lst xs => some (.lst (cutD xs lo hi))
  | .tup xs => some (.tup (cutD xs lo hi))
  | .str x => if szOk x.length = true then some (.str ⟨(cutD x.cps.toList lo hi).toArray⟩) else none
  | _ => none
theorem dn_cut {K : PySem.W.Frag} {C : Hp} {pu : Addr} {ds : List D} {xs : List V} {lo hi : Option Int} (h : Dns K C pu ds xs) : Dns K C pu (cutD ds lo hi) (cutV xs lo hi) := by
  unfold cutD cutV
  rw [h.len]
  exact (h.drop _).take _
def mSl (ma : ME) (ml mh : MO) : ME := fun env Q => ma env fun d => ml env fun lo => mh env fun hi => ∃ u, slD d lo hi = some u ∧ Q u
theorem pd_slice {e : Expr} {lo hi : Option Expr} {ma : ME} {ml mh : MO} {pos p2 : Pos} (ha : PD X e ma) (hl : PDO' X lo ml) (hh : PDO' X hi mh) : PD X (.Subscript e (.Slice lo hi none p2) pos) (mSl ma ml mh) := by
  refine ⟨pe_imp (pe_slice (sl_list.or (sl_tupF.or sl_str)) ha.run hl.run hh.run) fun σ H Q q => ?_, fun env Q Q' i q => ha.mono _ _ _ (fun d q => hl.mono _ _ _ (fun l q => hh.mono _ _ _ (fun h ⟨u, g, q⟩ => ⟨u, g, i _ q⟩) q) q) q⟩
  obtain ⟨z, C, env, o, r, q⟩ := q
  refine lift_use ha.mono o r q fun d x C1 H1 q t1 dn => ?_
  refine ⟨z, C1, env, t1.ok, r.mono t1.cc, hl.mono _ _ _ (fun l q C2 H2 t2 => ?_) q⟩
  refine ⟨z, C2, env, t2.ok, (r.mono t1.cc).mono t2.cc, hh.mono _ _ _ (fun h ⟨u, g, p⟩ C3 H3 t3 => ?_) q⟩
  have t23 := t2.trans t3
  have t := t1.trans t23
  have dn3 := dn.mono t23.cc
  have o3 := t.ok
  unfold slD at g
  split at g
  · cases g
    obtain ⟨a, xs, e1, e2, e3⟩ := dn_lst.mp dn3
    exact .inl ⟨a, xs, e1, ex_l o3.ex (sq_of e2), fun q hq => p _ _ _ (t.trans (Tr.put o3 hq)) (dn_new_lst (dn_cut e3) (fresh_back o3.ex hq))⟩
  · cases g
    obtain ⟨a, xs, e1, e2, e3⟩ := dn_tup dn3
    refine .inr (.inl ⟨a, xs, e1, ex_t o3.ex e2, fun hw => ?_, fun _ q ob hd hq => p _ _ _ (t.trans (Tr.put o3 hq)) (dn_new_tup (dn_cut e3) (fresh_back o3.ex hq) hd)⟩)
    have e : ∀ es : List D, es.length = xs.length → cutD es l h = es := fun es he => by
      unfold cutD
      rw [he, hw.1, hw.2, List.drop_zero, Nat.sub_zero, ← he]
      exact List.take_length
    rw [e _ e3.len.symm] at p
    exact p _ _ _ t (e1 ▸ dn3)
  · obtain ⟨hz, rfl⟩ := ite_of g
    refine .inr (.inr ⟨_, dn_str.mp dn3, sz_ok hz, p _ _ _ t (dn_str.mpr ?_)⟩)
    rfl
  · cases g

/-! ### built-ins -/
def lenD : List D → Option D
  | [.lst xs] => some (.int xs.length)
  | [.tup xs] => some (.int xs.length)
  | [.pr xs] => some (.int xs.length)
  | [.str x] => if szOk x.length = true then some (.int x.length) else none
  | _ => none
theorem cd_len : CallD X (.builtin "len") lenD := by
  refine ⟨_, call_len, fun z C H ds u xs Q o dn g k => ?_⟩
  unfold lenD at g
  split at g
  · cases g
    obtain ⟨v, e1, e2⟩ := dns1 dn
    obtain ⟨a, ys, f1, f2, f3⟩ := dn_lst.mp e2
    subst f1
    refine ⟨_, ys.length, e1, .inl ⟨ys, ex_l o.ex (sq_of f2), rfl⟩, ?_⟩
    rw [f3.len]
    exact k _ C H (Tr.refl o) (dn_int.mpr rfl)
  · cases g
    obtain ⟨v, e1, e2⟩ := dns1 dn
    obtain ⟨a, ys, f1, f2, f3⟩ := dn_tup e2
    subst f1
    refine ⟨_, ys.length, e1, .inr ⟨ys, ex_t o.ex f2, rfl⟩, ?_⟩
    rw [f3.len]
    exact k _ C H (Tr.refl o) (dn_int.mpr rfl)
  · cases g
    obtain ⟨v, e1, e2⟩ := dns1 dn
    obtain ⟨a, ys, f1, f2, f3⟩ := dn_pr.mp e2
    subst f1
    refine ⟨_, ys.length, e1, .inr ⟨ys, ex_t o.ex f2, rfl⟩, ?_⟩
    rw [f3.len]
    exact k _ C H (Tr.refl o) (dn_int.mpr rfl)
  · obtain ⟨hz, rfl⟩ := ite_of g
    obtain ⟨v, e1, e2⟩ := dns1 dn
    rw [dn_str.mp e2] at e1
    exact ⟨_, _, e1, ⟨sz_ok hz, rfl⟩, k _ C H (Tr.refl o) (dn_int.mpr rfl)⟩
  · cases g
def minD : List D → Option D
  | [.int i, .int j] => some (.int (if j < i then j else i))
  | _ => none
theorem cd_min2 (hc : X.calm = true) : CallD X (.builtin "min") minD := by
  refine ⟨_, call_min2 hc, fun z C H ds u xs Q o dn g k => ?_⟩
  unfold minD at g
  split at g
  · cases g
    obtain ⟨v, w, e1, e2, e3⟩ := dns2 dn
    rw [dn_int.mp e2, dn_int.mp e3] at e1
    exact ⟨_, _, e1, k _ C H (Tr.refl o) (dn_int.mpr rfl)⟩
  · cases g
def ordD : List D → Option D
  | [.str x] => if x.length = 1 then some (.int ((x.cps.getD 0 0 : Nat) : Int)) else none
  | _ => none
theorem cd_ord : CallD X (.builtin "ord") ordD := by
  refine ⟨_, call_ord, fun z C H ds u xs Q o dn g k => ?_⟩
  unfold ordD at g
  split at g
  · obtain ⟨hz, rfl⟩ := ite_of g
    obtain ⟨v, e1, e2⟩ := dns1 dn
    rw [dn_str.mp e2] at e1
    exact ⟨_, e1, hz, k _ C H (Tr.refl o) (dn_int.mpr rfl)⟩
  · cases g
def intD : List D → Option D
  | [.int i] => some (.int i)
  | _ => none
theorem cd_int : CallD X (.type "int") intD := by
  refine ⟨_, call_int1, fun z C H ds u xs Q o dn g k => ?_⟩
  unfold intD at g
  split at g
  · cases g
    obtain ⟨v, e1, e2⟩ := dns1 dn
    rw [dn_int.mp e2] at e1
    exact .inl ⟨_, e1, k _ C H (Tr.refl o) (dn_int.mpr rfl)⟩
  · cases g
def tupleD : List D → Option D
  | [.lst xs] => some (.tup xs)
  | [.tup xs] => some (.tup xs)
  | _ => none
theorem cd_tuple : CallD X (.type "tuple") tupleD := by
  refine ⟨_, call_tupleF, fun z C H ds u xs Q o dn g k => ?_⟩
  unfold tupleD at g
  split at g
  · cases g
    obtain ⟨v, e1, e2⟩ := dns1 dn
    obtain ⟨a, ys, f1, f2, f3⟩ := dn_lst.mp e2
    subst f1
    exact ⟨a, ys, e1, .inl ⟨ex_l o.ex (sq_of f2), fun l ob hd hl => k _ _ _ (Tr.put o hl) (dn_new_tup f3 (fresh_back o.ex hl) hd)⟩⟩
  · cases g
    obtain ⟨v, e1, e2⟩ := dns1 dn
    obtain ⟨a, ys, f1, f2, f3⟩ := dn_tup e2
    have f1' := f1
    subst f1
    exact ⟨a, ys, e1, .inr ⟨ex_t o.ex f2, k _ C H (Tr.refl o) e2⟩⟩
  · cases g
def listD : List D → Option D
  | [.lst xs] => some (.lst xs)
  | [.tup xs] => some (.lst xs)
  | _ => none
theorem cd_list : CallD X (.type "list") listD := by
  refine ⟨_, call_list_of, fun z C H ds u xs Q o dn g k => ?_⟩
  unfold listD at g
  split at g
  · cases g
    obtain ⟨v, e1, e2⟩ := dns1 dn
    obtain ⟨a, ys, f1, f2, f3⟩ := dn_lst.mp e2
    subst f1
    exact ⟨a, ys, e1, .inl (ex_l o.ex (sq_of f2)), fun l hl => k _ _ _ (Tr.put o hl) (dn_new_lst f3 (fresh_back o.ex hl))⟩
  · cases g
    obtain ⟨v, e1, e2⟩ := dns1 dn
    obtain ⟨a, ys, f1, f2, f3⟩ := dn_tup e2
    subst f1
    exact ⟨a, ys, e1, .inr (ex_t o.ex f2), fun l hl => k _ _ _ (Tr.put o hl) (dn_new_lst f3 (fresh_back o.ex hl))⟩
  · cases g
/-- repr of data -/
def okRepr (d : D) : Bool := d.pf && d.py.showable && decide (d.py.depth ≤ 60) && szOk d.py.shown.length
def reprD : List D → Option D
  | [d] => if okRepr d = true then some (.str d.py.shown) else none
  | _ => none
mutual
theorem noDict : ∀ d : D, d.pf = true → d.py.hasDict = false
  | .non, _ => rfl
  | .bl b, _ => rfl
  | .int i, _ => rfl
  | .str s, _ => rfl
  | .pur, _ => rfl
  | .tup ds, h => by simp only [D.py, PyData.hasDict]; exact noDicts ds (by simpa [D.pf] using h)
  | .lst ds, h => by simp only [D.py, PyData.hasDict]; exact noDicts ds (by simpa [D.pf] using h)
  | .pr ds, h => by simp only [D.py, PyData.hasDict]; exact noDicts ds (by simpa [D.pf] using h)
  | .dic _ _, h => by simp [D.pf] at h
theorem noDicts : ∀ ds : List D, D.pfs ds = true → PyData.hasDictAll (D.pys ds) = false
  | [], _ => rfl
  | d :: ds, h => by
    have h' : d.pf = true ∧ D.pfs ds = true := by simpa [D.pfs] using h
    simp only [D.pys, PyData.hasDictAll, noDict d h'.1, noDicts ds h'.2, Bool.or_false]
end
def rRepr (K : PySem.W.Frag) : List V → Hp → VK → Prop := fun xs H Q => ∃ x d, xs = [x] ∧ Dp K H x d ∧ d.showable = true ∧ d.hasDict = false ∧ d.depth ≤ 60 ∧ d.shown.length ≤ 4000000 ∧ Q (.str d.shown) H
theorem call_reprD (hu : X.A.units + 64 < cLine) (hgd : X.A.guards = some []) : CallR X (.builtin "repr") (rRepr X.K) := by
  intro pins s σ H xs us Q I r h
  obtain ⟨x, d, rfl, hd, h1, h2, h3, h4, q⟩ := h
  obtain ⟨u, rfl, ru⟩ := vals1 r
  have hl : sizeLine = 16777216 := sizeLine_eq
  cases hd with
  | non =>
    cases ru
    exact PySem.P.repr_of_none ⟨.str _, H, I.tok _, ⟨_, rfl⟩, q⟩
  | bl b =>
    cases ru
    exact PySem.P.repr_of_bool ⟨.str _, H, I.tok _, ⟨_, rfl⟩, by cases b <;> exact q⟩
  | int i =>
    obtain ⟨t, rfl⟩ := ru
    exact PySem.P.repr_of_int (by simpa [PyData.showable] using h1) ⟨.str _, H, I.tok _, ⟨_, rfl⟩, q⟩
  | str y =>
    obtain ⟨t, rfl⟩ := ru
    have h5 : (reprText y).length ≤ sizeLine := by
      have : (reprText y).length ≤ 4000000 := h4
      omega
    exact PySem.P.repr_of_str ⟨.str _, H, I.tok _, ⟨_, rfl⟩, q⟩ h5
  | lst hs ha =>
    obtain ⟨as, hr⟩ := Dp.reads I _ _ _ (.lst hs ha) ru
    cases ru
    exact repr_of_reads' (h₀ := s.heap) hr h1 (fun e => by rw [h2] at e; cases e) hgd (by omega) (fun _ _ e => e) (fun h' t' tk hk => ⟨.str _, H, I.kept hk, ⟨_, rfl⟩, q⟩) (by omega)
  | tup hs ha =>
    obtain ⟨as, hr⟩ := Dp.reads I _ _ _ (.tup hs ha) ru
    cases ru
    exact repr_of_reads' (h₀ := s.heap) hr h1 (fun e => by rw [h2] at e; cases e) hgd (by omega) (fun _ _ e => e) (fun h' t' tk hk => ⟨.str _, H, I.kept hk, ⟨_, rfl⟩, q⟩) (by omega)
theorem cd_repr (hu : X.A.units + 64 < cLine) (hgd : X.A.guards = some []) : CallD X (.builtin "repr") reprD := by
  refine ⟨_, call_reprD hu hgd, fun z C H ds u xs Q o dn g k => ?_⟩
  unfold reprD at g
  split at g
  · rename_i d
    obtain ⟨hz, rfl⟩ := ite_of g
    obtain ⟨v, e1, e2⟩ := dns1 dn
    have hz' : ((d.pf = true ∧ d.py.showable = true) ∧ d.py.depth ≤ 60) ∧ szOk d.py.shown.length = true := by simpa [okRepr] using hz
    obtain ⟨⟨⟨a, b⟩, c⟩, f⟩ := hz'
    have f' : d.py.shown.length ≤ 4000000 := of_decide_eq_true f
    exact ⟨v, d.py, e1, e2.dp o.ex d v a, b, noDict d a, c, f', k _ C H (Tr.refl o) (dn_str.mpr rfl)⟩
  · cases g
end
end BV

/-! The order of data of any depth, sorted, isinstance, join, insert, several targets. -/
namespace BV
open PySem PySem.Spec PyProof.Rows L2 Evl
open PySem.SeqAt (EqAt)

/-! ### < of data -/
inductive LexR (A : Around) (s : Shared) (z : Bool) : List Value → List Value → Bool → Prop where
  | nil {ws : List Value} : LexR A s z [] ws z
  | nil2 {v : Value} {vs : List Value} : LexR A s z (v :: vs) [] z
  | eq {v w : Value} {vs ws : List Value} {b : Bool} : EqAt A.in1 s v w true → LexR A s z vs ws b → LexR A s z (v :: vs) (w :: ws) b
  | ne {v w : Value} {vs ws : List Value} {b : Bool} : EqAt A.in1 s v w false → Ob.RcOp .Lt A.in1 s v w b → LexR A s z (v :: vs) (w :: ws) b
section
open PySem.AutoSeq1 (wpAny_loadPart')
open PySem.MeetsSeq PySem.MeetsSeq2 PySem.MeetsSeq3
theorem lex_meets (l b : Addr) (xs ys : Array Value) (n n2 : Nat) (dd dd2 : Option Addr) (sl sl2 : Array (Option Value)) (res : Bool) :
    Meets (Builtin.«tuple.__lt__» ⟨[.ref l, .ref b], []⟩)
      (fun A R s => s.heap.get? l = some { cls := .type "tuple", dict := dd, data := .seq xs n, slots := sl } ∧ s.heap.get? b = some { cls := .type "tuple", dict := dd2, data := .seq ys n2, slots := sl2 } ∧
        LexR A s (decide (xs.size < ys.size)) xs.toList ys.toList res ∧ R (.ok (.ret (.bool res))) s) :=
  .of_wp fun prog w A R s h => by
    obtain ⟨hp, g, d, tk, os⟩ := s
    obtain ⟨hl, hb, hx, h⟩ := h
    have f2 := AutoSeq1.sub_tuple_tuple
    wp_walk using wpAny_loadPart' hl, wpAny_loadPart' hb, wpAny_forIn_list _ (fun rest b s' => b.1 = none ∧ s' = ⟨hp, g, d, tk, os⟩ ∧ ∃ vs ws, rest = vs.zip ws ∧ LexR A ⟨hp, g, d, tk, os⟩ (decide (xs.size < ys.size)) vs ws res) _
    case turn =>
      rintro ⟨y, x⟩ rest b s' ⟨hb', rfl, vs, ws, hz, hR⟩
      cases hR with
      | nil => rw [List.zip_nil_left] at hz; cases hz
      | nil2 => rw [List.zip_nil_right] at hz; cases hz
      | eq he hr =>
        rw [List.zip_cons_cons] at hz
        injection hz with e1 e2
        cases e1
        refine wpAny_bind (he prog w _ _ ?_)
        wp_walk
        exact ⟨rfl, rfl, _, _, e2, hr⟩
      | ne he hr =>
        rw [List.zip_cons_cons] at hz
        injection hz with e1 e2
        cases e1
        refine wpAny_bind (he prog w _ _ ?_)
        have hri := hr prog w
        wp_walk using hri
        exact ⟨_, rfl, by simpa using h⟩
    case fin =>
      rintro ⟨b1, b2⟩ s' ⟨hb', rfl, vs, ws, hz, hR⟩
      simp only at hb'
      subst hb'
      have e : res = decide (xs.size < ys.size) := by
        cases hR with
        | nil => rfl
        | nil2 => rfl
        | eq he hr => rw [List.zip_cons_cons] at hz; cases hz
        | ne he hr => rw [List.zip_cons_cons] at hz; cases hz
      rw [e] at h
      wp_walk
      exact ⟨_, rfl, by simpa [Builtin.Tuple.tupleCompareSizes] using h⟩
    case h =>
      exact ⟨rfl, rfl, xs.toList, ys.toList, rfl, hx⟩
theorem lex_lt {A : Around} {s : Shared} {l b : Addr} {xs ys : Array Value} {res : Bool} (hl : s.heap.IsTuple l xs) (hb : s.heap.IsTuple b ys) (hu : A.units < cLine) (h : LexR A s (decide (xs.size < ys.size)) xs.toList ys.toList res) :
    Ob.RcOp .Lt A s (.ref l) (.ref b) res := fun prog w E Q q => by
  obtain ⟨⟨cls, dd, data, sl⟩, ho, hc, n, hd⟩ := id hl
  obtain ⟨⟨cls2, dd2, data2, sl2⟩, ho2, hc2, n2, hd2⟩ := id hb
  simp only at hc hd hc2 hd2
  subst hc hd hc2 hd2
  exact richCompare_meets_room (op := .Lt) ⟨_, ho, rfl⟩ ⟨_, ho2, rfl⟩ F.slot_tuple_lt F.entry_tuple_lt (F.args_tuple_lt_2 _ _) (lex_meets l b xs ys n n2 dd dd2 sl sl2 res) ⟨ho, ho2, h, ⟨(fun x => nomatch x), q⟩⟩ hu
end
mutual
def ltO : D → D → Option Bool
  | .int i, e => match e with
    | .int j => some (decide (i < j))
    | _ => none
  | .str a, e => match e with
    | .str b => some (decide (a.cps.toList < b.cps.toList))
    | _ => none
  | .tup xs, e => match e with
    | .tup ys => ltOs xs ys
    | _ => none
  | _, _ => none
def ltOs : List D → List D → Option Bool
  | [], ys => some (!ys.isEmpty)
  | x :: xs, ys => match ys with
    | [] => some false
    | y :: ys => if PyData.eqv x.py y.py = true then ltOs xs ys else ltO x y
end
mutual
theorem lt_reads {s : Shared} : ∀ (d e : D) (b : Bool) (A : Around) (v u : Value) (as bs : List Addr), Reads s.heap v d.py as → Reads s.heap u e.py bs → d.py.canLay0 = true → e.py.canLay0 = true → ltO d e = some b → A.units + d.py.depth + 1 < cLine → Ob.RcOp .Lt A s v u b
  | .int i, e, b, A, v, u, as, bs, r1, r2, c1, c2, h, hu => by
    cases e with
    | int j =>
      simp only [ltO, Option.some.injEq] at h
      subst h
      simp only [D.py] at r1 r2
      cases r1
      cases r2
      exact Ob.RcOp.lt_int _ _ _ _
    | _ => simp [ltO] at h
  | .str x, e, b, A, v, u, as, bs, r1, r2, c1, c2, h, hu => by
    cases e with
    | str y =>
      simp only [ltO, Option.some.injEq] at h
      subst h
      simp only [D.py] at r1 r2
      cases r1
      cases r2
      exact fun prog w E Q q => PyProof.Rows.lt_str q
    | _ => simp [ltO] at h
  | .tup ds, e, b, A, v, u, as, bs, r1, r2, c1, c2, h, hu => by
    cases e with
    | tup es =>
      simp only [ltO] at h
      simp only [D.py] at r1 r2
      cases r1 with
      | tuple h1 h2 h3 h4 =>
        cases r2 with
        | tuple k1 k2 k3 k4 =>
          rename_i o1 v1 n1 a2 o2 v2 n2
          have l1 := PySem.SeqAt.ReadsAll.length _ _ _ h4
          have l2 := PySem.SeqAt.ReadsAll.length _ _ _ k4
          refine lex_lt ⟨_, h1, h2, _, h3⟩ ⟨_, k1, k2, _, k3⟩ (by omega) ?_
          refine lts_reads ds es b A _ _ _ _ _ h4 k4 (by simpa [D.py, PyData.canLay0] using c1) (by simpa [D.py, PyData.canLay0] using c2) h (by simp only [D.py, PyData.depth] at hu; omega) ?_
          have e1 : (D.pys ds).length = ds.length := pys_len ds
          have e2 : (D.pys es).length = es.length := pys_len es
          rw [← Array.length_toList, ← Array.length_toList, l1, l2, e1, e2]
    | _ => simp [ltO] at h
  | .non, e, b, A, v, u, as, bs, r1, r2, c1, c2, h, hu => by simp [ltO] at h
  | .bl _, e, b, A, v, u, as, bs, r1, r2, c1, c2, h, hu => by simp [ltO] at h
  | .lst _, e, b, A, v, u, as, bs, r1, r2, c1, c2, h, hu => by simp [ltO] at h
  | .pur, e, b, A, v, u, as, bs, r1, r2, c1, c2, h, hu => by simp [ltO] at h
  | .pr _, e, b, A, v, u, as, bs, r1, r2, c1, c2, h, hu => by simp [ltO] at h
  | .dic _ _, e, b, A, v, u, as, bs, r1, r2, c1, c2, h, hu => by simp [ltO] at h
theorem lts_reads {s : Shared} : ∀ (ds es : List D) (b : Bool) (A : Around) (z : Bool) (vs us : List Value) (as bs : List Addr), ReadsAll s.heap vs (D.pys ds) as → ReadsAll s.heap us (D.pys es) bs → PyData.canLayAll0 (D.pys ds) = true → PyData.canLayAll0 (D.pys es) = true →
    ltOs ds es = some b → A.units + PyData.depthAll (D.pys ds) + 2 < cLine → z = decide (ds.length < es.length) → LexR A s z vs us b
  | [], es, b, A, z, vs, us, as, bs, r1, r2, c1, c2, h, hu, hz => by
    simp only [D.pys] at r1
    cases r1
    simp only [ltOs, Option.some.injEq] at h
    have : b = z := by
      rw [← h, hz]
      cases es <;> simp
    subst this
    exact .nil
  | d :: ds, [], b, A, z, vs, us, as, bs, r1, r2, c1, c2, h, hu, hz => by
    simp only [D.pys] at r1 r2
    cases r1 with
    | cons h1 h2 =>
      cases r2
      simp only [ltOs, Option.some.injEq] at h
      have : b = z := by rw [← h, hz]; simp
      subst this
      exact .nil2
  | d :: ds, e :: es, b, A, z, vs, us, as, bs, r1, r2, c1, c2, h, hu, hz => by
    simp only [D.pys] at r1 r2
    cases r1 with
    | cons h1 h2 =>
      cases r2 with
      | cons k1 k2 =>
        have c1' : d.py.canLay0 = true ∧ PyData.canLayAll0 (D.pys ds) = true := by simpa [D.pys, PyData.canLayAll0] using c1
        have c2' : e.py.canLay0 = true ∧ PyData.canLayAll0 (D.pys es) = true := by simpa [D.pys, PyData.canLayAll0] using c2
        have hd : A.units + max d.py.depth (PyData.depthAll (D.pys ds)) + 2 < cLine := by simpa [D.pys, PyData.depthAll] using hu
        have heq := PySem.SeqAt.eqAt_reads d.py e.py A.in1 s _ _ _ _ h1 k1 c1'.1 c2'.1 (by show A.units + 1 + _ < _; omega)
        simp only [ltOs] at h
        by_cases hq : PyData.eqv d.py e.py = true
        · rw [if_pos hq] at h
          rw [hq] at heq
          exact .eq heq (lts_reads ds es b A z _ _ _ _ h2 k2 c1'.2 c2'.2 h (by omega) (by rw [hz]; simp))
        · rw [if_neg hq] at h
          rw [Bool.not_eq_true] at hq
          rw [hq] at heq
          exact .ne heq (lt_reads d e b A.in1 _ _ _ _ h1 k1 c1'.1 c2'.1 h (by show A.units + 1 + _ + 1 < _; omega))
theorem pys_len : ∀ ds : List D, (D.pys ds).length = ds.length
  | [] => rfl
  | d :: ds => by simp [D.pys, pys_len ds]
end

/-- everything of it can be looked at: no purse, texts of signs, not too deep -/
theorem canLay_ok {d : D} (h : okEq d = true) : d.py.canLay0 = true := PySem.SeqAt.canLay_of_shaped (okEq_of h).2
theorem depth_ok {d : D} (h : okEq d = true) : d.py.depth ≤ 64 := PySem.SeqAt.depth_of_shaped (okEq_of h).2
def ltD (d e : D) : Option D := if okEq d = true ∧ okEq e = true ∧ d.py.depth ≤ 60 then (ltO d e).map D.bl else none
section
variable {X : Cx}
theorem op_ltO (hu : X.A.units + 64 < cLine) : OpR X (compareOp .Lt) (fun x y H Q => ∃ d e b, Dp X.K H x d.py ∧ Dp X.K H y e.py ∧ d.py.canLay0 = true ∧ e.py.canLay0 = true ∧ ltO d e = some b ∧ d.py.depth ≤ 60 ∧ Q (.bl b) H) := by
  intro pins s σ H x y v u Q I rx ry h
  obtain ⟨d, e, b, h1, h2, c1, c2, hl, hd, q⟩ := h
  obtain ⟨as, r1⟩ := Dp.reads I _ x v h1 rx
  obtain ⟨bs, r2⟩ := Dp.reads I _ y u h2 ry
  exact lt_reads d e b X.A v u as bs r1 r2 c1 c2 hl (by omega) X.prog X.w X.xe _ ⟨.bl b, H, I, rfl, q⟩
theorem opd_lt (hu : X.A.units + 64 < cLine) : OpD X (compareOp .Lt) ltD := by
  refine OpD.of _ (op_ltO hu) fun z C H d e u x y Q o dx dy g k => ?_
  unfold ltD at g
  split at g
  · rename_i hc
    obtain ⟨h1, h2, h3⟩ := hc
    obtain ⟨b, hb, rfl⟩ := Option.map_eq_some_iff.mp g
    exact ⟨d, e, b, dx.dp o.ex d x (okEq_of h1).1, dy.dp o.ex e y (okEq_of h2).1, canLay_ok h1, canLay_ok h2, hb, h3, k _ C H (Tr.refl o) (dn_bl.mpr rfl)⟩
  · cases g
end

/-! ### data is told by its value -/
mutual
/-- no tuple of a walk, no dict in it -/
def D.np : D → Bool
  | .pr _ => false
  | .dic _ _ => false
  | .tup ds => D.nps ds
  | .lst ds => D.nps ds
  | .non => true
  | .bl _ => true
  | .int _ => true
  | .str _ => true
  | .pur => true
def D.nps : List D → Bool
  | [] => true
  | d :: ds => D.np d && D.nps ds
end
section
variable {X : Cx} {pins : List (Addr × Obj)} {σ : L2.St} {H : Hp} {s : Shared} {z : Pz} {C : Hp}
theorem pu_no (I : Inv X pins σ H s) (o : Ok z C H) : (∀ xs, ¬ SqT X.K C z.p xs) ∧ ∀ xs, C z.p ≠ some (.lst xs) := by
  refine ⟨fun xs h => ?_, fun xs h => by rw [o.pur.cp] at h; cases h⟩
  obtain ⟨gs, cs, sm, k, h1, _⟩ := o.pur.at_
  obtain ⟨_, _, ⟨ob, e1, e2, _⟩, _⟩ := I.tuple (ex_t o.ex h)
  obtain ⟨_, _, ⟨ob', _, f1, f2, _⟩, _⟩ := I.list (sq_of (K := X.K) h1)
  rw [e1] at f1
  cases f1
  rw [e2] at f2
  exact absurd (Value.type.inj f2) (by decide)
theorem lst_tup_no (I : Inv X pins σ H s) (o : Ok z C H) {a : Addr} {xs ys : List V} (h : C a = some (.lst xs)) (h' : SqT X.K C a ys) : False := by
  obtain ⟨_, _, ⟨ob, e1, e2, _⟩, _⟩ := I.tuple (ex_t o.ex h')
  obtain ⟨_, _, ⟨ob', _, f1, f2, _⟩, _⟩ := I.list (sq_of (K := X.K) (o.ex _ _ h))
  rw [e1] at f1
  cases f1
  rw [e2] at f2
  exact absurd (Value.type.inj f2) (by decide)
mutual
theorem Dn.inj (I : Inv X pins σ H s) (o : Ok z C H) : ∀ (d e : D) (v : V), d.np = true → e.np = true → Dn X.K C z.p d v → Dn X.K C z.p e v → d = e
  | .non, e, v, nd, ne, h, k => by
    have hv := dn_non.mp h
    subst hv
    cases e with
    | pr ds => simp [D.np] at ne
    | dic ks vs => simp [D.np] at ne
    | non => rfl
    | bl b => cases dn_bl.mp k
    | int i => cases dn_int.mp k
    | str i => cases dn_str.mp k
    | tup ds => obtain ⟨a, xs, e1, _⟩ := dn_tup k; cases e1
    | lst ds => obtain ⟨a, xs, e1, _⟩ := dn_lst.mp k; cases e1
    | pur => cases dn_pur.mp k
  | .bl b, e, v, nd, ne, h, k => by
    have hv := dn_bl.mp h
    subst hv
    cases e with
    | pr ds => simp [D.np] at ne
    | dic ks vs => simp [D.np] at ne
    | non => cases dn_non.mp k
    | bl b => cases dn_bl.mp k; rfl
    | int i => cases dn_int.mp k
    | str i => cases dn_str.mp k
    | tup ds => obtain ⟨a, xs, e1, _⟩ := dn_tup k; cases e1
    | lst ds => obtain ⟨a, xs, e1, _⟩ := dn_lst.mp k; cases e1
    | pur => cases dn_pur.mp k
  | .int i, e, v, nd, ne, h, k => by
    have hv := dn_int.mp h
    subst hv
    cases e with
    | pr ds => simp [D.np] at ne
    | dic ks vs => simp [D.np] at ne
    | non => cases dn_non.mp k
    | bl b => cases dn_bl.mp k
    | int i => cases dn_int.mp k; rfl
    | str i => cases dn_str.mp k
    | tup ds => obtain ⟨a, xs, e1, _⟩ := dn_tup k; cases e1
    | lst ds => obtain ⟨a, xs, e1, _⟩ := dn_lst.mp k; cases e1
    | pur => cases dn_pur.mp k
  | .str i, e, v, nd, ne, h, k => by
    have hv := dn_str.mp h
    subst hv
    cases e with
    | pr ds => simp [D.np] at ne
    | dic ks vs => simp [D.np] at ne
    | non => cases dn_non.mp k
    | bl b => cases dn_bl.mp k
    | int i => cases dn_int.mp k
    | str i => cases dn_str.mp k; rfl
    | tup ds => obtain ⟨a, xs, e1, _⟩ := dn_tup k; cases e1
    | lst ds => obtain ⟨a, xs, e1, _⟩ := dn_lst.mp k; cases e1
    | pur => cases dn_pur.mp k
  | .pur, e, v, nd, ne, h, k => by
    have hv := dn_pur.mp h
    subst hv
    cases e with
    | pr ds => simp [D.np] at ne
    | dic ks vs => simp [D.np] at ne
    | non => cases dn_non.mp k
    | bl b => cases dn_bl.mp k
    | int i => cases dn_int.mp k
    | str i => cases dn_str.mp k
    | tup ds =>
      obtain ⟨a, xs, e1, e2, _⟩ := dn_tup k
      cases e1
      exact ((pu_no I o).1 _ e2).elim
    | lst ds =>
      obtain ⟨a, xs, e1, e2, _⟩ := dn_lst.mp k
      cases e1
      exact ((pu_no I o).2 _ e2).elim
    | pur => rfl
  | .tup ds, e, v, nd, ne, h, k => by
    obtain ⟨a, xs, e1, e2, e3⟩ := dn_tup h
    subst e1
    cases e with
    | pr ds => simp [D.np] at ne
    | dic ks vs => simp [D.np] at ne
    | non => cases dn_non.mp k
    | bl b => cases dn_bl.mp k
    | int i => cases dn_int.mp k
    | str i => cases dn_str.mp k
    | tup es =>
      obtain ⟨b, ys, f1, f2, f3⟩ := dn_tup k
      cases f1
      have := I.tuple_inj (ex_t o.ex e2) (ex_t o.ex f2)
      subst this
      rw [Dns.inj I o ds es xs (by simpa [D.np] using nd) (by simpa [D.np] using ne) e3 f3]
    | lst es =>
      obtain ⟨b, ys, f1, f2, f3⟩ := dn_lst.mp k
      cases f1
      exact (lst_tup_no I o f2 e2).elim
    | pur =>
      cases dn_pur.mp k
      exact ((pu_no I o).1 _ e2).elim
  | .lst ds, e, v, nd, ne, h, k => by
    obtain ⟨a, xs, e1, e2, e3⟩ := dn_lst.mp h
    subst e1
    cases e with
    | pr ds => simp [D.np] at ne
    | dic ks vs => simp [D.np] at ne
    | non => cases dn_non.mp k
    | bl b => cases dn_bl.mp k
    | int i => cases dn_int.mp k
    | str i => cases dn_str.mp k
    | tup es =>
      obtain ⟨b, ys, f1, f2, f3⟩ := dn_tup k
      cases f1
      exact (lst_tup_no I o e2 f2).elim
    | lst es =>
      obtain ⟨b, ys, f1, f2, f3⟩ := dn_lst.mp k
      cases f1
      rw [e2] at f2
      cases f2
      rw [Dns.inj I o ds es xs (by simpa [D.np] using nd) (by simpa [D.np] using ne) e3 f3]
    | pur =>
      cases dn_pur.mp k
      exact ((pu_no I o).2 _ e2).elim
  | .pr ds, e, v, nd, ne, h, k => by simp [D.np] at nd
  | .dic ks vs, e, v, nd, ne, h, k => by simp [D.np] at nd
theorem Dns.inj (I : Inv X pins σ H s) (o : Ok z C H) : ∀ (ds es : List D) (xs : List V), D.nps ds = true → D.nps es = true → Dns X.K C z.p ds xs → Dns X.K C z.p es xs → ds = es
  | [], es, xs, nd, ne, h, k => by
    rw [dns_nil.mp h] at k
    cases es with
    | nil => rfl
    | cons e es => obtain ⟨v, r, e1, _⟩ := dns_cons.mp k; cases e1
  | d :: ds, es, xs, nd, ne, h, k => by
    obtain ⟨v, r, e1, e2, e3⟩ := dns_cons.mp h
    cases es with
    | nil => rw [dns_nil.mp k] at e1; cases e1
    | cons e es =>
      obtain ⟨v', r', f1, f2, f3⟩ := dns_cons.mp k
      rw [e1] at f1
      cases f1
      have nd' : d.np = true ∧ D.nps ds = true := by simpa [D.nps] using nd
      have ne' : e.np = true ∧ D.nps es = true := by simpa [D.nps] using ne
      rw [Dn.inj I o d e v nd'.1 ne'.1 e2 f2, Dns.inj I o ds es r nd'.2 ne'.2 e3 f3]
end
end

/-! ### sorted of tuples whose first items are tuples -/
/-- such a tuple -/
def tupFirst : D → Bool
  | .tup (.tup _ :: _) => true
  | _ => false
theorem lex_kat {prog : Program} {w : World} {A : Around} {s : Shared} {z b : Bool} {Q : Bool → Shared → Prop} (q : Q b s) : ∀ {vs ws : List Value}, LexR A s z vs ws b → ∀ i, PySem.W.KatLex prog w A.in1 false z Q (vs.zip ws) i s
  | _, _, .nil, i => by rw [List.zip_nil_left]; exact PySem.W.kat_nil q
  | _, _, .nil2, i => by rw [List.zip_nil_right]; exact PySem.W.kat_nil q
  | _, _, .eq he hr, i => by
    rw [List.zip_cons_cons]
    exact PySem.W.kat_cons (he prog w _ _ (PySem.W.kat_yes (lex_kat q hr (i + 1))))
  | _, _, .ne he hr, i => by
    rw [List.zip_cons_cons]
    exact PySem.W.kat_cons (he prog w _ _ (PySem.W.kat_no (PySem.W.kat_one _ _ (hr prog w _ _ q))))
def okSort (d : D) : Bool := tupFirst d && okEq d && decide (d.py.depth ≤ 50) && d.np
/-- what stands there is such a tuple -/
theorem kat_tups {h : Heap} : ∀ {us : List Value} {ds : List D}, Paired (fun u d => (∃ as, Reads h u (D.py d) as) ∧ tupFirst d = true) us ds → ∃ fs, PySem.W.KatTups h us fs ∧ fs.length = us.length ∧ ∀ f ∈ fs, ∃ (a : Addr) (o : Obj), f = .ref a ∧ h.get? a = some o ∧ o.cls = .type "tuple"
  | _, _, .nil => ⟨[], PySem.W.KatTups.nil, rfl, fun f m => (nomatch m)⟩
  | u :: us, d :: ds, .cons ⟨⟨as, r⟩, t⟩ hr => by
    obtain ⟨fs, h1, h2, h3⟩ := kat_tups hr
    match d, t, r with
    | .tup (.tup es :: ds'), _, r =>
      simp only [D.py, D.pys] at r
      cases r with
      | tuple k1 k2 k3 k4 =>
        rename_i a o vs n
        obtain ⟨l⟩ := vs
        have k4' : ReadsAll h l (PyData.tuple (D.pys es) :: D.pys ds') _ := k4
        cases k4' with
        | cons m1 m2 =>
          rename_i v vs' as1 bs1
          have m1' := m1
          cases m1 with
          | tuple g1 g2 g3 g4 =>
            rename_i a2 o2 vs2 n2
            refine ⟨.ref a2 :: fs, PySem.W.KatTups.cons k1 k2 k3 (by simp) h1, by simp [h2], fun f m => ?_⟩
            rcases List.mem_cons.mp m with e | m
            · exact ⟨_, _, e, g1, g2⟩
            · exact h3 f m
section
variable {X : Cx}
def rSortT (K : PySem.W.Frag) : List V → Hp → VK → Prop := fun xs H Q => ∃ z C a vs ds, ∃ ltf : D → D → Bool, xs = [V.ref a] ∧ Ok z C H ∧ C a = some (.lst vs) ∧ Dns K C z.p ds vs ∧ (∀ d ∈ ds, okSort d = true) ∧ SrtO.Swo ltf ∧ (∀ d ∈ ds, ∀ e ∈ ds, ltO d e = some (ltf d e)) ∧
  ∀ out outv p, SrtO.Srtd ltf out → SrtO.Stb ltf out ds → Dns K C z.p out outv → H p = none → Q (.ref p) (upd H p (.lst outv))
theorem paired_get {α β : Type} {F : α → β → Prop} : ∀ {l : List α} {m : List β}, l.length = m.length → (∀ (i : Nat) (a : α) (b : β), l[i]? = some a → m[i]? = some b → F a b) → Paired F l m
  | [], [], _, _ => .nil
  | a :: l, b :: m, e, h => .cons (h 0 a b rfl rfl) (paired_get (by simpa using e) fun i x y h1 h2 => h (i + 1) x y (by simpa using h1) (by simpa using h2))
theorem call_sortT (hu : X.A.units + 64 < cLine) : CallR X (.builtin "sorted") (rSortT X.K) := by
  intro pins s σ H xs us Q I r h
  obtain ⟨z, C, a, vs, ds, ltf, rfl, o, ha, dn, hok, O, hlt, q⟩ := h
  obtain ⟨u, rfl, ru⟩ := vals1 r
  obtain rfl : u = Value.ref a := ru
  obtain ⟨its, rv, hl, hz⟩ := I.list (sq_of (K := X.K) (o.ex _ _ ha))
  have e1 := rv.length
  have e2 := dn.len
  -- what a value of the list is
  have known : ∀ i u, its[i]? = some u → ∃ d v, ds[i]? = some d ∧ vs[i]? = some v ∧ RelV v u ∧ Dn X.K C z.p d v := fun i u hi => by
    have hlt' := (List.getElem?_eq_some_iff.mp hi).1
    have hv : vs[i]? = some (vs[i]'(by omega)) := List.getElem?_eq_getElem (by omega)
    obtain ⟨d, h1, h2⟩ := dn.get' hv
    obtain ⟨u', h3, h4⟩ := rv.get hv
    rw [hi] at h3
    cases h3
    exact ⟨d, _, h1, hv, h4, h2⟩
  classical
  let dec : Value → D := fun u => if h : ∃ d v, d ∈ ds ∧ RelV v u ∧ Dn X.K C z.p d v then h.choose else .non
  have decOk : ∀ u, (∃ d v, d ∈ ds ∧ RelV v u ∧ Dn X.K C z.p d v) → ∃ v, dec u ∈ ds ∧ RelV v u ∧ Dn X.K C z.p (dec u) v := fun u h => by
    have := h.choose_spec
    obtain ⟨v, h1, h2, h3⟩ := this
    have e : dec u = h.choose := dif_pos h
    rw [e]
    exact ⟨v, h1, h2, h3⟩
  have okn : ∀ d ∈ ds, d.np = true := fun d hd => by
    have := hok d hd
    simp only [okSort, Bool.and_eq_true] at this
    exact this.2
  have decAt : ∀ i u d, its[i]? = some u → ds[i]? = some d → dec u = d := fun i u d hi hd => by
    obtain ⟨d', v, h1, h2, h3, h4⟩ := known i u hi
    rw [hd] at h1
    cases h1
    obtain ⟨v', g1', g2, g3⟩ := decOk u ⟨d, v, List.mem_of_getElem? hd, h3, h4⟩
    rw [h3.inj g2] at h4
    exact Dn.inj I o _ _ _ (okn _ g1') (okn _ (List.mem_of_getElem? hd)) g3 h4
  have decMap : its.map dec = ds := by
    apply List.ext_getElem?
    intro i
    rw [List.getElem?_map]
    cases hi : its[i]? with
    | none =>
      have : ds[i]? = none := by
        rw [List.getElem?_eq_none_iff] at hi ⊢
        omega
      rw [this]
      rfl
    | some u =>
      obtain ⟨d, v, h1, _⟩ := known i u hi
      rw [h1]
      show some (dec u) = some d
      rw [decAt i u d hi h1]
  have mem : ∀ u ∈ its, dec u ∈ ds ∧ ∃ v, RelV v u ∧ Dn X.K C z.p (dec u) v := fun u hu => by
    obtain ⟨i, hi⟩ := List.mem_iff_getElem?.mp hu
    obtain ⟨d, v, h1, h2, h3, h4⟩ := known i u hi
    obtain ⟨v', g1, g2, g3⟩ := decOk u ⟨d, v, List.mem_of_getElem? h1, h3, h4⟩
    exact ⟨g1, v', g2, g3⟩
  have okp : ∀ d ∈ ds, tupFirst d = true ∧ okEq d = true ∧ d.py.depth ≤ 50 := fun d hd => by
    have := hok d hd
    simp only [okSort, Bool.and_eq_true, decide_eq_true_eq] at this
    exact ⟨this.1.1.1, this.1.1.2, this.1.2⟩
  have reads : ∀ u ∈ its, ∃ as, Reads s.heap u (dec u).py as := fun u hu => by
    obtain ⟨h1, v, h2, h3⟩ := mem u hu
    exact Dp.reads I _ v u (h3.dp o.ex _ v (okEq_of (okp _ h1).2.1).1) h2
  have isref : ∀ u ∈ its, ∃ t, u = Value.ref t := fun u hu => by
    obtain ⟨h1, v, h2, h3⟩ := mem u hu
    have ht := (okp _ h1).1
    cases hd : dec u with
    | tup es =>
      rw [hd] at h3
      obtain ⟨t, _, e, _⟩ := dn_tup h3
      subst e
      exact ⟨t, h2⟩
    | _ => rw [hd] at ht; cases ht
  have Ov : SrtO.Swo fun u w => ltf (dec u) (dec w) := ⟨fun x y => O.asym _ _, fun x y z => O.tr _ _ _⟩
  refine SrtO.sorted_ord (ltv := fun u w => ltf (dec u) (dec w)) Ov hl.isList (by rw [← e1]; exact hz) (fun h2 h₁ a' ha' kk => ?_) fun out hs hb => ?_
  · intro h' keep
    have kp : ∀ b ob, s.heap.get? b = some ob → h'.get? b = some ob := fun b ob e => keep b ob (kk b ob e).1 (kk b ob e).2
    have reads' : ∀ u ∈ its, ∃ as, Reads h' u (dec u).py as := fun u hu => let ⟨as, r⟩ := reads u hu; ⟨as, Reads.keeps kp r⟩
    obtain ⟨fs, f1, f2, f3⟩ := kat_tups (h := h') (us := its) (ds := ds) (paired_get (by omega) fun i u d h1 h2 => by
      rw [← decAt i u d h1 h2]
      have hm := List.mem_of_getElem? h1
      exact ⟨reads' u hm, (okp _ (mem u hm).1).1⟩)
    refine ⟨tuples' false, fun Q' E' hq => ?_, fun p q' hp hq' => ?_⟩
    · refine PySem.W.kat_kind (T := .type "tuple") f1 (by omega) (fun f hf => ?_) (by rfl) ?_
      · obtain ⟨b, ob, rfl, g1, g2⟩ := f3 f hf
        have : PySem.W.Looks (model X.prog X.w) h' (typeOf (.ref b)) ob.cls := (PySem.W.Looks.ld g1).andThen .now
        rw [g2] at this
        exact this
      · exact hq
    · have hp1 : p.1 ∈ its := hp
      have hq1 : q'.1 ∈ its := hq'
      obtain ⟨as, r1⟩ := reads' _ hp1
      obtain ⟨bs, r2⟩ := reads' _ hq1
      have hb := hlt _ (mem _ hp1).1 _ (mem _ hq1).1
      have o1 := okp _ (mem _ hp1).1
      have o2 := okp _ (mem _ hq1).1
      show wpAny (model X.prog X.w) X.A.in1.in1 (keyLt' (tuples' false) p.1 q'.1) (fun r s' => s' = { s with heap := h' } ∧ r = ltf (dec p.1) (dec q'.1)) (fun _ _ => False) { s with heap := h' }
      generalize hd1 : dec p.1 = d1 at r1 hb o1 ⊢
      generalize hd2 : dec q'.1 = d2 at r2 hb o2 ⊢
      match d1, d2, o1.1, o2.1, r1, r2, hb, o1, o2 with
      | .tup es, .tup gs, _, _, r1, r2, hb, o1, o2 =>
        simp only [D.py] at r1 r2
        generalize hp0 : p.1 = p1 at r1 ⊢
        generalize hq0 : q'.1 = q1 at r2 ⊢
        cases r1 with
        | tuple k1 k2 k3 k4 =>
          cases r2 with
          | tuple m1 m2 m3 m4 =>
            rename_i a1 ob1 v1 n1 a2 ob2 v2 n2
            simp only [ltO] at hb
            have g1 := PySem.SeqAt.ReadsAll.length _ _ _ k4
            have g2 := PySem.SeqAt.ReadsAll.length _ _ _ m4
            have c1 := canLay_ok o1.2.1
            have c2 := canLay_ok o2.2.1
            have hdep := o1.2.2
            simp only [D.py, PyData.depth] at hdep
            have lx := lts_reads (s := { s with heap := h' }) es gs _ X.A.in1 (decide (v1.size < v2.size)) _ _ _ _ k4 m4 (by simpa [D.py, PyData.canLay0] using c1) (by simpa [D.py, PyData.canLay0] using c2) hb (by show X.A.units + 1 + _ + 2 < _; omega)
              (by rw [← Array.length_toList, ← Array.length_toList, g1, g2, pys_len, pys_len])
            exact PySem.W.kat_lt (s := { s with heap := h' }) k1 k3 m1 m3 (lex_kat (Q := fun r s' => s' = { s with heap := h' } ∧ r = ltf (.tup es) (.tup gs)) ⟨rfl, rfl⟩ lx 0)
  · have memo : ∀ u ∈ out, u ∈ its := fun u hu => hb.perm.mem_iff.mp hu
    have hbm : SrtO.Stb ltf (out.map dec) ds := by
      have := SrtO.Stb.map O dec hb
      rwa [decMap] at this
    obtain ⟨ep, he'⟩ := PyProof.Rows.sortedAll_at s.heap its out.toArray
    have dno : Dns X.K C z.p (out.map dec) (out.map backV) := by
      have : ∀ l : List Value, (∀ u ∈ l, u ∈ its) → Dns X.K C z.p (l.map dec) (l.map backV) := by
        intro l
        induction l with
        | nil => intro _; exact dns_nil.mpr rfl
        | cons u l ih =>
          intro hl'
          have hu' := hl' u (by simp)
          obtain ⟨h1, v, h2, h3⟩ := mem u hu'
          obtain ⟨t, rfl⟩ := isref u hu'
          have : v = .ref t := h2.inj (show RelV (.ref t) (.ref t) from rfl)
          subst this
          exact dns_cons.mpr ⟨_, _, rfl, h3, ih fun w hw => hl' w (by simp [hw])⟩
      exact this out memo
    have hlen : (out.map backV).length ≤ sizeLine := by
      rw [List.length_map, hb.len, ← e1]
      exact hz
    refine ⟨.ref _, upd H (s.heap.objs.size + 1) (.lst (out.map backV)), I.laid (t' := s.toks) (fun _ _ => PyProof.Rows.sortedAll_old) (Nat.le_succ _) ⟨hlen, out, ep, vals_back fun u hu => isref u (memo u hu), he'⟩, rfl, ?_⟩
    exact q _ _ _ (SrtO.srtd_map hs) hbm dno (I.hok.fresh (Nat.le_succ _))
/-- calls that leave something open: r tells what may come of the data -/
def CallP (X : Cx) (f : Value) (r : List D → (D → Prop) → Prop) : Prop :=
  (∃ R : List V → Hp → VK → Prop, CallR X f R ∧ ∀ (z : Pz) (C H : Hp) (ds : List D) (T : D → Prop) (xs : List V) (Q : VK), Ok z C H → Dns X.K C z.p ds xs → r ds T → (∀ d v C' H', T d → Tr z C H C' H' → Dn X.K C' z.p d v → Q v H') → R xs H Q) ∧
    ∀ ds (T T' : D → Prop), (∀ d, T d → T' d) → r ds T → r ds T'
def mCP (r : List D → (D → Prop) → Prop) (m : MA) : ME := fun env T => m env fun ds => r ds T
theorem pd_callP {x : Str} {e : Expr} {p pos : Pos} {es : List Expr} {m : MA} {id : String} {r : List D → (D → Prop) → Prop} (hc : CallP X (.builtin id) r) (hg : Gl X x) (hm : X.mg x = none) (hv : bootBuiltins x = some (.builtin id)) (h : PDA X (e :: es) m)
    (hn : x ≠ "__name__" := by decide) (hdb : (x == ("__debug__" : Str)) = false := by decide) (he : starEach (e :: es) X.env = (false, eval e X.env) :: starEach es X.env := by rfl) (hpl : (backTo pos (starEach es X.env)).any (·.1) = false := by rfl) :
    PD X (.Call (.Name x p) (e :: es) [] pos) (mCP r m) := by
  obtain ⟨⟨R, hR, hi⟩, hmo⟩ := hc
  refine ⟨pe_imp (pe_callB hR hg hm hv h.run hn hdb he hpl) fun σ H Q q => ?_, fun env Q Q' i q => h.mono env _ _ (fun ds q => hmo ds _ _ i q) q⟩
  obtain ⟨z, C, env, o, r, q⟩ := q
  exact liftA_use h.mono o r q fun ds vs C' H' q t dn => hi z C' H' ds _ vs Q t.ok dn q fun d v C2 H2 hT t2 dn2 => hT v C2 H2 (t.trans t2) dn2
def sortedP (ds : List D) (T : D → Prop) : Prop := ∃ xs, ∃ ltf : D → D → Bool, ds = [.lst xs] ∧ (∀ d ∈ xs, okSort d = true) ∧ SrtO.Swo ltf ∧ (∀ d ∈ xs, ∀ e ∈ xs, ltO d e = some (ltf d e)) ∧ ∀ out, SrtO.Srtd ltf out → SrtO.Stb ltf out xs → T (.lst out)
theorem cp_sorted (hu : X.A.units + 64 < cLine) : CallP X (.builtin "sorted") sortedP := by
  refine ⟨⟨_, call_sortT hu, fun z C H ds T xs Q o dn ⟨ys, ltf, e, h1, O, h2, h3⟩ k => ?_⟩, fun ds T T' i ⟨ys, ltf, e, h1, O, h2, h3⟩ => ⟨ys, ltf, e, h1, O, h2, fun out a b => i _ (h3 out a b)⟩⟩
  subst e
  obtain ⟨v, e1, e2⟩ := dns1 dn
  obtain ⟨a, vs, f1, f2, f3⟩ := dn_lst.mp e2
  rw [f1] at e1
  exact ⟨z, C, a, vs, ys, ltf, e1, o, f2, f3, h1, O, h2, fun out outv p s1 s2 dno hp => k _ _ _ _ (h3 out s1 s2) (Tr.put o hp) (dn_new_lst dno (fresh_back o.ex hp))⟩
end
end BV

/-! isinstance, join, insert, several targets at once. -/
namespace BV
open PySem PySem.Spec PyProof.Rows L2 Evl

section
variable {X : Cx} {pos : Pos}
/-! ### isinstance(x, T) -/
def tyN : D → Option String
  | .non => some "NoneType"
  | .bl _ => some "bool"
  | .int _ => some "int"
  | .str _ => some "str"
  | .tup _ => some "tuple"
  | .pr _ => some "tuple"
  | .dic _ _ => some "dict"
  | .lst _ => some "list"
  | .pur => none
def isiD (T : String) (d : D) : Option Bool := (tyN d).bind fun n => kitB n T
def mIsi (T : String) (m : ME) : ME := fun env Q => m env fun d => ∃ b, isiD T d = some b ∧ Q (.bl b)
theorem tyX_of {z : Pz} {C H : Hp} (o : Ok z C H) {d : D} {v : V} {n : String} (dn : Dn X.K C z.p d v) (h : tyN d = some n) : TyX X.K H v (.type n) := by
  cases d with
  | non => cases h; rw [dn_non.mp dn]; exact .base .non
  | bl b => cases h; rw [dn_bl.mp dn]; exact .base (.bl b)
  | int i => cases h; rw [dn_int.mp dn]; exact .base (.int i)
  | str i => cases h; rw [dn_str.mp dn]; exact .base (.str i)
  | tup ds =>
    cases h
    obtain ⟨a, xs, e1, e2, e3⟩ := dn_tup dn
    subst e1
    rcases ex_t o.ex e2 with (h | ⟨ob, h⟩) | ⟨ob, its, k, hk, hc, _⟩
    · exact .base (.tup h)
    · exact .fTuple h
    · exact .kTuple hk hc
  | pr ds =>
    cases h
    obtain ⟨a, xs, e1, e2, e3⟩ := dn_pr.mp dn
    subst e1
    rcases ex_t o.ex e2 with (h | ⟨ob, h⟩) | ⟨ob, its, k, hk, hc, _⟩
    · exact .base (.tup h)
    · exact .fTuple h
    · exact .kTuple hk hc
  | dic ks vs =>
    cases h
    obtain ⟨a, kvs, e1, e2, e3⟩ := dn_dic.mp dn
    subst e1
    exact .base (.dK (o.ex _ _ e2))
  | lst ds =>
    cases h
    obtain ⟨a, xs, e1, e2, e3⟩ := dn_lst.mp dn
    subst e1
    exact .base (.lst (o.ex _ _ e2))
  | pur => cases h
theorem pd_isi {e : Expr} {m : ME} {T : String} {p pt : Pos} (h : PD X e m) (hm : X.mg "isinstance" = none) (hT : X.mg T = none) (hv : bootBuiltins T = some (.type T)) (hg : Gl X "isinstance" := by rfl) (hgT : Gl X T := by rfl)
    (hn : (Str.ofString T) ≠ "__name__" := by decide) (hdb : ((Str.ofString T) == ("__debug__" : Str)) = false := by decide)
    (s1 : starEach [e, .Name T pt] X.env = (false, eval e X.env) :: starEach [.Name T pt] X.env := by rfl) (s2 : starEach [Expr.Name T pt] X.env = (false, eval (.Name T pt) X.env) :: starEach [] X.env := by rfl) (hpl : ((backTo pos (starEach [.Name T pt] X.env)).any fun x => x.1) = false := by rfl) :
    PD X (.Call (.Name "isinstance" p) [e, .Name T pt] [] pos) (mIsi T m) := by
  refine ⟨pe_imp (pe_callB call_isi hg hm boot_isinstance (pa_cons h.run (pa_cons (pe_bltn (v := .ty T) hgT hT hv rfl hn hdb) pa_nil s2) s1) (by decide) (by decide) s1 hpl) fun σ H Q q => ?_, fun env Q Q' i q => h.mono _ _ _ (fun d ⟨b, g, q⟩ => ⟨b, g, i _ q⟩) q⟩
  obtain ⟨z, C, env, o, r, q⟩ := q
  refine lift_use h.mono o r q fun d v C' H' ⟨b, g, p⟩ t dn => ?_
  unfold isiD at g
  cases hn' : tyN d with
  | none => rw [hn'] at g; cases g
  | some n =>
    rw [hn'] at g
    exact ⟨v, .ty T, .type n, .type T, b, rfl, .ty T, tyX_of t.ok dn hn', kit_ty g, p _ C' H' t (dn_bl.mpr rfl)⟩

/-! ### sep.join(a list of texts) -/
def strsOf : List D → Option (List Str)
  | [] => some []
  | .str x :: r => (strsOf r).map (x :: ·)
  | _ => none
theorem strs_dn {K : PySem.W.Frag} {C : Hp} {pu : Addr} : ∀ {ds : List D} {ys : List Str} {xs : List V}, strsOf ds = some ys → Dns K C pu ds xs → xs = ys.map V.str
  | [], ys, xs, h, dn => by cases h; rw [dns_nil.mp dn]; rfl
  | .str x :: r, ys, xs, h, dn => by
    simp only [strsOf] at h
    obtain ⟨ys', h1, rfl⟩ := Option.map_eq_some_iff.mp h
    obtain ⟨v, w, e1, e2, e3⟩ := dns_cons.mp dn
    rw [e1, dn_str.mp e2, strs_dn h1 e3]
    rfl
def mJoin (mo me : ME) : ME := fun env Q => mo env fun s => ∃ x, s = .str x ∧ me env fun d => ∃ ds ys, d = .lst ds ∧ strsOf ds = some ys ∧ (ys.map (·.length)).sum + ys.length * x.length ≤ 4000000 ∧ Q (.str (Txt.join x ys))
theorem pd_join {o e : Expr} {mo me : ME} {apos : Pos} (ho : PD X o mo) (he : PD X e me) (hs : starEach [e] X.env = [(false, eval e X.env)] := by rfl) (hb : attributeBase o "join" X.env (eval o X.env) = eval o X.env := by rfl) (hl : (apos.endLine == pos.line) = true := by rfl) :
    PD X (.Call (.Attribute o "join" apos) [e] [] pos) (mJoin mo me) := by
  refine ⟨pe_imp (pe_join ho.run he.run hs hb hl) fun σ H Q q => ?_, fun env Q Q' i q => ho.mono _ _ _ (fun s ⟨x, e, q⟩ => ⟨x, e, he.mono _ _ _ (fun d ⟨ds, ys, a, b, c, q⟩ => ⟨ds, ys, a, b, c, i _ q⟩) q⟩) q⟩
  obtain ⟨z, C, env, ok, r, q⟩ := q
  refine lift_use ho.mono ok r q fun d v C' H' ⟨x, ed, p⟩ t dn => ?_
  subst ed
  refine ⟨⟨x, dn_str.mp dn⟩, lift_use he.mono t.ok (r.mono t.cc) p fun d2 w C2 H2 ⟨ds, ys, e1, e2, e3, p⟩ t2 dn2 => ?_⟩
  subst e1
  obtain ⟨a, xs, f1, f2, f3⟩ := dn_lst.mp dn2
  have := strs_dn e2 f3
  subst this
  exact ⟨x, a, ys, dn_str.mp dn, by rw [f1], .inl (ex_l t2.ok.ex (sq_of f2)), by omega, p _ C2 H2 (t.trans t2) (dn_str.mpr rfl)⟩

/-! ### several values under one view -/
def aftL (rs : List Nat) (ds : List D) (env : SEnv) : SEnv := if D.lfs ds = true then env else frz rs 0 env
theorem SR.useA {K : PySem.W.Frag} {z : Pz} {C0 H0 Cb C H : Hp} {env : SEnv} {σ : L2.St} (s : SR K z C0 H0 Cb C env σ H) {m : MA} {P : List D → Prop} {Q : List V → Hp → Prop} (rs : List Nat) (hm : MonoA m) (q : m (view rs 0 env) P)
    (k : ∀ ds vs C' H', P ds → SR K z C0 H0 Cb C' (aftL rs ds env) σ H' → Dns K C' z.p ds vs → Q vs H') : liftA K m σ H Q := by
  refine ⟨z, _, _, s.okP rs, s.envP rs, hm _ _ _ (fun ds p vs C' H' t dn => ?_) q⟩
  by_cases hd : D.lfs ds = true
  · refine k ds vs (coreM rs env σ C') H' p ?_ (dn.lf (s.tupSub rs t) ds vs hd)
    unfold aftL
    rw [if_pos hd]
    exact s.thaw rs t
  · refine k ds vs C' H' p ?_ dn
    unfold aftL
    rw [if_neg hd]
    exact s.frozen rs t
/-- a, b = e1, e2 (plain local names) -/
def mPar2 (rs : List Nat) (i j : Nat) (m : MA) : MS := fun E env => m (view rs 0 env) fun ds => ∃ d e, ds = [d, e] ∧ E.nx (((aftL rs ds env).set i (some (false, d))).set j (some (false, e)))
theorem pds_par2 (rs : List Nat) {i j : Nat} {st : Stmt} {m : MA} {es : List Expr} (h : PDA X es m) (hp : PS X st (tPar i j (liftA X.K m))) : PDS X st (mPar2 rs i j m) := by
  refine ⟨fun z C0 H0 Cb => ps_imp hp fun N σ H ⟨C, env, s, q⟩ => ?_, fun E E' env l q => h.mono _ _ _ (fun ds ⟨d, e, a, q⟩ => ⟨d, e, a, l.nx _ q⟩) q⟩
  refine s.useA rs h.mono q fun ds vs C' H' ⟨d, e, g, p⟩ s' dn => ?_
  subst g
  obtain ⟨v, w, e1, e2, e3⟩ := dns2 dn
  exact ⟨v, w, e1, p _ C' H' ((s'.set i e2).set j e3)⟩
def mPar3 (rs : List Nat) (i j l : Nat) (m : MA) : MS := fun E env => m (view rs 0 env) fun ds => ∃ d e f, ds = [d, e, f] ∧ E.nx ((((aftL rs ds env).set i (some (false, d))).set j (some (false, e))).set l (some (false, f)))
theorem pds_par3 (rs : List Nat) {i j l : Nat} {st : Stmt} {m : MA} {es : List Expr} (h : PDA X es m) (hp : PS X st (tPar3 i j l (liftA X.K m))) : PDS X st (mPar3 rs i j l m) := by
  refine ⟨fun z C0 H0 Cb => ps_imp hp fun N σ H ⟨C, env, s, q⟩ => ?_, fun E E' env l q => h.mono _ _ _ (fun ds ⟨d, e, f, a, q⟩ => ⟨d, e, f, a, l.nx _ q⟩) q⟩
  refine s.useA rs h.mono q fun ds vs C' H' ⟨d, e, f, g, p⟩ s' dn => ?_
  subst g
  obtain ⟨v, r, e1, e2, e3⟩ := dns_cons.mp dn
  obtain ⟨w, u, e4, e5, e6⟩ := dns2 e3
  rw [e4] at e1
  exact ⟨v, w, u, e1, p _ C' H' (((s'.set i e2).set j e5).set l e6)⟩
/-- any target = e -/
def mAsgT (rs : List Nat) (t : Tgt) (me : ME) : MS := fun E env => me (view rs 0 env) fun d => ∃ env', t.put shd d (aft rs d env) = some env' ∧ E.nx env'
theorem pds_asgT (rs : List Nat) {t : Tgt} {st : Stmt} {e : Expr} {me : ME} (h : PD X e me) (hp : PS X st (tAsg (lift X.K me) (t.g X.K))) : PDS X st (mAsgT rs t me) := by
  refine ⟨fun z C0 H0 Cb => ps_imp hp fun N σ H ⟨C, env, s, q⟩ => ?_, fun E E' env l q => h.mono _ _ _ (fun d ⟨env', a, q⟩ => ⟨env', a, l.nx _ q⟩) q⟩
  exact s.use rs h.mono q fun d v C' H' ⟨env', g, p⟩ s' dn => s'.put dn g fun σ' s2 => p _ C' H' s2

/-! ### x.insert(i, e), x an own list -/
def mIns (rs : List Nat) (i : Nat) (m : MA) : MS := fun E env => (∃ ds0, env[i]? = some (some (true, .lst ds0))) ∧ m (view rs 0 env) fun as => ∃ n d ds, as = [.int n, d] ∧ (aftL rs as env)[i]? = some (some (true, .lst ds)) ∧ szOk (ds.length + 1) = true ∧ 0 ≤ n ∧ n ≤ 4000000 ∧
  E.nx ((aftL rs as env).set i (some (true, .lst (ds.take n.toNat ++ [d] ++ ds.drop n.toNat))))
theorem pds_ins (rs : List Nat) {i : Nat} {o e1 e2 : Expr} {apos cpos : Pos} {m : MA} (ho : PE X o (tVar i)) (h : PDA X [e1, e2] m)
    (h1 : attributeBase o "insert" X.env (eval o X.env) = eval o X.env := by rfl)
    (h2 : ((((backTo cpos (starEach [e1, e2] X.env)).all fun x => !x.1) && ((backToKw cpos (keywordEach [] X.env)).all fun x => x.1.isSome) && decide (([e1, e2] : List Expr).length + ([] : List Keyword).length + (if ([] : List Keyword).isEmpty = true then 0 else 1) < 30)) = true) := by rfl)
    (h3 : (apos.endLine == cpos.line) = true := by rfl) (h4 : starEach [e1, e2] X.env = (false, eval e1 X.env) :: starEach [e2] X.env := by rfl) (h5 : ((backTo cpos (starEach [e2] X.env)).any fun x => x.1) = false := by rfl)
    (hs : swapsWith (.Call (.Attribute o "insert" apos) [e1, e2] [] cpos) none pos.line X.env = pure false := by rfl) : PDS X (.Expr (.Call (.Attribute o "insert" apos) [e1, e2] [] cpos) pos) (mIns rs i m) := by
  refine ⟨fun z C0 H0 Cb => ps_imp (ps_expr (pe_bm PySem.F.plainAttrs_list PySem.F.slot_list_insert PySem.F.type_list_insert mt_insert ho h.run h1 h2 h3 h4 h5) hs) fun N σ H ⟨C, env, s, q⟩ => ?_,
    fun E E' env l ⟨q0, q⟩ => ⟨q0, h.mono _ _ _ (fun as ⟨n, d, ds, a, b, c, f, g, q⟩ => ⟨n, d, ds, a, b, c, f, g, l.nx _ q⟩) q⟩⟩
  obtain ⟨⟨ds0, h0⟩, q⟩ := q
  obtain ⟨a, _, xs, _, ea, _, eH, _⟩ := s.ownL i _ h0
  refine ⟨.ref a, ea, .inl ⟨rfl, xs, sq_of eH⟩, ?_⟩
  refine s.useA rs h.mono q fun as vs C' H' ⟨n, d, ds, g, e1', hz, hn0, hn, p⟩ s' dn => ?_
  subst g
  obtain ⟨v, w, f1, f2, f3⟩ := dns2 dn
  rw [dn_int.mp f2] at f1
  obtain ⟨b, ds', ys, g1, g2, g3, g4, g5, g6⟩ := s'.ownL i _ e1'
  rw [ea] at g2
  cases g2
  cases g1
  have hl := g5.len
  refine ⟨a, ys, n, w, rfl, f1, g4, sz_lt (by unfold szOk at hz ⊢; rw [hl]; simp at hz ⊢; omega), hn0, by omega, ?_⟩
  exact p σ C' _ (s'.write e1' ea (((g5.take _).app (Dns.one f3)).app (g5.drop _)))
end
end BV

/-! Short forms for printed proofs; the purse and its draws. -/
namespace BV
open PySem PySem.Spec PyProof.Rows L2 Evl

section
variable {X : Cx} {pos : Pos} {e : Expr} {me : ME}
theorem pd_v (i : Nat) {x : Str} (hN : X.N[i]? = some x := by rfl) (hv : Vis X.env.scope x := by first | exact Or.inl rfl | exact Or.inr (Or.inl rfl) | exact Or.inr (Or.inr rfl)) (hd : (x == ("__debug__" : Str)) = false := by decide) (hcd : (x == ("__classdict__" : Str)) = false := by decide) : PD X (.Name x pos) (mVar i) :=
  pd_var i (pe_var hN hv hd hcd)
theorem pds_set (rs : List Nat) (i : Nat) {x : Str} {py : Pos} (hN : X.N.Nodup) (h : PD X e me) (hi : X.N[i]? = some x := by rfl) (hx : Loc X.env.scope x := by first | exact Or.inl rfl | exact Or.inr rfl) (hs : swapsWith e (some (.Name x py)) pos.line X.env = pure false := by rfl)
    (hf : X.fn x = true ∨ X.env.scope.names.lookup x = some .local := by first | exact .inl rfl | exact .inr rfl) : PDS X (.Assign [.Name x py] e pos) (mAsg rs i me) := pds_asg rs h (ps_set hN hi hx h.run hs hf)
theorem pds_setO (rs : List Nat) (i : Nat) {x : Str} {py : Pos} {m : MA} (hN : X.N.Nodup) (h : PDO X e m) (hi : X.N[i]? = some x := by rfl) (hx : Loc X.env.scope x := by first | exact Or.inl rfl | exact Or.inr rfl) (hs : swapsWith e (some (.Name x py)) pos.line X.env = pure false := by rfl)
    (hf : X.fn x = true ∨ X.env.scope.names.lookup x = some .local := by first | exact .inl rfl | exact .inr rfl) : PDS X (.Assign [.Name x py] e pos) (mAsgO rs i m) := pds_asgO rs h (ps_set hN hi hx h.run hs hf)
theorem pgt_nm (i : Nat) {x : Str} (hN : X.N.Nodup) (hi : X.N[i]? = some x := by rfl) (hx : Loc X.env.scope x := by first | exact Or.inl rfl | exact Or.inr rfl) (hf : X.fn x = true ∨ X.env.scope.names.lookup x = some .local := by first | exact .inl rfl | exact .inr rfl) : PG X (.Name x pos) ((Tgt.nm i).g X.K) := pg_name hN hi hx hf
theorem pgs_nm (i : Nat) {x : Str} {is : List Nat} {es : List Expr} (hN : X.N.Nodup) (k : PGs X es (gNs is)) (hi : X.N[i]? = some x := by rfl) (hx : Loc X.env.scope x := by first | exact Or.inl rfl | exact Or.inr rfl) (hf : X.fn x = true ∨ X.env.scope.names.lookup x = some .local := by first | exact .inl rfl | exact .inr rfl)
    (hs : (assignEach (.Name x pos :: es) X.env).map (·.2) = assign (.Name x pos) X.env :: (assignEach es X.env).map (·.2) := by rfl) : PGs X (.Name x pos :: es) (gNs (i :: is)) := pgs_cons (pg_name hN hi hx hf) k hs
theorem pgs_end : PGs X [] (gNs []) := pgs_nil
theorem pgt_tp {is : List Nat} {es : List Expr} {k : Nat} (hc : X.calm = true) (h : PGs X es (gNs is)) (hn : (assignEach es X.env).length = is.length := by rfl) (hst : (assignEach es X.env).findIdx? (·.1) = none := by rfl) : PG X (.Tuple es k pos) ((Tgt.tp is).g X.K) := pg_tup hc h hn hst
theorem pds_p2 (rs : List Nat) (i j : Nat) {x y : Str} {a b : Expr} {m : MA} {px py pt pt2 : Pos} {kt k2 : Nat} (hc : X.calm = true) (hN : X.N.Nodup) (h : PDA X [a, b] m) (hi : X.N[i]? = some x := by rfl) (hj : X.N[j]? = some y := by rfl) (hij : i ≠ j := by decide)
    (hx : X.env.scope.names.lookup x = some .local := by rfl) (hy : X.env.scope.names.lookup y = some .local := by rfl) (hw : swappedStores [.Tuple [.Name x px, .Name y py] kt pt] (.Tuple [a, b] k2 pt2) X.env = pure (some [x, y]) := by rfl)
    (hs : swapsWithSole [.Tuple [.Name x px, .Name y py] kt pt] (.Tuple [a, b] k2 pt2) pos.line X.env = pure false := by rfl) : PDS X (.Assign [.Tuple [.Name x px, .Name y py] kt pt] (.Tuple [a, b] k2 pt2) pos) (mPar2 rs i j m) :=
  pds_par2 rs h (ps_par hc hN hi hj hij hx hy h.run hw hs)
theorem pds_p3 (rs : List Nat) (i j l : Nat) {x y z : Str} {a b c : Expr} {m : MA} {px py pz pt pt2 : Pos} {kt k2 : Nat} (hc : X.calm = true) (hN : X.N.Nodup) (h : PDA X [a, b, c] m) (hi : X.N[i]? = some x := by rfl) (hj : X.N[j]? = some y := by rfl) (hl : X.N[l]? = some z := by rfl) (hij : i ≠ j := by decide) (hil : i ≠ l := by decide) (hjl : j ≠ l := by decide)
    (hx : X.env.scope.names.lookup x = some .local := by rfl) (hy : X.env.scope.names.lookup y = some .local := by rfl) (hz : X.env.scope.names.lookup z = some .local := by rfl)
    (hw : swappedStores [.Tuple [.Name x px, .Name y py, .Name z pz] kt pt] (.Tuple [a, b, c] k2 pt2) X.env = pure (some [x, y, z]) := by rfl)
    (hs : swapsWithSole [.Tuple [.Name x px, .Name y py, .Name z pz] kt pt] (.Tuple [a, b, c] k2 pt2) pos.line X.env = pure false := by rfl) : PDS X (.Assign [.Tuple [.Name x px, .Name y py, .Name z pz] kt pt] (.Tuple [a, b, c] k2 pt2) pos) (mPar3 rs i j l m) :=
  pds_par3 rs h (ps_par3 hc hN hi hj hl hij hil hjl hx hy hz h.run hw hs)
/-- any targets (among them cells) = a tuple -/
theorem pds_tt (rs : List Nat) {t : Tgt} {tg : Expr} (h : PD X e me) (hg : PG X tg (t.g X.K)) (hs : swapsWithSole [tg] e pos.line X.env = pure false := by rfl) (hw : swappedStores [tg] e X.env = pure none := by rfl)
    (h1 : (assignEach [tg] X.env).map (·.2) = [assign tg X.env] := by rfl) : PDS X (.Assign [tg] e pos) (mAsgT rs t me) := pds_asgT rs h (ps_asg h.run hg hs hw h1)
theorem mono_var (i : Nat) : Mono (mVar i) := fun env Q Q' k ⟨d, a, q⟩ => ⟨d, a, k d q⟩
end
theorem Fun.kwb {K : PySem.W.Frag} {x qual : Str} {st : Stmt} {f : Addr} {fd : FuncData} {ps : List Str} (F : Fun K x qual st f fd)
    (h : ∀ (kV doc pm : Value) (an : Option Addr) (cdv ct : Value) (ws : List Value), ws.length = ps.length → bindArgs (PySem.W.fnOf x qual (defArgs st) (defBody st) (defScope st) .none kV doc pm an cdv ct) ⟨[], ps.zip ws⟩ = pure (ps.zip ws)) : KwB K fd ps ps id id := by
  obtain ⟨oc, od, kV, doc, pm, an, cdv, ct, osl, rfl, lk, hcd⟩ := F.ex
  exact ⟨fun s ws _ hl _ => .of_eq (h kV doc pm an cdv ct ws hl), fun r => r⟩

/-! ### the purse -/
theorem Tr.drawn {z : Pz} {C H H' : Hp} (o : Ok z C H) (keep : ∀ a u, H a = some u → a ≠ z.p → a ≠ z.g → H' a = some u)
    (at_ : ∃ (gs cs : List Int) (s k : Int), H' z.p = some (.lst [.ref z.g, .ref z.c, .int s, .int k]) ∧ H' z.g = some (.lst (gs.map V.int)) ∧ H' z.c = some (.lst (cs.map V.int)) ∧ gs.length ≤ 64 ∧ cs ≠ [] ∧ cs.length ≤ 64) : Tr z C H C H' :=
  ⟨Ex.refl C, ⟨fun a u e => keep a u (o.ex a u e) (fun q => by rw [q, o.pur.cp] at e; cases e) (fun q => by rw [q, o.pur.cg] at e; cases e), at_, o.pur.cp, o.pur.cg, o.pur.cc, o.pur.pg, o.pur.pc, o.pur.gc⟩, keep, fun _ _ => rfl⟩
/-- a draw: any number below the bound -/
def spDraw : SpD := fun ds T => ∃ k, ds = [.pur, .int k] ∧ 1 ≤ k ∧ k < 1073741824 ∧ ∀ i, 0 ≤ i → i < k → T (.int i)
theorem shaped_ints : ∀ ns : List Int, SeqAt.shaped (.list (ns.map PyData.int)) = true := fun ns => by
  have h1 : ∀ ns : List Int, PyData.canLayAll0 (ns.map PyData.int) = true := by
    intro ns
    induction ns with
    | nil => rfl
    | cons n ns ih => simp [PyData.canLayAll0, PyData.canLay0, ih]
  have h2 : ∀ ns : List Int, PyData.depthAll (ns.map PyData.int) = 0 := by
    intro ns
    induction ns with
    | nil => rfl
    | cons n ns ih => simp [PyData.depthAll, PyData.depth, ih]
  simp [SeqAt.shaped, PyData.canLay0, PyData.depth, h1, h2]
theorem dpAll_ints {K : PySem.W.Frag} {H : Hp} : ∀ ns : List Int, DpAll K H (ns.map V.int) (ns.map PyData.int)
  | [] => .nil
  | n :: ns => .cons (.int n) (dpAll_ints ns)
theorem fmod_pos {i j : Int} (h : 0 < j) : 0 ≤ i % j ∧ i % j < j := ⟨Int.emod_nonneg i (by omega), Int.emod_lt_of_pos i h⟩
section
variable {P : Program} {w : World} {K : PySem.W.Frag} {mg : Str → Option Value} {base : Heap} {f : Addr} {fd : FuncData} {x : Str} {st : Stmt} {n0 n1 n2 n3 n4 n5 : Str}
end
end BV

/-! What is known of the defs that a def calls. -/
namespace BV
open PySem PySem.Spec PyProof.Rows L2 Evl

/-- the def x is there and keeps its promise -/
structure Kn (P : Program) (w : World) (K : PySem.W.Frag) (mg : Str → Option Value) (base : Heap) (x : Str) (k : Nat) (ps : List Str) (sp : SpD) : Prop where
  ex : ∃ (f : Addr) (fd : FuncData), FnD P w K mg base k f fd ps sp ∧ Binds K fd ps [] ∧ PySem.W.keepIn K (.ref f) = true ∧ mg x = some (.ref f)
structure KnK (P : Program) (w : World) (K : PySem.W.Frag) (mg : Str → Option Value) (base : Heap) (x : Str) (k : Nat) (ps : List Str) (sp : SpD) : Prop where
  ex : ∃ (f : Addr) (fd : FuncData), FnD P w K mg base k f fd ps sp ∧ Binds K fd ps [] ∧ PySem.W.keepIn K (.ref f) = true ∧ mg x = some (.ref f) ∧ KwB K fd ps ps id id
section
variable {P : Program} {w : World} {K : PySem.W.Frag} {mg : Str → Option Value} {base : Heap} {x : Str} {j k : Nat} {ps : List Str} {sp sp' : SpD}
theorem Kn.says (F : Kn P w K mg base x k ps sp) (h : ∀ ds T, sp' ds T → sp ds T) : Kn P w K mg base x k ps sp' := by
  obtain ⟨f, fd, a, b⟩ := F.ex
  exact ⟨f, fd, a.says h, b⟩
theorem KnK.says (F : KnK P w K mg base x k ps sp) (h : ∀ ds T, sp' ds T → sp ds T) : KnK P w K mg base x k ps sp' := by
  obtain ⟨f, fd, a, b⟩ := F.ex
  exact ⟨f, fd, a.says h, b⟩
theorem KnK.kn (F : KnK P w K mg base x k ps sp) : Kn P w K mg base x k ps sp := by
  obtain ⟨f, fd, a, b, c, d, e⟩ := F.ex
  exact ⟨f, fd, a, b, c, d⟩
end
section
variable {X : Cx} {j k : Nat} {ps : List Str} {sp : SpD} {x : Str} {p pos : Pos} {e : Expr} {es : List Expr} {m : MA}
theorem pd_callN (G : Kn X.prog X.w X.K X.mg X.base x j ps sp) (hr : Room k X.A) (hj : j ≤ k) (hgd : X.A.guards = some []) (h : PDA X (e :: es) m) (hg : Gl X x := by rfl) (hdb : (x == ("__debug__" : Str)) = false := by decide) (he : starEach (e :: es) X.env = (false, eval e X.env) :: starEach es X.env := by rfl) (hpl : (backTo pos (starEach es X.env)).any (·.1) = false := by rfl) :
    PD X (.Call (.Name x p) (e :: es) [] pos) (mCall sp m) := by
  obtain ⟨f, fd, F, b, kp, gm⟩ := G.ex
  exact pd_call F (hr.mono hj) hgd kp b gm h hg hdb he hpl
theorem pd_callNK {kws : List Keyword} (G : KnK X.prog X.w X.K X.mg X.base x j ps sp) (hr : Room k X.A) (hj : j ≤ k) (hgd : X.A.guards = some []) (h : PDK X kws m) (hall : (backToKw pos (keywordEach kws X.env)).all (·.1.isSome) = true := by rfl) (hks : (backToKw pos (keywordEach kws X.env)).filterMap (·.1) = ps := by rfl)
    (hg : Gl X x := by rfl) (hdb : (x == ("__debug__" : Str)) = false := by decide) (hpl : ((backTo pos (starEach [] X.env)).any (·.1) || (backToKw pos (keywordEach kws X.env)).any (·.1.isNone)) = false := by rfl) :
    PD X (.Call (.Name x p) [] kws pos) (mCall sp m) := by
  obtain ⟨f, fd, F, b, kp, gm, kb⟩ := G.ex
  exact pd_callK F (hr.mono hj) hgd kp kb gm h hall hks hg hdb hpl
end
section
variable {X : Cx} {elt tg iter : Expr} {ifs : List Expr} {scope : Scope} {own : List (Str × Nat)} {pos : Pos} {mi : MI} {t : Tgt} {mt : MT} {me : ME}
theorem pdo_lcN (hc : X.calm = true) (hN : X.N.Nodup) (hi : PDI X tg iter mi) (ok : BlkOk X.N X.env.scope scope own) (ht : ∀ i ∈ t.sl, i ∈ own.map (·.2))
    (hg : ∀ (s : Shared) (H : Hp) (C : Addr) (cl : List (Str × Addr)) (fp : List Addr), PG (X.blk s H scope (compEnvC scope cl C X.env) fp) tg (t.g X.K)) (hts : ∀ (s : Shared) (H : Hp) (C : Addr) (cl : List (Str × Addr)) (fp : List Addr), PDTs (X.blk s H scope (compEnvC scope cl C X.env) fp) ifs mt)
    (he : ∀ (s : Shared) (H : Hp) (C : Addr) (cl : List (Str × Addr)) (fp : List Addr), PD (X.blk s H scope (compEnvC scope cl C X.env) fp) elt me) (hs : ∀ x, foldedSetIterable iter X.env x = pure x := by intro _; rfl) :
    PDO X (.ListComp elt [⟨tg, iter, ifs, 0⟩] scope pos) (moLc (own.map (·.2)) mi t mt me) :=
  pdo_lc hc hN hi ok ht hg hts he hs (hts X.s_0 X.H_0 0 [] []).mono (he X.s_0 X.H_0 0 [] []).mono
theorem pds_setLcON (rs : List Nat) {i : Nat} {y : Str} {py spos : Pos} (hc : X.calm = true) (hN : X.N.Nodup) (hy : X.N[i]? = some y) (hyl : X.env.scope.names.lookup y = some .local)
    (hsw : swapsWith (.ListComp elt [⟨tg, iter, ifs, 0⟩] scope pos) (some (.Name y py)) spos.line X.env = pure true) (hi : PDI X tg iter mi) (ok : BlkOk X.N X.env.scope scope own) (ht : ∀ i ∈ t.sl, i ∈ own.map (·.2))
    (hg : ∀ (s : Shared) (H : Hp) (C : Addr) (cl : List (Str × Addr)) (fp : List Addr), PG (X.blk s H scope (compEnvC scope cl C X.env) fp) tg (t.g X.K)) (hts : ∀ (s : Shared) (H : Hp) (C : Addr) (cl : List (Str × Addr)) (fp : List Addr), PDTs (X.blk s H scope (compEnvC scope cl C X.env) fp) ifs mt)
    (he : ∀ (s : Shared) (H : Hp) (C : Addr) (cl : List (Str × Addr)) (fp : List Addr), PD (X.blk s H scope (compEnvC scope cl C X.env) fp) elt me) (hs : ∀ x, foldedSetIterable iter X.env x = pure x := by intro _; rfl) :
    PDS X (.Assign [.Name y py] (.ListComp elt [⟨tg, iter, ifs, 0⟩] scope pos) spos) (mAsgO rs i (moLc (own.map (·.2)) mi t mt me)) :=
  pds_setLcO rs hc hN hy hyl hsw hi ok ht hg hts he hs (hts X.s_0 X.H_0 0 [] []).mono (he X.s_0 X.H_0 0 [] []).mono
theorem pds_setLcSN (rs : List Nat) {i : Nat} {y : Str} {py spos : Pos} (hc : X.calm = true) (hN : X.N.Nodup) (hy : X.N[i]? = some y) (hyl : X.env.scope.names.lookup y = some .local)
    (hsw : swapsWith (.ListComp elt [⟨tg, iter, ifs, 0⟩] scope pos) (some (.Name y py)) spos.line X.env = pure true) (hi : PDI X tg iter mi) (ok : BlkOk X.N X.env.scope scope own) (ht : ∀ i ∈ t.sl, i ∈ own.map (·.2))
    (hg : ∀ (s : Shared) (H : Hp) (C : Addr) (cl : List (Str × Addr)) (fp : List Addr), PG (X.blk s H scope (compEnvC scope cl C X.env) fp) tg (t.g X.K)) (hts : ∀ (s : Shared) (H : Hp) (C : Addr) (cl : List (Str × Addr)) (fp : List Addr), PDTs (X.blk s H scope (compEnvC scope cl C X.env) fp) ifs mt)
    (he : ∀ (s : Shared) (H : Hp) (C : Addr) (cl : List (Str × Addr)) (fp : List Addr), PD (X.blk s H scope (compEnvC scope cl C X.env) fp) elt me) (hs : ∀ x, foldedSetIterable iter X.env x = pure x := by intro _; rfl) :
    PDS X (.Assign [.Name y py] (.ListComp elt [⟨tg, iter, ifs, 0⟩] scope pos) spos) (mAsgS rs i (moLc (own.map (·.2)) mi t mt me)) :=
  pds_setLcS rs hc hN hy hyl hsw hi ok ht hg hts he hs (hts X.s_0 X.H_0 0 [] []).mono (he X.s_0 X.H_0 0 [] []).mono
end
end BV

/-! What repr shows: sizes, and that unlike data look unlike. -/
namespace BV
open PySem PySem.Spec PyProof.Rows L2 Evl

theorem cps_len (x : Str) : x.length = x.cps.toList.length := by
  rw [Array.length_toList]
  rfl
def txt (d : D) : List Nat := d.py.shown.cps.toList
/-- of at most k depth and m signs -/
structure PL (k m : Nat) (d : D) : Prop where
  ch : ∀ c ∈ txt d, c < 1114112
  pf : d.pf = true
  sh : d.py.showable = true
  cl : d.py.canLay0 = true
  dp : d.py.depth ≤ k
  ln : d.py.shown.length ≤ m
theorem PL.mono {k m k' m' : Nat} {d : D} (h : PL k m d) (a : k ≤ k') (b : m ≤ m') : PL k' m' d := ⟨h.ch, h.pf, h.sh, h.cl, Nat.le_trans h.dp a, Nat.le_trans h.ln b⟩
theorem PL.eq {k m : Nat} {d : D} (h : PL k m d) (a : k ≤ 64) : okEq d = true := by
  have := h.dp
  simp only [okEq, SeqAt.shaped, h.pf, h.cl, Bool.true_and, decide_eq_true_eq]
  omega
theorem PL.repr {k m : Nat} {d : D} (h : PL k m d) (a : k ≤ 60) (b : m ≤ 4000000) : okRepr d = true := by
  have := h.dp
  have := h.ln
  simp only [okRepr, h.pf, h.sh, Bool.true_and, Bool.and_eq_true, decide_eq_true_eq, szOk]
  omega
theorem PL.bl (b : Bool) : PL 0 5 (.bl b) := ⟨by cases b <;> decide, rfl, rfl, rfl, Nat.le_refl _, by cases b <;> decide⟩
/-- what is shown can be looked at -/
theorem PL.seen {k m : Nat} {d : D} (h : PL k m d) : okEq (.str d.py.shown) = true := by
  have h1 : d.py.shown.cps.all (· < 0x110000) = true := by
    rw [Array.all_eq_true_iff_forall_mem]
    intro c hc
    have := h.ch c (Array.mem_toList_iff.mpr hc)
    simp only [decide_eq_true_eq]
    omega
  show (true && (d.py.shown.cps.all (· < 0x110000) && decide (0 ≤ 64))) = true
  rw [h1]
  rfl
/-! ### texts -/
theorem txt_len (d : D) : d.py.shown.length = (txt d).length := cps_len _
/-- a number's signs -/
theorem txt_int (i : Int) : txt (.int i) = if i < 0 then 45 :: TL.numL i.natAbs else TL.numL i.natAbs := by
  unfold txt
  have e : (PyData.int i).shown = Str.ofString (toString i) := by simp only [PyData.shown]
  show (PyData.int i).shown.cps.toList = _
  rw [e, signs_ofString, Int.toString_eq_repr, Int.repr_eq_if]
  by_cases h : 0 ≤ i
  · rw [if_pos h, if_neg (by omega), Nat.toList_repr]
    have : i.toNat = i.natAbs := by omega
    rw [this]
    rfl
  · rw [if_neg h, if_pos (by omega), String.toList_append, List.map_append, Nat.toList_repr]
    have : (-i).toNat = i.natAbs := by omega
    rw [this]
    rfl
theorem txt_int_inj {i j : Int} (h : txt (.int i) = txt (.int j)) : i = j := by
  rw [txt_int, txt_int] at h
  by_cases hi : i < 0
  · by_cases hj : j < 0
    · rw [if_pos hi, if_pos hj] at h
      have := TL.numL_inj (List.cons.inj h).2
      omega
    · rw [if_pos hi, if_neg hj] at h
      exact absurd (h ▸ List.mem_cons_self) (TL.numL_free (n := j.natAbs) (s := 45) (by omega))
  · by_cases hj : j < 0
    · rw [if_neg hi, if_pos hj] at h
      exact absurd (h ▸ List.mem_cons_self) (TL.numL_free (n := i.natAbs) (s := 45) (by omega))
    · rw [if_neg hi, if_neg hj] at h
      have := TL.numL_inj h
      omega
theorem txt_int_free {i : Int} {s : Nat} (h : s < 45 ∨ (45 < s ∧ s < 48) ∨ 57 < s) : s ∉ txt (.int i) := by
  rw [txt_int]
  have := TL.numL_free (n := i.natAbs) (s := s) (by omega)
  split
  · simp only [List.mem_cons, not_or]
    exact ⟨by omega, this⟩
  · exact this
theorem txt_int_ne (i : Int) : txt (.int i) ≠ [] := by
  rw [txt_int]
  split
  · simp
  · exact TL.numL_ne _
theorem PL.int {i : Int} (h : i.natAbs ≤ 1000000001) : PL 0 11 (.int i) := by
  refine ⟨fun c hc => ?_, rfl, ?_, rfl, Nat.le_refl _, ?_⟩
  · by_cases h1 : c < 1114112
    · exact h1
    · exact absurd hc (txt_int_free (by omega))
  · have : i.natAbs.log2 < 1920 := by
      by_cases h0 : i.natAbs = 0
      · rw [h0]; decide
      · have h2 : i.natAbs < 2 ^ 40 := Nat.lt_of_le_of_lt h (by decide)
        have := (Nat.log2_lt h0).mpr h2
        omega
    simp only [D.py, PyData.showable, decide_eq_true_eq]
    exact this
  · rw [txt_len, txt_int]
    have := TL.numL_len (n := i.natAbs) (k := 10) (by decide) (by omega)
    split <;> (try simp only [List.length_cons]) <;> omega
/-- small letters -/
def Low (s : Str) : Prop := ∀ c ∈ s.cps.toList, 97 ≤ c ∧ c ≤ 122
theorem low_char {c : Nat} (h : 97 ≤ c ∧ c ≤ 122) : Builtin.Str.reprChar 39 c = [c] := by
  have : ∀ c < 123, 97 ≤ c → Builtin.Str.reprChar 39 c = [c] := by decide +kernel
  exact this c (by omega) h.1
theorem txt_low {s : Str} (h : Low s) : txt (.str s) = 39 :: (s.cps.toList ++ [39]) := by
  have hq : reprQuote s = 39 := by
    unfold reprQuote
    have : s.cps.contains 39 = false := by
      rw [Bool.eq_false_iff]
      intro hc
      have := h 39 (by rw [Array.contains_iff_mem] at hc; exact Array.mem_toList_iff.mpr hc)
      omega
    rw [this]
    rfl
  show (reprText s).cps.toList = _
  unfold reprText
  rw [hq, Array.toList_push, ← Array.foldl_toList]
  have : ∀ (l : List Nat) (a : Array Nat), (∀ c ∈ l, 97 ≤ c ∧ c ≤ 122) → (l.foldl (fun out c => out ++ (Builtin.Str.reprChar 39 c).toArray) a).toList = a.toList ++ l := by
    intro l
    induction l with
    | nil => intro a _; simp
    | cons c l ih =>
      intro a hl
      rw [List.foldl_cons, ih _ fun x hx => hl x (by simp [hx]), low_char (hl c (by simp))]
      simp
  rw [this _ _ h]
  simp
theorem PL.str {s : Str} (h : Low s) : PL 0 (s.length + 2) (.str s) := by
  refine ⟨fun c hc => ?_, rfl, rfl, ?_, Nat.le_refl _, ?_⟩
  · rw [txt_low h] at hc
    simp only [List.mem_cons, List.mem_append, List.not_mem_nil, or_false] at hc
    rcases hc with hc | hc | hc
    · omega
    · have := h c hc
      omega
    · omega
  · show s.cps.all (· < 0x110000) = true
    rw [Array.all_eq_true_iff_forall_mem]
    intro c hc
    have := h c (Array.mem_toList_iff.mpr hc)
    simp only [decide_eq_true_eq]
    omega
  · rw [txt_len, txt_low h, cps_len]
    simp
/-! ### tuples, lists -/
theorem pys_map (ds : List D) : D.pys ds = ds.map D.py := by
  induction ds with
  | nil => rfl
  | cons d ds ih => simp only [D.pys, List.map_cons, ih]
theorem shownAll_map (ds : List PyData) : PyData.shownAll ds = ds.map PyData.shown := by
  induction ds with
  | nil => rfl
  | cons d ds ih => simp only [PyData.shownAll, List.map_cons, ih]
theorem all_pf {ds : List D} (h : ∀ d ∈ ds, d.pf = true) : D.pfs ds = true := by
  induction ds with
  | nil => rfl
  | cons d ds ih => simp only [D.pfs, h d (by simp), ih fun x hx => h x (by simp [hx]), Bool.and_self]
theorem all_sh {ds : List PyData} (h : ∀ d ∈ ds, d.showable = true) : PyData.showableAll ds = true := by
  induction ds with
  | nil => rfl
  | cons d ds ih => simp only [PyData.showableAll, h d (by simp), ih fun x hx => h x (by simp [hx]), Bool.and_self]
theorem all_cl {ds : List PyData} (h : ∀ d ∈ ds, d.canLay0 = true) : PyData.canLayAll0 ds = true := by
  induction ds with
  | nil => rfl
  | cons d ds ih => simp only [PyData.canLayAll0, h d (by simp), ih fun x hx => h x (by simp [hx]), Bool.and_self]
theorem all_dp {k : Nat} {ds : List PyData} (h : ∀ d ∈ ds, d.depth ≤ k) : PyData.depthAll ds ≤ k := by
  induction ds with
  | nil => exact Nat.zero_le _
  | cons d ds ih =>
    have h1 := h d (by simp)
    have h2 := ih fun x hx => h x (by simp [hx])
    simp only [PyData.depthAll]
    omega
def joinL : List (List Nat) → List Nat
  | [] => []
  | [t] => t
  | t :: u :: r => t ++ 44 :: 32 :: joinL (u :: r)
theorem joinL_of : ∀ ts : List Str, (Str.join (Str.ofString ", ") ts).cps.toList = joinL (ts.map fun t => t.cps.toList)
  | [] => rfl
  | [t] => rfl
  | t :: u :: r => by
    have ih := joinL_of (u :: r)
    show ((t ++ Str.ofString ", ") ++ Str.join (Str.ofString ", ") (u :: r)).cps.toList = _
    rw [cps_toList_append, cps_toList_append, ih]
    simp only [List.map_cons, joinL]
    rw [List.append_assoc]
    rfl
theorem joinL_len {m : Nat} : ∀ ts : List (List Nat), (∀ t ∈ ts, t.length ≤ m) → (joinL ts).length ≤ ts.length * (m + 2)
  | [], _ => by simp [joinL]
  | [t], h => by
    have := h t (by simp)
    simp only [joinL, List.length_cons, List.length_nil]
    omega
  | t :: u :: r, h => by
    have ih := joinL_len (u :: r) fun x hx => h x (by simp [hx])
    have := h t (by simp)
    simp only [joinL, List.length_cons, List.length_append] at ih ⊢
    rw [Nat.add_mul (r.length + 1) 1]
    omega
theorem txt_tup (ds : List D) : txt (.tup ds) = 40 :: (joinL (ds.map txt) ++ if ds.length = 1 then [44, 41] else [41]) := by
  show (tupleText (PyData.shownAll (D.pys ds))).cps.toList = _
  unfold tupleText
  rw [cps_toList_append, cps_toList_append, joinL_of, shownAll_map, pys_map]
  simp only [List.map_map, List.length_map]
  by_cases h : ds.length = 1
  · rw [if_pos (by rw [h]; rfl), if_pos h, List.append_assoc]
    rfl
  · rw [if_neg (by simpa using h), if_neg h, List.append_assoc]
    rfl
theorem textFrom_up {m : Nat} : ∀ (ts : List Str) (k : Nat) (acc : Str), (∀ t ∈ ts, t.length ≤ m) → (textFrom k acc ts).length ≤ acc.length + ts.length * (m + 2)
  | [], k, acc, _ => by simp [textFrom]
  | t :: ts, k, acc, h => by
    have ih := textFrom_up ts (k + 1) (acc ++ (if k > 0 then ", " else "" : String) ++ t) fun x hx => h x (by simp [hx])
    have h1 := h t (by simp)
    have h2 : (acc ++ (if k > 0 then ", " else "" : String) ++ t : Str).length ≤ acc.length + 2 + t.length := by
      rw [strLen_append, strLen_append]
      have : (Str.ofString (if k > 0 then ", " else "")).length ≤ 2 := by split <;> decide
      omega
    show (textFrom (k + 1) (acc ++ (if k > 0 then ", " else "" : String) ++ t) ts).length ≤ _
    simp only [List.length_cons]
    rw [Nat.add_mul ts.length 1]
    omega
theorem joinL_mem {c : Nat} : ∀ {ts : List (List Nat)}, c ∈ joinL ts → c = 44 ∨ c = 32 ∨ ∃ t ∈ ts, c ∈ t
  | [], h => by simp [joinL] at h
  | [t], h => .inr (.inr ⟨t, by simp, h⟩)
  | t :: u :: r, h => by
    simp only [joinL, List.mem_append, List.mem_cons] at h
    rcases h with h | h | h | h
    · exact .inr (.inr ⟨t, by simp, h⟩)
    · exact .inl h
    · exact .inr (.inl h)
    · rcases joinL_mem h with h | h | ⟨x, h1, h2⟩
      · exact .inl h
      · exact .inr (.inl h)
      · exact .inr (.inr ⟨x, by simp only [List.mem_cons] at h1 ⊢; exact .inr h1, h2⟩)
theorem textFrom_mem {c : Nat} : ∀ {ts : List Str} {k : Nat} {acc : Str}, c ∈ (textFrom k acc ts).cps.toList → c ∈ acc.cps.toList ∨ c = 44 ∨ c = 32 ∨ ∃ t ∈ ts, c ∈ t.cps.toList
  | [], k, acc, h => .inl h
  | t :: ts, k, acc, h => by
    rcases textFrom_mem (ts := ts) h with h | h | h | ⟨x, h1, h2⟩
    · rw [cps_toList_append, cps_toList_append, List.mem_append, List.mem_append] at h
      rcases h with (h | h) | h
      · exact .inl h
      · have : ∀ b : Bool, c ∈ (Str.ofString (if b = true then ", " else "")).cps.toList → c = 44 ∨ c = 32 := by
          intro b hb
          cases b
          · have e : (Str.ofString (if false = true then ", " else "")).cps.toList = [] := by decide +kernel
            rw [e] at hb
            cases hb
          · have e : (Str.ofString (if true = true then ", " else "")).cps.toList = [44, 32] := by decide +kernel
            rw [e] at hb
            simpa using hb
        have := this (decide (k > 0)) (by simpa using h)
        rcases this with h | h
        · exact .inr (.inl h)
        · exact .inr (.inr (.inl h))
      · exact .inr (.inr (.inr ⟨t, by simp, h⟩))
    · exact .inr (.inl h)
    · exact .inr (.inr (.inl h))
    · exact .inr (.inr (.inr ⟨x, by simp [h1], h2⟩))
theorem PL.tup {k m : Nat} {ds : List D} (h : ∀ d ∈ ds, PL k m d) : PL (k + 1) (3 + ds.length * (m + 2)) (.tup ds) := by
  refine ⟨fun c hc => ?_, all_pf fun d hd => (h d hd).pf, ?_, ?_, ?_, ?_⟩
  · rw [txt_tup] at hc
    simp only [List.mem_cons, List.mem_append] at hc
    rcases hc with hc | hc | hc
    · omega
    · rcases joinL_mem hc with h1 | h1 | ⟨t, h1, h2⟩
      · omega
      · omega
      · obtain ⟨d, hd, rfl⟩ := List.mem_map.mp h1
        exact (h d hd).ch c h2
    · split at hc <;> simp only [List.mem_cons, List.not_mem_nil, or_false] at hc <;> omega
  · simp only [D.py, PyData.showable, pys_map]
    exact all_sh fun p hp => by obtain ⟨d, hd, rfl⟩ := List.mem_map.mp hp; exact (h d hd).sh
  · simp only [D.py, PyData.canLay0, pys_map]
    exact all_cl fun p hp => by obtain ⟨d, hd, rfl⟩ := List.mem_map.mp hp; exact (h d hd).cl
  · simp only [D.py, PyData.depth, pys_map]
    have := all_dp (k := k) (ds := ds.map D.py) fun p hp => by obtain ⟨d, hd, rfl⟩ := List.mem_map.mp hp; exact (h d hd).dp
    omega
  · rw [txt_len, txt_tup]
    have := joinL_len (m := m) (ds.map txt) fun t ht => by obtain ⟨d, hd, rfl⟩ := List.mem_map.mp ht; rw [← txt_len]; exact (h d hd).ln
    rw [List.length_map] at this
    simp only [List.length_cons, List.length_append]
    split <;> simp only [List.length_cons, List.length_nil] <;> omega
theorem PL.lst {k m : Nat} {ds : List D} (h : ∀ d ∈ ds, PL k m d) : PL (k + 1) (2 + ds.length * (m + 2)) (.lst ds) := by
  refine ⟨fun c hc => ?_, all_pf fun d hd => (h d hd).pf, ?_, ?_, ?_, ?_⟩
  · have hc : c ∈ (textFrom 0 (Str.ofString "[") (PyData.shownAll (D.pys ds)) ++ Str.ofString "]").cps.toList := hc
    rw [cps_toList_append, List.mem_append] at hc
    have e1 : (Str.ofString "[").cps.toList = [91] := by decide +kernel
    have e2 : (Str.ofString "]").cps.toList = [93] := by decide +kernel
    rcases hc with hc | hc
    · rcases textFrom_mem hc with h1 | h1 | h1 | ⟨t, h1, h2⟩
      · rw [e1] at h1
        simp only [List.mem_cons, List.not_mem_nil, or_false] at h1
        omega
      · omega
      · omega
      · rw [shownAll_map, pys_map] at h1
        obtain ⟨p, hp, rfl⟩ := List.mem_map.mp h1
        obtain ⟨d, hd, rfl⟩ := List.mem_map.mp hp
        exact (h d hd).ch c h2
    · rw [e2] at hc
      simp only [List.mem_cons, List.not_mem_nil, or_false] at hc
      omega
  · simp only [D.py, PyData.showable, pys_map]
    exact all_sh fun p hp => by obtain ⟨d, hd, rfl⟩ := List.mem_map.mp hp; exact (h d hd).sh
  · simp only [D.py, PyData.canLay0, pys_map]
    exact all_cl fun p hp => by obtain ⟨d, hd, rfl⟩ := List.mem_map.mp hp; exact (h d hd).cl
  · simp only [D.py, PyData.depth, pys_map]
    have := all_dp (k := k) (ds := ds.map D.py) fun p hp => by obtain ⟨d, hd, rfl⟩ := List.mem_map.mp hp; exact (h d hd).dp
    omega
  · show (textFrom 0 (Str.ofString "[") (PyData.shownAll (D.pys ds)) ++ Str.ofString "]").length ≤ _
    rw [strLen_append, shownAll_map, pys_map]
    have := textFrom_up (m := m) ((ds.map D.py).map PyData.shown) 0 (Str.ofString "[") fun t ht => by
      obtain ⟨p, hp, rfl⟩ := List.mem_map.mp ht
      obtain ⟨d, hd, rfl⟩ := List.mem_map.mp hp
      exact (h d hd).ln
    rw [List.length_map, List.length_map] at this
    have e1 : (Str.ofString "[").length = 1 := rfl
    have e2 : (Str.ofString "]").length = 1 := rfl
    omega
/-! ### unlike values look unlike -/
/-- cut at the first comma or bracket -/
theorem cut_eq {c d : Nat} (hc : c = 44 ∨ c = 41) (hd : d = 44 ∨ d = 41) : ∀ {a b r s : List Nat}, (∀ x ∈ a, x ≠ 44 ∧ x ≠ 41) → (∀ x ∈ b, x ≠ 44 ∧ x ≠ 41) → a ++ c :: r = b ++ d :: s → a = b ∧ c = d ∧ r = s
  | [], [], r, s, _, _, h => by
    simp only [List.nil_append, List.cons.injEq] at h
    exact ⟨rfl, h.1, h.2⟩
  | [], y :: b, r, s, _, hb, h => by
    simp only [List.nil_append, List.cons_append, List.cons.injEq] at h
    have := hb y (by simp)
    omega
  | x :: a, [], r, s, ha, _, h => by
    simp only [List.nil_append, List.cons_append, List.cons.injEq] at h
    have := ha x (by simp)
    omega
  | x :: a, y :: b, r, s, ha, hb, h => by
    simp only [List.cons_append, List.cons.injEq] at h
    obtain ⟨e1, e2, e3⟩ := cut_eq hc hd (fun z hz => ha z (by simp [hz])) (fun z hz => hb z (by simp [hz])) h.2
    exact ⟨by rw [h.1, e1], e2, e3⟩
def Sep (t : List Nat) : Prop := t ≠ [] ∧ ∀ x ∈ t, x ≠ 44 ∧ x ≠ 41
theorem join_inj : ∀ {ts us : List (List Nat)}, (∀ t ∈ ts, Sep t) → (∀ t ∈ us, Sep t) → joinL ts ++ [41] = joinL us ++ [41] → ts = us
  | [], [], _, _, _ => rfl
  | [], [u], _, hu, h => by
    have := (hu u (by simp)).1
    simp only [joinL, List.nil_append] at h
    have hl := congrArg List.length h
    simp only [List.length_append, List.length_cons, List.length_nil] at hl
    exact absurd (List.eq_nil_of_length_eq_zero (by omega)) this
  | [], u :: v :: r, _, hu, h => by
    have hl := congrArg List.length h
    simp only [joinL, List.length_append, List.length_cons, List.length_nil] at hl
    omega
  | [t], [], ht, _, h => by
    have := (ht t (by simp)).1
    simp only [joinL, List.nil_append] at h
    have hl := congrArg List.length h
    simp only [List.length_append, List.length_cons, List.length_nil] at hl
    exact absurd (List.eq_nil_of_length_eq_zero (by omega)) this
  | t :: v :: r, [], ht, _, h => by
    have hl := congrArg List.length h
    simp only [joinL, List.length_append, List.length_cons, List.length_nil] at hl
    omega
  | [t], [u], ht, hu, h => by
    simp only [joinL] at h
    obtain ⟨e, _, _⟩ := cut_eq (.inr rfl) (.inr rfl) (ht t (by simp)).2 (hu u (by simp)).2 h
    rw [e]
  | [t], u :: v :: r, ht, hu, h => by
    simp only [joinL, List.append_assoc, List.cons_append] at h
    obtain ⟨_, e, _⟩ := cut_eq (.inr rfl) (.inl rfl) (ht t (by simp)).2 (hu u (by simp)).2 h
    omega
  | t :: v :: r, [u], ht, hu, h => by
    simp only [joinL, List.append_assoc, List.cons_append] at h
    obtain ⟨_, e, _⟩ := cut_eq (.inl rfl) (.inr rfl) (ht t (by simp)).2 (hu u (by simp)).2 h
    omega
  | t :: v :: r, u :: x :: q, ht, hu, h => by
    simp only [joinL, List.append_assoc, List.cons_append] at h
    obtain ⟨e, _, e2⟩ := cut_eq (.inl rfl) (.inl rfl) (ht t (by simp)).2 (hu u (by simp)).2 h
    have ih := join_inj (ts := v :: r) (us := x :: q) (fun z hz => ht z (by simp [hz])) (fun z hz => hu z (by simp [hz])) (List.cons.inj e2).2
    rw [e, ih]
theorem tup_inj {ds es : List D} (hd : ∀ d ∈ ds, Sep (txt d)) (he : ∀ d ∈ es, Sep (txt d)) (h : txt (.tup ds) = txt (.tup es)) : ds.map txt = es.map txt := by
  rw [txt_tup, txt_tup] at h
  have h := (List.cons.inj h).2
  have sd : ∀ t ∈ ds.map txt, Sep t := fun t ht => by obtain ⟨d, hm, rfl⟩ := List.mem_map.mp ht; exact hd d hm
  have se : ∀ t ∈ es.map txt, Sep t := fun t ht => by obtain ⟨d, hm, rfl⟩ := List.mem_map.mp ht; exact he d hm
  by_cases h1 : ds.length = 1
  · rw [if_pos h1] at h
    match ds, h1, hd with
    | [d], _, hd =>
      simp only [List.map_cons, List.map_nil, joinL] at h
      by_cases h2 : es.length = 1
      · rw [if_pos h2] at h
        match es, h2, he with
        | [e], _, he =>
          simp only [List.map_cons, List.map_nil, joinL] at h
          obtain ⟨q, _, _⟩ := cut_eq (.inl rfl) (.inl rfl) (hd d (by simp)).2 (he e (by simp)).2 h
          simp [q]
      · rw [if_neg h2] at h
        match es, h2, he with
        | [], _, he =>
          have hl := congrArg List.length h
          simp only [List.map_nil, joinL, List.length_append, List.length_cons, List.length_nil] at hl
          omega
        | e :: f :: r, _, he =>
          simp only [List.map_cons, joinL, List.append_assoc, List.cons_append] at h
          obtain ⟨_, _, q⟩ := cut_eq (.inl rfl) (.inl rfl) (hd d (by simp)).2 (he e (by simp)).2 h
          exact absurd (List.cons.inj q).1 (by decide)
  · rw [if_neg h1] at h
    by_cases h2 : es.length = 1
    · rw [if_pos h2] at h
      match es, h2, he with
      | [e], _, he =>
        simp only [List.map_cons, List.map_nil, joinL] at h
        match ds, h1, hd with
        | [], _, hd =>
          have hl := congrArg List.length h
          simp only [List.map_nil, joinL, List.length_append, List.length_cons, List.length_nil] at hl
          omega
        | d :: f :: r, _, hd =>
          simp only [List.map_cons, joinL, List.append_assoc, List.cons_append] at h
          obtain ⟨_, _, q⟩ := cut_eq (.inl rfl) (.inl rfl) (hd d (by simp)).2 (he e (by simp)).2 h
          exact absurd (List.cons.inj q).1 (by decide)
    · rw [if_neg h2] at h
      exact join_inj sd se h
end BV

/-! Equality, order, loops, over data. -/
namespace BV
open PySem PySem.Spec PyProof.Rows L2 Evl

noncomputable instance decD : DecidableEq D := fun a b => Classical.propDecidable (a = b)
mutual
/-- numbers, words, and tuples and lists of them -/
def D.nb : D → Bool
  | .int _ => true
  | .str _ => true
  | .tup ds => D.nbs ds
  | .lst ds => D.nbs ds
  | _ => false
def D.nbs : List D → Bool
  | [] => true
  | d :: ds => D.nb d && D.nbs ds
end
mutual
theorem eqv_iff : ∀ d e : D, d.nb = true → e.nb = true → (PyData.eqv d.py e.py = true ↔ d = e)
  | .int i, .int j, _, _ => by simp [D.py, PyData.eqv]
  | .int i, .str j, _, _ => by simp [D.py, PyData.eqv]
  | .int i, .tup j, _, _ => by simp [D.py, PyData.eqv]
  | .int i, .lst j, _, _ => by simp [D.py, PyData.eqv]
  | .str i, .int j, _, _ => by simp [D.py, PyData.eqv]
  | .str i, .str j, _, _ => by simp [D.py, PyData.eqv]
  | .str i, .tup j, _, _ => by simp [D.py, PyData.eqv]
  | .str i, .lst j, _, _ => by simp [D.py, PyData.eqv]
  | .tup i, .int j, _, _ => by simp [D.py, PyData.eqv]
  | .tup i, .str j, _, _ => by simp [D.py, PyData.eqv]
  | .tup i, .tup j, h, k => by
    have := eqvs_iff i j (by simpa [D.nb] using h) (by simpa [D.nb] using k)
    simp only [D.py, PyData.eqv, D.tup.injEq]
    exact this
  | .tup i, .lst j, _, _ => by simp [D.py, PyData.eqv]
  | .lst i, .int j, _, _ => by simp [D.py, PyData.eqv]
  | .lst i, .str j, _, _ => by simp [D.py, PyData.eqv]
  | .lst i, .tup j, _, _ => by simp [D.py, PyData.eqv]
  | .lst i, .lst j, h, k => by
    have := eqvs_iff i j (by simpa [D.nb] using h) (by simpa [D.nb] using k)
    simp only [D.py, PyData.eqv, D.lst.injEq]
    exact this
  | .non, _, h, _ => by simp [D.nb] at h
  | .bl _, _, h, _ => by simp [D.nb] at h
  | .pur, _, h, _ => by simp [D.nb] at h
  | .pr _, _, h, _ => by simp [D.nb] at h
  | .dic _ _, _, h, _ => by simp [D.nb] at h
  | .int _, .non, _, h => by simp [D.nb] at h
  | .int _, .bl _, _, h => by simp [D.nb] at h
  | .int _, .pur, _, h => by simp [D.nb] at h
  | .int _, .pr _, _, h => by simp [D.nb] at h
  | .int _, .dic _ _, _, h => by simp [D.nb] at h
  | .str _, .non, _, h => by simp [D.nb] at h
  | .str _, .bl _, _, h => by simp [D.nb] at h
  | .str _, .pur, _, h => by simp [D.nb] at h
  | .str _, .pr _, _, h => by simp [D.nb] at h
  | .str _, .dic _ _, _, h => by simp [D.nb] at h
  | .tup _, .non, _, h => by simp [D.nb] at h
  | .tup _, .bl _, _, h => by simp [D.nb] at h
  | .tup _, .pur, _, h => by simp [D.nb] at h
  | .tup _, .pr _, _, h => by simp [D.nb] at h
  | .tup _, .dic _ _, _, h => by simp [D.nb] at h
  | .lst _, .non, _, h => by simp [D.nb] at h
  | .lst _, .bl _, _, h => by simp [D.nb] at h
  | .lst _, .pur, _, h => by simp [D.nb] at h
  | .lst _, .pr _, _, h => by simp [D.nb] at h
  | .lst _, .dic _ _, _, h => by simp [D.nb] at h
theorem eqvs_iff : ∀ ds es : List D, D.nbs ds = true → D.nbs es = true → (PyData.eqvAll (D.pys ds) (D.pys es) = true ↔ ds = es)
  | [], [], _, _ => by simp [D.pys, PyData.eqvAll]
  | [], e :: es, _, _ => by simp [D.pys, PyData.eqvAll]
  | d :: ds, [], _, _ => by simp [D.pys, PyData.eqvAll]
  | d :: ds, e :: es, h, k => by
    have h' : d.nb = true ∧ D.nbs ds = true := by simpa [D.nbs] using h
    have k' : e.nb = true ∧ D.nbs es = true := by simpa [D.nbs] using k
    simp only [D.pys, PyData.eqvAll, Bool.and_eq_true, List.cons.injEq, eqv_iff d e h'.1 k'.1, eqvs_iff ds es h'.2 k'.2]
end
theorem nbs_all {ds : List D} (h : ∀ d ∈ ds, d.nb = true) : D.nbs ds = true := by
  induction ds with
  | nil => rfl
  | cons d ds ih => simp only [D.nbs, h d (by simp), ih fun x hx => h x (by simp [hx]), Bool.and_self]

/-! ### values, their ranks -/
/-- a value that a law draws -/
def isV : D → Prop
  | .int i => i.natAbs ≤ 1000000001
  | .str s => s.length ≤ 13 ∧ Low s
  | _ => False
theorem isV.nb {v : D} (h : isV v) : v.nb = true := by cases v <;> first | rfl | exact h.elim
theorem isV.pl {v : D} (h : isV v) : PL 0 15 v := by
  cases v with
  | int i => exact (PL.int h).mono (Nat.le_refl _) (by omega)
  | str s => exact (PL.str h.2).mono (Nat.le_refl _) (by have := h.1; omega)
  | _ => exact h.elim
theorem isV.sep {v : D} (h : isV v) : Sep (txt v) := by
  cases v with
  | int i => exact ⟨txt_int_ne i, fun x hx => ⟨fun e => txt_int_free (by omega) (e ▸ hx), fun e => txt_int_free (by omega) (e ▸ hx)⟩⟩
  | str s =>
    rw [txt_low h.2]
    refine ⟨by simp, fun x hx => ?_⟩
    simp only [List.mem_cons, List.mem_append, List.not_mem_nil, or_false] at hx
    rcases hx with hx | hx | hx
    · omega
    · have := h.2 x hx
      omega
    · omega
  | _ => exact h.elim
theorem isV.inj {v w : D} (h : isV v) (k : isV w) (e : txt v = txt w) : v = w := by
  cases v with
  | int i =>
    cases w with
    | int j => rw [txt_int_inj e]
    | str s =>
      rw [txt_low k.2] at e
      exact absurd (e ▸ List.mem_cons_self) (txt_int_free (i := i) (s := 39) (by omega))
    | _ => exact k.elim
  | str s =>
    cases w with
    | int j =>
      rw [txt_low h.2] at e
      exact absurd (e ▸ List.mem_cons_self) (txt_int_free (i := j) (s := 39) (by omega))
    | str t =>
      rw [txt_low h.2, txt_low k.2] at e
      have := List.append_cancel_right (List.cons.inj e).2
      have : s = t := by
        cases s; cases t
        exact congrArg Str.mk (Array.toList_inj.mp this)
      rw [this]
    | _ => exact k.elim
  | _ => exact h.elim
theorem txt_eq {d e : D} : d.py.shown = e.py.shown ↔ txt d = txt e := by
  unfold txt
  constructor
  · intro h; rw [h]
  · intro h
    generalize d.py.shown = a at h
    generalize e.py.shown = b at h
    cases a; cases b
    exact congrArg Str.mk (Array.toList_inj.mp h)
/-- by what values are told apart and ordered -/
def key : D → List Int
  | .int i => [0, i]
  | .str s => 1 :: s.cps.toList.map Int.ofNat
  | _ => []
theorem map_ofNat_inj {a b : List Nat} (h : a.map Int.ofNat = b.map Int.ofNat) : a = b := by
  induction a generalizing b with
  | nil => cases b with
    | nil => rfl
    | cons => cases h
  | cons x a ih => cases b with
    | nil => cases h
    | cons y b =>
      simp only [List.map_cons, List.cons.injEq] at h
      rw [ih h.2, Int.ofNat.inj h.1]
theorem key_inj {v w : D} (h : isV v) (k : isV w) (e : key v = key w) : v = w := by
  cases v with
  | int i =>
    cases w with
    | int j => simp only [key, List.cons.injEq] at e; rw [e.2.1]
    | str s => simp [key] at e
    | _ => exact k.elim
  | str s =>
    cases w with
    | int j => simp [key] at e
    | str t =>
      simp only [key, List.cons.injEq, true_and] at e
      have := map_ofNat_inj e
      have : s = t := by
        cases s; cases t
        exact congrArg Str.mk (Array.toList_inj.mp this)
      rw [this]
    | _ => exact k.elim
  | _ => exact h.elim
theorem lt_cons_self {α : Type} [LT α] (hi : ∀ a : α, ¬ a < a) {a : α} {l m : List α} : a :: l < a :: m ↔ l < m := by
  rw [List.cons_lt_cons_iff]
  exact ⟨fun h => h.elim (fun h => absurd h (hi a)) (·.2), fun h => .inr ⟨rfl, h⟩⟩
theorem map_ofNat_lt {a b : List Nat} : a.map Int.ofNat < b.map Int.ofNat ↔ a < b := by
  induction a generalizing b with
  | nil => cases b with
    | nil => exact ⟨fun h => absurd h (List.lt_irrefl _), fun h => absurd h (List.lt_irrefl _)⟩
    | cons y b => exact ⟨fun _ => List.nil_lt_cons _ _, fun _ => List.nil_lt_cons _ _⟩
  | cons x a ih => cases b with
    | nil => exact ⟨fun h => absurd h (List.not_lt_nil _), fun h => absurd h (List.not_lt_nil _)⟩
    | cons y b =>
      simp only [List.map_cons, List.cons_lt_cons_iff, ih]
      constructor
      · rintro (h | ⟨h, k⟩)
        · exact .inl (Int.ofNat_lt.mp h)
        · exact .inr ⟨Int.ofNat.inj h, k⟩
      · rintro (h | ⟨h, k⟩)
        · exact .inl (Int.ofNat_lt.mpr h)
        · exact .inr ⟨congrArg Int.ofNat h, k⟩
def rankV (v : D) : D := match v with
  | .str s => .tup [.int 1, .str s]
  | v => .tup [.int 0, v]
theorem rank_nb {v : D} (h : isV v) : (rankV v).nb = true := by cases v <;> first | rfl | exact h.elim
theorem rank_inj {v w : D} (h : isV v) (k : isV w) : rankV v = rankV w ↔ v = w := by
  cases v <;> cases w <;> first | exact h.elim | exact k.elim | simp [rankV]
theorem rank_pl {v : D} (h : isV v) : PL 1 40 (rankV v) := by
  have : ∀ c : Int, c.natAbs ≤ 1 → PL 1 37 (.tup [.int c, v]) := fun c hc => by
    have := PL.tup (ds := [.int c, v]) (k := 0) (m := 15) fun d hd => by
      simp only [List.mem_cons, List.not_mem_nil, or_false] at hd
      rcases hd with rfl | rfl
      · exact (PL.int (by omega)).mono (Nat.le_refl _) (by omega)
      · exact h.pl
    exact this.mono (Nat.le_refl _) (by simp)
  cases v with
  | int i => exact (this 0 (by decide)).mono (Nat.le_refl _) (by omega)
  | str s => exact (this 1 (by decide)).mono (Nat.le_refl _) (by omega)
  | _ => exact h.elim
theorem rank_eqv {v w : D} (h : isV v) (k : isV w) : PyData.eqv (rankV v).py (rankV w).py = decide (v = w) := by
  rw [Bool.eq_iff_iff, decide_eq_true_iff, eqv_iff _ _ (rank_nb h) (rank_nb k), rank_inj h k]
theorem dec_congr {p q : Prop} [Decidable p] [Decidable q] (h : p ↔ q) : decide p = decide q := by
  rw [Bool.eq_iff_iff, decide_eq_true_iff, decide_eq_true_iff, h]
theorem rank_lt {v w : D} (h : isV v) (k : isV w) : ltO (rankV v) (rankV w) = some (decide (key v < key w)) := by
  cases v with
  | int i =>
    cases w with
    | int j =>
      show ltOs [.int 0, .int i] [.int 0, .int j] = _
      have e0 : PyData.eqv (D.int 0).py (D.int 0).py = true := rfl
      simp only [ltOs, e0, if_true]
      by_cases hij : i = j
      · subst hij
        rw [if_pos (by simp [D.py, PyData.eqv])]
        congr 1
        rw [List.isEmpty_nil, Bool.not_true, eq_comm, decide_eq_false_iff_not]
        exact List.lt_irrefl _
      · rw [if_neg (by simpa [D.py, PyData.eqv] using hij)]
        simp only [ltO]
        congr 1
        refine dec_congr ?_
        rw [key, key, lt_cons_self (by omega), List.cons_lt_cons_iff]
        exact ⟨.inl, fun h => h.elim id fun h => absurd h.2 (List.lt_irrefl _)⟩
    | str t =>
      show ltOs [.int 0, .int i] [.int 1, .str t] = _
      have e0 : PyData.eqv (D.int 0).py (D.int 1).py = false := rfl
      simp only [ltOs, e0]
      simp only [ltO, key]
      congr 1
    | _ => exact k.elim
  | str s =>
    cases w with
    | int j =>
      show ltOs [.int 1, .str s] [.int 0, .int j] = _
      have e0 : PyData.eqv (D.int 1).py (D.int 0).py = false := rfl
      simp only [ltOs, e0]
      simp only [ltO, key]
      congr 1
    | str t =>
      show ltOs [.int 1, .str s] [.int 1, .str t] = _
      have e0 : PyData.eqv (D.int 1).py (D.int 1).py = true := rfl
      simp only [ltOs, e0, if_true]
      by_cases hst : s = t
      · subst hst
        rw [if_pos (by simp [D.py, PyData.eqv])]
        congr 1
        rw [List.isEmpty_nil, Bool.not_true, eq_comm, decide_eq_false_iff_not]
        exact List.lt_irrefl _
      · rw [if_neg (by simpa [D.py, PyData.eqv] using hst)]
        simp only [ltO]
        congr 1
        refine dec_congr ?_
        rw [key, key, lt_cons_self (by omega), map_ofNat_lt]
    | _ => exact k.elim
  | _ => exact h.elim
/-! ### rows -/
def isR : D → Prop
  | .tup vs => vs.length ≤ 40 ∧ ∀ v ∈ vs, isV v
  | _ => False
def rkey : D → List (List Int)
  | .tup vs => vs.map key
  | _ => []
theorem isR.nb {r : D} (h : isR r) : r.nb = true := by
  cases r with
  | tup vs => simp only [D.nb]; exact nbs_all fun d hd => (h.2 d hd).nb
  | _ => exact h.elim
theorem isR.pl {r : D} (h : isR r) : PL 1 700 r := by
  cases r with
  | tup vs => exact (PL.tup fun d hd => (h.2 d hd).pl).mono (Nat.le_refl _) (by have := h.1; omega)
  | _ => exact h.elim
theorem map_inj_on {α β : Type} {f : α → β} : ∀ {l m : List α}, (∀ a ∈ l, ∀ b ∈ m, f a = f b → a = b) → l.map f = m.map f → l = m
  | [], [], _, _ => rfl
  | [], b :: m, _, h => by cases h
  | a :: l, [], _, h => by cases h
  | a :: l, b :: m, i, h => by
    simp only [List.map_cons, List.cons.injEq] at h
    rw [i a (by simp) b (by simp) h.1, map_inj_on (fun x hx y hy => i x (by simp [hx]) y (by simp [hy])) h.2]
theorem rkey_inj {r q : D} (h : isR r) (k : isR q) (e : rkey r = rkey q) : r = q := by
  cases r with
  | tup vs =>
    cases q with
    | tup ws => rw [map_inj_on (fun a ha b hb => key_inj (h.2 a ha) (k.2 b hb)) e]
    | _ => exact k.elim
  | _ => exact h.elim
theorem isR.inj {r q : D} (h : isR r) (k : isR q) (e : txt r = txt q) : r = q := by
  cases r with
  | tup vs =>
    cases q with
    | tup ws => rw [map_inj_on (fun a ha b hb => isV.inj (h.2 a ha) (k.2 b hb)) (tup_inj (fun d hd => (h.2 d hd).sep) (fun d hd => (k.2 d hd).sep) e)]
    | _ => exact k.elim
  | _ => exact h.elim
def rankR : D → D
  | .tup vs => .tup (vs.map rankV)
  | d => d
theorem rankR_nb {r : D} (h : isR r) : (rankR r).nb = true := by
  cases r with
  | tup vs =>
    simp only [rankR, D.nb]
    exact nbs_all fun d hd => by obtain ⟨v, hv, rfl⟩ := List.mem_map.mp hd; exact rank_nb (h.2 v hv)
  | _ => exact h.elim
theorem rankR_pl {r : D} (h : isR r) : PL 2 2000 (rankR r) := by
  cases r with
  | tup vs =>
    refine (PL.tup (k := 1) (m := 40) fun d hd => ?_).mono (Nat.le_refl _) (by have := h.1; simp only [List.length_map]; omega)
    obtain ⟨v, hv, rfl⟩ := List.mem_map.mp hd
    exact rank_pl (h.2 v hv)
  | _ => exact h.elim
theorem rankR_inj {r q : D} (h : isR r) (k : isR q) : rankR r = rankR q ↔ r = q := by
  cases r with
  | tup vs =>
    cases q with
    | tup ws =>
      constructor
      · intro e
        simp only [rankR, D.tup.injEq] at e
        rw [map_inj_on (fun a ha b hb => (rank_inj (h.2 a ha) (k.2 b hb)).mp) e]
      · intro e; rw [e]
    | _ => exact k.elim
  | _ => exact h.elim
theorem rankR_eqv {v w : D} (h : isR v) (k : isR w) : PyData.eqv (rankR v).py (rankR w).py = decide (v = w) := by
  rw [Bool.eq_iff_iff, decide_eq_true_iff, eqv_iff _ _ (rankR_nb h) (rankR_nb k), rankR_inj h k]
theorem lts_rank : ∀ {vs ws : List D}, (∀ v ∈ vs, isV v) → (∀ v ∈ ws, isV v) → ltOs (vs.map rankV) (ws.map rankV) = some (decide (vs.map key < ws.map key))
  | [], [], _, _ => by simp [ltOs]
  | [], w :: ws, _, _ => by simp [ltOs]
  | v :: vs, [], _, _ => by simp [ltOs]
  | v :: vs, w :: ws, h, k => by
    simp only [List.map_cons, ltOs]
    rw [rank_eqv (h v (by simp)) (k w (by simp))]
    by_cases e : v = w
    · subst e
      rw [decide_eq_true rfl, if_pos rfl, lts_rank (fun x hx => h x (by simp [hx])) (fun x hx => k x (by simp [hx]))]
      congr 1
      exact dec_congr (lt_cons_self (fun a => List.lt_irrefl a)).symm
    · rw [decide_eq_false e, if_neg (by simp), rank_lt (h v (by simp)) (k w (by simp))]
      congr 1
      refine dec_congr ?_
      rw [List.cons_lt_cons_iff]
      exact ⟨.inl, fun q => q.elim id fun q => absurd (key_inj (h v (by simp)) (k w (by simp)) q.1) e⟩
theorem rankR_lt {r q : D} (h : isR r) (k : isR q) : ltO (rankR r) (rankR q) = some (decide (rkey r < rkey q)) := by
  cases r with
  | tup vs =>
    cases q with
    | tup ws => exact lts_rank h.2 k.2
    | _ => exact k.elim
  | _ => exact h.elim
/-! ### sorted lists are told by what is in them -/
theorem sorted_eq {α : Type} {lt : α → α → Prop} : ∀ {l m : List α}, l.Perm m → l.Pairwise (fun x y => ¬ lt y x) → m.Pairwise (fun x y => ¬ lt y x) → (∀ a ∈ l, ∀ b ∈ l, ¬ lt a b → ¬ lt b a → a = b) → l = m
  | [], m, p, _, _, _ => (List.nil_perm.mp p).symm
  | a :: l, [], p, _, _, _ => (List.perm_nil.mp p)
  | a :: l, b :: m, p, s, t, tr => by
    have hab : a = b := by
      have ha : a ∈ b :: m := p.mem_iff.mp (by simp)
      have hb : b ∈ a :: l := p.mem_iff.mpr (by simp)
      rcases List.mem_cons.mp ha with e | ha'
      · exact e
      · rcases List.mem_cons.mp hb with e | hb'
        · exact e.symm
        · exact tr a (by simp) b hb ((List.pairwise_cons.mp t).1 a ha') ((List.pairwise_cons.mp s).1 b hb')
    subst hab
    rw [sorted_eq (List.Perm.cons_inv p) (List.pairwise_cons.mp s).2 (List.pairwise_cons.mp t).2 fun x hx y hy => tr x (by simp [hx]) y (by simp [hy])]
/-! ### loops -/
theorem forGo_go {t : Tgt} {body : MS} {E : EndD} (I : Nat → SEnv → Prop) : ∀ (items : List D) (n : Nat) (env : SEnv), (∀ i d env nx, items[i]? = some d → I (n + i) env → (∀ env', I (n + i + 1) env' → nx env') → ∃ env1, t.put shd d env = some env1 ∧ body { E with nx := nx, ct := nx, bk := E.nx } env1) →
    (∀ env, I (n + items.length) env → E.nx env) → I n env → forGo t body E items env
  | [], n, env, _, hend, h0 => hend env h0
  | x :: xs, n, env, hs, hend, h0 => by
    obtain ⟨env1, e, hbd⟩ := hs 0 x env (forGo t body E xs) rfl h0 fun env' h' =>
      forGo_go I xs (n + 1) env' (fun i d env2 nx hi hI hn => by
        have := hs (i + 1) d env2 nx (by simpa using hi) (by rw [show n + (i + 1) = n + 1 + i by omega]; exact hI) (fun e he => hn e (by rw [show n + 1 + i + 1 = n + (i + 1) + 1 by omega]; exact he))
        exact this) (fun env2 h2 => hend env2 (by rw [List.length_cons, show n + (xs.length + 1) = n + 1 + xs.length by omega]; exact h2)) h'
    exact ⟨env1, e, hbd⟩
/-- a loop with what holds ahead of each turn -/
theorem forGo_inv {t : Tgt} {body : MS} {E : EndD} {items : List D} {env : SEnv} (I : Nat → SEnv → Prop) (h0 : I 0 env) (hend : ∀ env, I items.length env → E.nx env)
    (hs : ∀ i d env nx, items[i]? = some d → I i env → (∀ env', I (i + 1) env' → nx env') → ∃ env1, t.put shd d env = some env1 ∧ body { E with nx := nx, ct := nx, bk := E.nx } env1) : forGo t body E items env :=
  forGo_go I items 0 env (fun i d env nx a b c => hs i d env nx a (by simpa using b) (by simpa using c)) (fun env h => hend env (by simpa using h)) h0
theorem lcGo_map {t : Tgt} {mt : MT} {me : ME} {env : Env} {Q : List D → Prop} (f : D → D → Prop) : ∀ (items acc : List D), (∀ x ∈ items, ∃ env1, t.put idD x env = some env1 ∧ ∀ (R : D → Prop) (S : Prop), (∀ y, f x y → R y) → mt env1 fun b => if b = true then me env1 R else S) →
    (∀ ys, Paired f items ys → Q (acc ++ ys)) → lcGo t mt me env items acc Q
  | [], acc, _, hq => by have := hq [] .nil; simpa [lcGo] using this
  | x :: xs, acc, hs, hq => by
    obtain ⟨env1, e, h⟩ := hs x (by simp)
    refine ⟨env1, e, h _ _ fun y hy => ?_⟩
    refine lcGo_map f xs _ (fun z hz => hs z (by simp [hz])) fun ys p => ?_
    have := hq (y :: ys) (.cons hy p)
    simpa using this
theorem lcGo_fn {t : Tgt} {mt : MT} {me : ME} {env : Env} {Q : List D → Prop} (f : D → D) (items : List D) (hs : ∀ x ∈ items, ∃ env1, t.put idD x env = some env1 ∧ ∀ (R : D → Prop) (S : Prop), R (f x) → mt env1 fun b => if b = true then me env1 R else S) (hq : Q (items.map f)) : lcGo t mt me env items [] Q := by
  refine lcGo_map (fun x y => y = f x) items [] (fun x hx => ?_) fun ys p => ?_
  · obtain ⟨env1, e, h⟩ := hs x hx
    exact ⟨env1, e, fun R S k => h R S (k _ rfl)⟩
  have : ys = items.map f := by
    clear hs hq
    induction p with
    | nil => rfl
    | cons h _ ih => simp [h, ih]
  rw [this]
  exact hq
theorem lcGo_filter {t : Tgt} {mt : MT} {me : ME} {env : Env} {Q : List D → Prop} (p : D → Bool) : ∀ (items acc : List D), (∀ x ∈ items, ∃ env1, t.put idD x env = some env1 ∧ ∀ (R : D → Prop) (S : Prop), (p x = true → R x) → (p x = false → S) → mt env1 fun b => if b = true then me env1 R else S) →
    Q (acc ++ items.filter p) → lcGo t mt me env items acc Q
  | [], acc, _, hq => by simpa [lcGo] using hq
  | x :: xs, acc, hs, hq => by
    obtain ⟨env1, e, h⟩ := hs x (by simp)
    refine ⟨env1, e, h _ _ (fun hp => ?_) fun hp => ?_⟩
    · refine lcGo_filter p xs _ (fun z hz => hs z (by simp [hz])) ?_
      rw [List.filter_cons_of_pos hp] at hq
      simpa using hq
    · refine lcGo_filter p xs _ (fun z hz => hs z (by simp [hz])) ?_
      rw [List.filter_cons_of_neg (by simp [hp])] at hq
      exact hq
theorem paired_all {α β : Type} {p : β → Prop} {xs : List α} {ys : List β} (h : Paired (fun _ y => p y) xs ys) : ∀ y ∈ ys, p y := by
  induction h with
  | nil => intro y hy; cases hy
  | cons h _ ih =>
    intro y hy
    rcases List.mem_cons.mp hy with e | hy
    · rw [e]; exact h
    · exact ih y hy
theorem view_fl {rs : List Nat} : ∀ {k : Nat} {env : SEnv} {i : Nat} {d : D}, env[i]? = some (some (false, d)) → (view rs k env)[i]? = some (some d)
  | k, [], i, d, h => by simp at h
  | k, none :: r, 0, d, h => by simp at h
  | k, some (false, e) :: r, 0, d, h => by simpa [view] using h
  | k, some (true, e) :: r, 0, d, h => by simp at h
  | k, none :: r, i + 1, d, h => by
    simp only [view, List.getElem?_cons_succ] at h ⊢
    exact view_fl h
  | k, some (false, e) :: r, i + 1, d, h => by
    simp only [view, List.getElem?_cons_succ] at h ⊢
    exact view_fl h
  | k, some (true, e) :: r, i + 1, d, h => by
    simp only [view, List.getElem?_cons_succ] at h ⊢
    exact view_fl h
theorem yes_go {env : Env} {A B : Prop} (h : A) : mYes env (fun b => if b = true then A else B) := by
  show if true = true then A else B
  rw [if_pos rfl]
  exact h
end BV

/-! Dicts by value: reading, making, changing one's own. -/
namespace BV
open PySem PySem.Spec PyProof.Rows L2 Evl

def keyOf : D → Option L2.Key
  | .int i => some (.inl i)
  | .str s => some (.inr s)
  | _ => none
abbrev KL := List (L2.Key × D)
def dicOf (kd : KL) : D := .dic (kd.map (·.1)) (kd.map (·.2))
/-- the pairs of a dict on both sides -/
def KD (K : PySem.W.Frag) (C : Hp) (pu : Addr) : KL → List (L2.Key × V) → Prop
  | [], kvs => kvs = []
  | (k, d) :: kd, kvs => ∃ v r, kvs = (k, v) :: r ∧ Dn K C pu d v ∧ KD K C pu kd r
section
variable {K : PySem.W.Frag} {C C' : Hp} {pu : Addr}
theorem KD.mono (e : Ex C C') : ∀ {kd : KL} {kvs : List (L2.Key × V)}, KD K C pu kd kvs → KD K C' pu kd kvs
  | [], _, h => h
  | (k, d) :: kd, _, ⟨v, r, e1, e2, e3⟩ => ⟨v, r, e1, e2.mono e, KD.mono e e3⟩
theorem KD.len : ∀ {kd : KL} {kvs : List (L2.Key × V)}, KD K C pu kd kvs → kvs.length = kd.length
  | [], _, h => by cases h; rfl
  | (k, d) :: kd, _, ⟨v, r, e1, e2, e3⟩ => by subst e1; simp [KD.len e3]
theorem KD.iff : ∀ {kd : KL} {kvs : List (L2.Key × V)}, KD K C pu kd kvs ↔ kvs.map (·.1) = kd.map (·.1) ∧ Dns K C pu (kd.map (·.2)) (kvs.map (·.2))
  | [], kvs => ⟨fun h => by cases h; exact ⟨rfl, dns_nil.mpr rfl⟩, fun ⟨h, _⟩ => by show kvs = []; simpa using h⟩
  | (k, d) :: kd, kvs => by
    constructor
    · rintro ⟨v, r, rfl, e2, e3⟩
      obtain ⟨h1, h2⟩ := KD.iff.mp e3
      exact ⟨by simp [h1], dns_cons.mpr ⟨v, _, rfl, e2, h2⟩⟩
    · rintro ⟨h1, h2⟩
      obtain ⟨v, r, e1, e2, e3⟩ := dns_cons.mp h2
      cases kvs with
      | nil => cases h1
      | cons p kvs =>
        obtain ⟨k', v'⟩ := p
        simp only [List.map_cons, List.cons.injEq] at h1 e1
        obtain ⟨rfl, h1⟩ := h1
        obtain ⟨rfl, rfl⟩ := e1
        exact ⟨v', kvs, rfl, e2, KD.iff.mpr ⟨h1, e3⟩⟩
theorem dn_dicOf {kd : KL} {v : V} : Dn K C pu (dicOf kd) v ↔ ∃ a kvs, v = .ref a ∧ C a = some (.dK kvs) ∧ KD K C pu kd kvs := by
  unfold dicOf
  rw [dn_dic]
  constructor
  · rintro ⟨a, kvs, e1, e2, e3, e4⟩
    exact ⟨a, kvs, e1, e2, KD.iff.mpr ⟨e3, e4⟩⟩
  · rintro ⟨a, kvs, e1, e2, e3⟩
    obtain ⟨h1, h2⟩ := KD.iff.mp e3
    exact ⟨a, kvs, e1, e2, h1, h2⟩
theorem hl_dicOf {kd : KL} {u : HO} : Hl K C pu (dicOf kd) u ↔ ∃ kvs, u = .dK kvs ∧ KD K C pu kd kvs := by
  constructor
  · rintro ⟨kvs, e1, e2, e3⟩
    exact ⟨kvs, e1, KD.iff.mpr ⟨e2, e3⟩⟩
  · rintro ⟨kvs, e1, e2⟩
    obtain ⟨h1, h2⟩ := KD.iff.mp e2
    exact ⟨kvs, e1, h1, h2⟩
/-- what stands under a key -/
def valD (kd : KL) (k : L2.Key) : Option D := (kd.find? fun kv => decide (kv.1 = k)).map (·.2)
def putD (kd : KL) (k : L2.Key) (d : D) : KL :=
  if (kd.any fun kv => decide (kv.1 = k)) = true then kd.map (fun kv => if kv.1 = k then (kv.1, d) else kv) else kd ++ [(k, d)]
def mergeD (kd more : KL) : KL := more.foldl (fun acc kv => putD acc kv.1 kv.2) kd
theorem KD.val (k : L2.Key) : ∀ {kd : KL} {kvs : List (L2.Key × V)}, KD K C pu kd kvs → (∀ d, valD kd k = some d → ∃ v, valV kvs k = some v ∧ Dn K C pu d v) ∧ (valD kd k = none → valV kvs k = none)
  | [], _, h => by cases h; exact ⟨fun d e => by simp [valD] at e, fun _ => rfl⟩
  | (k', d) :: kd, _, ⟨v, r, e1, e2, e3⟩ => by
    subst e1
    obtain ⟨h1, h2⟩ := KD.val k e3
    by_cases hk : k' = k
    · subst hk
      refine ⟨fun d' e => ⟨v, by simp [valV], ?_⟩, fun e => by simp [valD] at e⟩
      have : d = d' := by simpa [valD] using e
      rw [← this]
      exact e2
    · refine ⟨fun d' e => ?_, fun e => ?_⟩
      · rw [valV_neg (p := (k', v)) hk]
        refine h1 d' ?_
        simpa [valD, List.find?_cons, hk] using e
      · rw [valV_neg (p := (k', v)) hk]
        refine h2 ?_
        simpa [valD, List.find?_cons, hk] using e
theorem KD.any (k : L2.Key) : ∀ {kd : KL} {kvs : List (L2.Key × V)}, KD K C pu kd kvs → (kvs.any fun kv => decide (kv.1 = k)) = kd.any fun kv => decide (kv.1 = k)
  | [], _, h => by cases h; rfl
  | (k', d) :: kd, _, ⟨v, r, e1, e2, e3⟩ => by subst e1; simp only [List.any_cons, KD.any k e3]
theorem KD.mapPut (k : L2.Key) {d : D} {v : V} (hd : Dn K C pu d v) : ∀ {kd : KL} {kvs : List (L2.Key × V)}, KD K C pu kd kvs → KD K C pu (kd.map fun kv => if kv.1 = k then (kv.1, d) else kv) (kvs.map fun kv => if kv.1 = k then (kv.1, v) else kv)
  | [], _, h => by cases h; exact rfl
  | (k', d') :: kd, _, ⟨v', r, e1, e2, e3⟩ => by
    subst e1
    by_cases hk : k' = k
    · simp only [List.map_cons, hk, if_true]
      exact ⟨v, _, rfl, hd, KD.mapPut k hd e3⟩
    · simp only [List.map_cons, hk, if_false]
      exact ⟨v', _, rfl, e2, KD.mapPut k hd e3⟩
theorem KD.app : ∀ {kd kd2 : KL} {kvs kvs2 : List (L2.Key × V)}, KD K C pu kd kvs → KD K C pu kd2 kvs2 → KD K C pu (kd ++ kd2) (kvs ++ kvs2)
  | [], _, _, _, h, k => by cases h; exact k
  | (k', d) :: kd, _, _, _, ⟨v, r, e1, e2, e3⟩, k => by subst e1; exact ⟨v, _, rfl, e2, KD.app e3 k⟩
theorem KD.put (k : L2.Key) {d : D} {v : V} (hd : Dn K C pu d v) {kd : KL} {kvs : List (L2.Key × V)} (h : KD K C pu kd kvs) : KD K C pu (putD kd k d) (putK kvs k v) := by
  unfold putD putK
  rw [h.any k]
  split
  · exact h.mapPut k hd
  · exact h.app ⟨v, [], rfl, hd, rfl⟩
theorem KD.merge : ∀ {more : KL} {ms : List (L2.Key × V)} {kd : KL} {kvs : List (L2.Key × V)}, KD K C pu more ms → KD K C pu kd kvs → KD K C pu (mergeD kd more) (mergeK kvs ms)
  | [], _, kd, kvs, h, k => by cases h; exact k
  | (k', d) :: more, _, kd, kvs, ⟨v, r, e1, e2, e3⟩, k => by
    subst e1
    show KD K C pu (mergeD (putD kd k' d) more) (mergeK (putK kvs k' v) r)
    exact KD.merge e3 (k.put k' e2)
theorem putD_len (kd : KL) (k : L2.Key) (d : D) : (putD kd k d).length ≤ kd.length + 1 := by
  unfold putD
  split
  · simp
  · simp
theorem key_dn {d : D} {k : L2.Key} {v : V} (h : keyOf d = some k) (dn : Dn K C pu d v) : v = kV k := by
  cases d with
  | int i => cases h; exact dn_int.mp dn
  | str s => cases h; exact dn_str.mp dn
  | _ => cases h
end

/-! ### reading -/
section
variable {X : Cx} {o e f : Expr} {mo me mf : ME} {pos apos cpos : Pos}
/-- o[e] -/
def mDget (mo me : ME) : ME := fun env Q => mo env fun x => me env fun y => ∃ kd k u, x = dicOf kd ∧ keyOf y = some k ∧ valD kd k = some u ∧ Q u
theorem pd_dget (hu : X.A.units + 64 < cLine) (ho : PD X o mo) (he : PD X e me) (hs : NoSl e := by exact fun _ _ => rfl) : PD X (.Subscript o e pos) (mDget mo me) := by
  refine ⟨pe_imp (pe_dget (by omega) ho.run he.run hs) fun σ H Q q => ?_, fun env Q Q' i q => ho.mono _ _ _ (fun x q => he.mono _ _ _ (fun y ⟨kd, k, u, a, b, c, q⟩ => ⟨kd, k, u, a, b, c, i _ q⟩) q) q⟩
  obtain ⟨z, C, env, ok, r, q⟩ := q
  refine lift_use ho.mono ok r q fun x v C1 H1 q t1 dx => lift_use he.mono t1.ok (r.mono t1.cc) q fun y w C2 H2 ⟨kd, k, u, a, b, c, p⟩ t2 dy => ?_
  subst a
  obtain ⟨ad, kvs, e1, e2, e3⟩ := dn_dicOf.mp (dx.mono t2.cc)
  obtain ⟨u', h1, h2⟩ := (e3.val k).1 u c
  refine ⟨ad, u', e1, ?_, p _ _ _ (t1.trans t2) h2⟩
  rw [key_dn b dy, ← h1]
  exact .k (t2.ok.ex _ _ e2)
/-- o.get(e, f) -/
def mDget2 (mo me mf : ME) : ME := fun env Q => mo env fun x => ∃ kd, x = dicOf kd ∧ me env fun y => mf env fun w => ∃ k, keyOf y = some k ∧ Q ((valD kd k).getD w)
theorem pd_dget2 (hu : X.A.units + 64 < cLine) (ho : PD X o mo) (he : PD X e me) (hf : PD X f mf) (m : M2 X o "get" apos e f cpos := by exact ⟨rfl, rfl, rfl, rfl⟩) :
    PD X (.Call (.Attribute o "get" apos) [e, f] [] cpos) (mDget2 mo me mf) := by
  refine ⟨pe_imp (pe_dget2 (by omega) ho.run he.run hf.run m) fun σ H Q q => ?_, fun env Q Q' i q => ho.mono _ _ _ (fun x ⟨kd, a, q⟩ => ⟨kd, a, he.mono _ _ _ (fun y q => hf.mono _ _ _ (fun w ⟨k, b, q⟩ => ⟨k, b, i _ q⟩) q) q⟩) q⟩
  obtain ⟨z, C, env, ok, r, q⟩ := q
  refine lift_use ho.mono ok r q fun x v C1 H1 ⟨kd, ex, q⟩ t1 dx => ?_
  subst ex
  obtain ⟨ad, kvs, e1, e2, e3⟩ := dn_dicOf.mp dx
  refine ⟨ad, e1, .inl ⟨kvs, .inl (t1.ok.ex _ _ e2)⟩, ?_⟩
  refine lift_use he.mono t1.ok (r.mono t1.cc) q fun y w C2 H2 q t2 dy => lift_use hf.mono t2.ok ((r.mono t1.cc).mono t2.cc) q fun y3 w3 C3 H3 ⟨k, b, p⟩ t3 dw => ?_
  have t23 := t2.trans t3
  have e3' := e3.mono t23.cc
  refine ⟨valV kvs k, ?_, ?_⟩
  · rw [key_dn b (dy.mono t3.cc)]
    exact .k (t3.ok.ex _ _ (t23.cc _ _ e2))
  · cases hv : valD kd k with
    | none =>
      rw [(e3'.val k).2 hv]
      rw [hv] at p
      exact p _ _ _ ((t1.trans t2).trans t3) dw
    | some u =>
      obtain ⟨u', h1, h2⟩ := (e3'.val k).1 u hv
      rw [h1]
      rw [hv] at p
      exact p _ _ _ ((t1.trans t2).trans t3) h2
/-- e in o, o a dict -/
def mDin (neg : Bool) (me mo : ME) : ME := fun env Q => me env fun y => mo env fun x => ∃ kd k, x = dicOf kd ∧ keyOf y = some k ∧ Q (.bl (if neg then !(valD kd k).isSome else (valD kd k).isSome))
theorem KD.isSome {K : PySem.W.Frag} {C : Hp} {pu : Addr} {kd : KL} {kvs : List (L2.Key × V)} (h : KD K C pu kd kvs) (k : L2.Key) : (valV kvs k).isSome = (valD kd k).isSome := by
  cases hv : valD kd k with
  | none => rw [(h.val k).2 hv]; rfl
  | some u =>
    obtain ⟨v, h1, _⟩ := (h.val k).1 u hv
    rw [h1]
    rfl
theorem din_use {σ : L2.St} {H : Hp} {Q : VK} {neg : Bool} (ho : Mono mo) (he : Mono me) (q : lift X.K (mDin neg me mo) σ H Q) :
    lift X.K me σ H fun y H1 => lift X.K mo σ H1 fun x H2 => ∃ a o, x = .ref a ∧ DGet H2 a y o ∧ Q (.bl (if neg then !o.isSome else o.isSome)) H2 := by
  obtain ⟨z, C, env, ok, r, q⟩ := q
  refine lift_use he ok r q fun y w C1 H1 q t1 dy => lift_use ho t1.ok (r.mono t1.cc) q fun x v C2 H2 ⟨kd, k, a, b, p⟩ t2 dx => ?_
  subst a
  obtain ⟨ad, kvs, e1, e2, e3⟩ := dn_dicOf.mp dx
  refine ⟨ad, valV kvs k, e1, ?_, ?_⟩
  · rw [key_dn b (dy.mono t2.cc)]
    exact .k (t2.ok.ex _ _ e2)
  · rw [e3.isSome k]
    exact p _ _ _ (t1.trans t2) (dn_bl.mpr rfl)
theorem mono_din {neg : Bool} (ho : Mono mo) (he : Mono me) : Mono (mDin neg me mo) := fun env Q Q' i q => he _ _ _ (fun y q => ho _ _ _ (fun x ⟨kd, k, a, b, q⟩ => ⟨kd, k, a, b, i _ q⟩) q) q
theorem pd_din (hu : X.A.units + 64 < cLine) (he : PD X e me) (ho : PD X o mo) (h1 : behindInMarks .In o = false := by rfl) : PD X (.Compare e [.In] [o] pos) (mDin false me mo) :=
  ⟨pe_imp (pe_cmp (pc_din (by omega) he.run ho.run) h1) fun σ H Q q => din_use (neg := false) ho.mono he.mono q, mono_din ho.mono he.mono⟩
theorem pd_dnotin (hu : X.A.units + 64 < cLine) (he : PD X e me) (ho : PD X o mo) (h1 : behindInMarks .NotIn o = false := by rfl) : PD X (.Compare e [.NotIn] [o] pos) (mDin true me mo) :=
  ⟨pe_imp (pe_cmp (pc_dnotin (by omega) he.run ho.run) h1) fun σ H Q q => din_use (neg := true) ho.mono he.mono q, mono_din ho.mono he.mono⟩
end
/-! ### making -/
def pairOf : D → Option (L2.Key × D)
  | .tup [k, v] => (keyOf k).map (·, v)
  | .pr [k, v] => (keyOf k).map (·, v)
  | _ => none
def pairsOf : List D → Option KL
  | [] => some []
  | d :: ds => match pairOf d, pairsOf ds with
    | some p, some r => some (p :: r)
    | _, _ => none
theorem pairs_dn {K : PySem.W.Frag} {C : Hp} {pu : Addr} : ∀ {ds : List D} {more : KL} {xs : List V}, pairsOf ds = some more → Dns K C pu ds xs → ∃ (ps : List Addr) (ms : List (L2.Key × V)), xs = ps.map V.ref ∧ Paired (fun p kv => SqT K C p [kV kv.1, kv.2]) ps ms ∧ KD K C pu more ms
  | [], more, xs, h, dn => by
    cases h
    rw [dns_nil.mp dn]
    exact ⟨[], [], rfl, .nil, rfl⟩
  | d :: ds, more, xs, h, dn => by
    obtain ⟨v, r, e1, e2, e3⟩ := dns_cons.mp dn
    simp only [pairsOf] at h
    split at h
    · rename_i p r' hp hr
      cases h
      obtain ⟨ps, ms, f1, f2, f3⟩ := pairs_dn hr e3
      have key : ∃ a k w x, v = .ref a ∧ SqT K C a [kV k, x] ∧ p = (k, w) ∧ Dn K C pu w x := by
        unfold pairOf at hp
        split at hp
        · obtain ⟨k, hk, rfl⟩ := Option.map_eq_some_iff.mp hp
          obtain ⟨a, ys, g1, g2, g3⟩ := dn_tup e2
          obtain ⟨y1, y2, g4, g5, g6⟩ := dns2 g3
          subst g4
          rw [key_dn hk g5] at g2
          exact ⟨a, k, _, y2, g1, g2, rfl, g6⟩
        · obtain ⟨k, hk, rfl⟩ := Option.map_eq_some_iff.mp hp
          obtain ⟨a, ys, g1, g2, g3⟩ := dn_pr.mp e2
          obtain ⟨y1, y2, g4, g5, g6⟩ := dns2 g3
          subst g4
          rw [key_dn hk g5] at g2
          exact ⟨a, k, _, y2, g1, g2, rfl, g6⟩
        · cases hp
      obtain ⟨a, k, w, x, g1, g2, rfl, g3⟩ := key
      exact ⟨a :: ps, (k, x) :: ms, by rw [e1, f1, g1]; rfl, .cons g2 f2, x, ms, rfl, g3, f3⟩
    · cases h
/-- dict(pairs) -/
def dictD : List D → Option D
  | [.tup ds] => (pairsOf ds).map fun more => dicOf (mergeD [] more)
  | [.lst ds] => (pairsOf ds).map fun more => dicOf (mergeD [] more)
  | _ => none
section
variable {X : Cx} {pos : Pos}
theorem Paired.imp' {α β : Type} {F G : α → β → Prop} (f : ∀ a b, F a b → G a b) : ∀ {l : List α} {m : List β}, Paired F l m → Paired G l m
  | _, _, .nil => .nil
  | _, _, .cons r t => .cons (f _ _ r) (Paired.imp' f t)
theorem cd_dict (hc : X.calm = true) : CallD X (.type "dict") dictD := by
  refine ⟨_, (call_dictT hc).or (call_dictP hc), fun z C H ds u xs Q o dn g k => ?_⟩
  unfold dictD at g
  split at g
  · obtain ⟨more, hm, rfl⟩ := Option.map_eq_some_iff.mp g
    obtain ⟨v, e1, e2⟩ := dns1 dn
    obtain ⟨a, ys, f1, f2, f3⟩ := dn_tupP.mp e2
    obtain ⟨ps, ms, g1, g2, g3⟩ := pairs_dn hm f3
    subst g1
    subst f1
    exact .inl ⟨a, ps, ms, e1, ex_p o.ex f2, Paired.imp' (fun _ _ h => ex_t o.ex h) g2, fun p hp => k _ _ _ (Tr.put o hp) (dn_dicOf.mpr ⟨p, _, rfl, upd_same, KD.mono (Ex.new (fresh_back o.ex hp)) (KD.merge g3 (kd := []) (kvs := []) rfl)⟩)⟩
  · obtain ⟨more, hm, rfl⟩ := Option.map_eq_some_iff.mp g
    obtain ⟨v, e1, e2⟩ := dns1 dn
    obtain ⟨a, ys, f1, f2, f3⟩ := dn_lst.mp e2
    obtain ⟨ps, ms, g1, g2, g3⟩ := pairs_dn hm f3
    subst g1
    subst f1
    exact .inr ⟨a, ps, ms, e1, ex_l o.ex (sq_of f2), Paired.imp' (fun _ _ h => ex_t o.ex h) g2, fun p hp => k _ _ _ (Tr.put o hp) (dn_dicOf.mpr ⟨p, _, rfl, upd_same, KD.mono (Ex.new (fresh_back o.ex hp)) (KD.merge g3 (kd := []) (kvs := []) rfl)⟩)⟩
  · cases g
end
end BV

/-! Own dicts, lists from which is taken, several own things at once; in, str. -/
namespace BV
open PySem PySem.Spec PyProof.Rows L2 Evl

/-! ### two values under one view -/
section
variable {K : PySem.W.Frag} {z : Pz} {C0 H0 Cb C H : Hp} {env : SEnv} {σ : L2.St}
theorem SR.after (s : SR K z C0 H0 Cb C env σ H) (rs : List Nat) {C' H' : Hp} {ds : List D} {vs : List V} (t : Tr z (coreP rs env σ C H) H C' H') (dn : Dns K C' z.p ds vs) :
    ∃ C2, SR K z C0 H0 Cb C2 (aftL rs ds env) σ H' ∧ Dns K C2 z.p ds vs ∧ ∀ a, C' a = none → C2 a = none := by
  by_cases hd : D.lfs ds = true
  · refine ⟨coreM rs env σ C', ?_, dn.lf (s.tupSub rs t) ds vs hd, fun a h => ?_⟩
    · unfold aftL
      rw [if_pos hd]
      exact s.thaw rs t
    · by_cases ho : OwnAt rs env σ a
      · exact coreM_in ho
      · rw [coreM_out ho]; exact h
  · refine ⟨C', ?_, dn, fun a h => h⟩
    unfold aftL
    rw [if_neg hd]
    exact s.frozen rs t
theorem SR.use2 (s : SR K z C0 H0 Cb C env σ H) {m1 m2 : ME} {P : D → D → Prop} {Q : V → V → Hp → Prop} (rs : List Nat) (h1 : Mono m1) (h2 : Mono m2) (q : m1 (view rs 0 env) fun d => m2 (view rs 0 env) fun e => P d e)
    (k : ∀ d e v w C' H', P d e → SR K z C0 H0 Cb C' (aftL rs [d, e] env) σ H' → Dn K C' z.p d v → Dn K C' z.p e w → Q v w H') : lift K m1 σ H fun v H1 => lift K m2 σ H1 fun w H2 => Q v w H2 := by
  refine lift_use h1 (s.okP rs) (s.envP rs) q fun d v C1 H1 q t1 dn => lift_use h2 t1.ok ((s.envP rs).mono t1.cc) q fun e w C2 H2 p t2 dn2 => ?_
  obtain ⟨C3, s3, dns, _⟩ := s.after rs (t1.trans t2) (dns_cons.mpr ⟨v, [w], rfl, dn.mono t2.cc, Dns.one dn2⟩)
  obtain ⟨v', w', e1, e2, e3⟩ := dns2 dns
  cases e1
  exact k d e v w C3 H2 p s3 e2 e3
end
theorem lift_imp {K : PySem.W.Frag} {m : ME} {σ : L2.St} {H : Hp} {Q Q' : VK} (hm : Mono m) (h : lift K m σ H Q) (k : ∀ v H, Q v H → Q' v H) : lift K m σ H Q' := by
  obtain ⟨z, C, env, o, r, q⟩ := h
  exact lift_use hm o r q fun d v C' H' p t dn => k _ _ (p v C' H' t dn)
/-! ### own dicts -/
section
variable {X : Cx} {pos : Pos}
/-- x = {} -/
def mNewD (i : Nat) : MS := fun E env => E.nx (env.set i (some (true, dicOf [])))
theorem pds_newD {i : Nat} {st : Stmt} (hp : PS X st (tAsg tDNewK (gName i))) : PDS X st (mNewD i) := by
  refine ⟨fun z C0 H0 Cb => ps_imp hp fun N σ H ⟨C, env, s, q⟩ => ?_, fun E E' env l q => l.nx _ q⟩
  intro p hp
  have t : Tr z C H C (upd H p (.dK [])) := Tr.ext s.tr.ok (Ex.new hp)
  exact q _ C _ ((s.next t).setOwnU i (fresh_back s.tr.ok.ex hp) upd_same (hl_dicOf.mpr ⟨[], rfl, rfl⟩) (s.tr.free hp) (s.fresh hp))
theorem pds_setNewD (i : Nat) {x : Str} {py p2 : Pos} (hN : X.N.Nodup) (hi : X.N[i]? = some x := by rfl) (hx : Loc X.env.scope x := by first | exact Or.inl rfl | exact Or.inr rfl) (hs : swapsWith (.Dict [] [] p2) (some (.Name x py)) pos.line X.env = pure false := by rfl)
    (hf : X.fn x = true ∨ X.env.scope.names.lookup x = some .local := by first | exact .inl rfl | exact .inr rfl) : PDS X (.Assign [.Name x py] (.Dict [] [] p2) pos) (mNewD i) := pds_newD (ps_set hN hi hx pe_dnewK hs hf)
/-- x[k] = v, x an own dict -/
def mPutD (rs : List Nat) (i : Nat) (mv mk : ME) : MS := fun E env => (∃ kd0, env[i]? = some (some (true, dicOf kd0))) ∧ mv (view rs 0 env) fun d => mk (view rs 0 env) fun y => ∃ kd k, (aftL rs [d, y] env)[i]? = some (some (true, dicOf kd)) ∧ keyOf y = some k ∧ szOk (kd.length + 1) = true ∧
  E.nx ((aftL rs [d, y] env).set i (some (true, dicOf (putD kd k d))))
theorem SR.ownD {K : PySem.W.Frag} {z : Pz} {C0 H0 Cb C H : Hp} {env : SEnv} {σ : L2.St} (s : SR K z C0 H0 Cb C env σ H) (i : Nat) {kd : KL} (h : env[i]? = some (some (true, dicOf kd))) : ∃ a kvs, σ[i]? = some (some (.ref a)) ∧ C a = none ∧ H a = some (.dK kvs) ∧ KD K C z.p kd kvs ∧ H0 a = none := by
  obtain ⟨a, u, e2, e3, e4, e5, e7⟩ := s.own i _ h
  obtain ⟨kvs, rfl, e6⟩ := hl_dicOf.mp e5
  exact ⟨a, kvs, e2, e3, e4, e6, e7⟩
theorem pds_putD (rs : List Nat) {i : Nat} {o k v : Expr} {pos' : Pos} {mv mk : ME} (hu : X.A.units + 64 < cLine) (ho : PE X o (tVar i)) (hk : PD X k mk) (hv : PD X v mv) (hs : swapsWith v (some (.Subscript o k pos')) pos.line X.env = pure false := by rfl) :
    PDS X (.Assign [.Subscript o k pos'] v pos) (mPutD rs i mv mk) := by
  refine ⟨fun z C0 H0 Cb => ps_imp (ps_dput (by omega) ho hk.run hv.run hs) fun N σ H ⟨C, env, s, ⟨kd0, h0⟩, q⟩ => ?_, fun E E' env l ⟨q0, q⟩ => ⟨q0, hv.mono _ _ _ (fun d q => hk.mono _ _ _ (fun y ⟨kd, k, a, b, c, q⟩ => ⟨kd, k, a, b, c, l.nx _ q⟩) q) q⟩⟩
  obtain ⟨a, kvs0, ea, _, eH, _, _⟩ := s.ownD i h0
  have key := s.use2 (Q := fun v y H3 => ∃ (a' : Addr) (H4 : Hp), V.ref a = .ref a' ∧ DPut H3 a' y v H4 ∧ N.nx σ H4) rs hv.mono hk.mono q fun d y v w C' H' ⟨kd, k, e1, e2, e3, p⟩ s' d1 d2 => ?_
  · exact lift_imp hv.mono key fun v H1 h => ⟨.ref a, ea, h⟩
  · obtain ⟨b, kvs, f1, f2, f3, f4, f5⟩ := s'.ownD i e1
    rw [ea] at f1
    cases f1
    have hl := f4.len
    refine ⟨a, upd H' a (.dK (putK kvs k v)), rfl, ?_, p σ C' _ (s'.writeU e1 ea (hl_dicOf.mpr ⟨_, rfl, f4.put k d1⟩))⟩
    rw [key_dn e2 d2]
    exact .k f3 (by rw [hl]; exact sz_lt (by unfold szOk at e3 ⊢; simp at e3 ⊢; omega))
/-! ### in a list, str of a number -/
def inD (neg : Bool) : D → D → Option D
  | d, .lst es => if okEq d = true ∧ okEq (.lst es) = true then some (.bl (if neg then !((D.pys es).any fun z => PyData.eqv z d.py) else (D.pys es).any fun z => PyData.eqv z d.py)) else none
  | _, _ => none
theorem opd_in (hu : X.A.units + 65 < cLine) : OpD X (compareOp .In) (inD false) := by
  refine OpD.of _ (op_inD hu) fun z C H d e u x y Q o dx dy g k => ?_
  cases e with
  | lst es =>
    obtain ⟨⟨h1, h2⟩, rfl⟩ := ite_of g
    exact ⟨d.py, D.pys es, dx.dp o.ex d x (okEq_of h1).1, dy.dp o.ex (.lst es) y (okEq_of h2).1, (okEq_of h1).2, (okEq_of h2).2, k _ C H (Tr.refl o) (dn_bl.mpr rfl)⟩
  | _ => cases g
theorem opd_notin (hu : X.A.units + 65 < cLine) : OpD X (compareOp .NotIn) (inD true) := by
  refine OpD.of _ (op_notInD hu) fun z C H d e u x y Q o dx dy g k => ?_
  cases e with
  | lst es =>
    obtain ⟨⟨h1, h2⟩, rfl⟩ := ite_of g
    exact ⟨d.py, D.pys es, dx.dp o.ex d x (okEq_of h1).1, dy.dp o.ex (.lst es) y (okEq_of h2).1, (okEq_of h1).2, (okEq_of h2).2, k _ C H (Tr.refl o) (dn_bl.mpr rfl)⟩
  | _ => cases g
def strD : List D → Option D
  | [.int i] => if i.natAbs.log2 < 1920 then some (.str (Str.ofString (toString i))) else none
  | _ => none
theorem cd_str : CallD X (.type "str") strD := by
  refine ⟨_, call_str_int, fun z C H ds u xs Q o dn g k => ?_⟩
  unfold strD at g
  split at g
  · obtain ⟨hz, rfl⟩ := ite_of g
    obtain ⟨v, e1, e2⟩ := dns1 dn
    rw [dn_int.mp e2] at e1
    exact ⟨_, e1, hz, k _ C H (Tr.refl o) (dn_str.mpr rfl)⟩
  · cases g
/-! ### y = x.pop(e), x an own list -/
theorem Dns.erase {K : PySem.W.Frag} {C : Hp} {pu : Addr} : ∀ {ds : List D} {xs : List V} (n : Nat), Dns K C pu ds xs → Dns K C pu (ds.eraseIdx n) (xs.eraseIdx n)
  | [], xs, n, h => by rw [dns_nil.mp h]; simp only [List.eraseIdx_nil]; exact dns_nil.mpr rfl
  | d :: ds, xs, n, h => by
    obtain ⟨v, r, rfl, e2, e3⟩ := dns_cons.mp h
    cases n with
    | zero => exact e3
    | succ n => exact dns_cons.mpr ⟨v, _, rfl, e2, Dns.erase n e3⟩
def mPopAt (rs : List Nat) (i j : Nat) (m : ME) : MS := fun E env => (∃ ds0, env[j]? = some (some (true, .lst ds0))) ∧ m (view rs 0 env) fun d => ∃ n ds y, d = .int n ∧ (aft rs d env)[j]? = some (some (true, .lst ds)) ∧ 0 ≤ n ∧ n ≤ 4000000 ∧ ds[n.toNat]? = some y ∧
  E.nx (((aft rs d env).set j (some (true, .lst (ds.eraseIdx n.toNat)))).set i (some (false, y)))
theorem pds_popAt (rs : List Nat) {i j : Nat} {x : Str} {py : Pos} {o e : Expr} {apos cpos : Pos} {me : ME} (hN : X.N.Nodup) (ho : PE X o (tVar j)) (h : PD X e me) (hi : X.N[i]? = some x := by rfl) (hx : Loc X.env.scope x := by first | exact Or.inl rfl | exact Or.inr rfl)
    (h1 : attributeBase o "pop" X.env (eval o X.env) = eval o X.env := by rfl)
    (h2 : ((((backTo cpos (starEach [e] X.env)).all fun x => !x.1) && ((backToKw cpos (keywordEach [] X.env)).all fun x => x.1.isSome) && decide (([e] : List Expr).length + ([] : List Keyword).length + (if ([] : List Keyword).isEmpty = true then 0 else 1) < 30)) = true) := by rfl)
    (h3 : (apos.endLine == cpos.line) = true := by rfl) (h4 : starEach [e] X.env = (false, eval e X.env) :: starEach [] X.env := by rfl) (h5 : ((backTo cpos (starEach [] X.env)).any fun x => x.1) = false := by rfl)
    (hs : swapsWith (.Call (.Attribute o "pop" apos) [e] [] cpos) (some (.Name x py)) pos.line X.env = pure false := by rfl)
    (hf : X.fn x = true ∨ X.env.scope.names.lookup x = some .local := by first | exact .inl rfl | exact .inr rfl) : PDS X (.Assign [.Name x py] (.Call (.Attribute o "pop" apos) [e] [] cpos) pos) (mPopAt rs i j me) := by
  refine ⟨fun z C0 H0 Cb => ps_imp (ps_set hN hi hx (pe_bm PySem.F.plainAttrs_list PySem.F.slot_list_pop PySem.F.type_list_pop mt_popAt ho (pa_cons h.run pa_nil h4) h1 h2 h3 h4 h5) hs hf) fun N σ H ⟨C, env, s, q⟩ => ?_,
    fun E E' env l ⟨q0, q⟩ => ⟨q0, h.mono _ _ _ (fun d ⟨n, ds, y, a, b, c, e, f, q⟩ => ⟨n, ds, y, a, b, c, e, f, l.nx _ q⟩) q⟩⟩
  obtain ⟨⟨ds0, h0⟩, q⟩ := q
  obtain ⟨a, _, xs, _, ea, _, eH, _⟩ := s.ownL j _ h0
  refine ⟨.ref a, ea, .inl ⟨rfl, xs, sq_of eH⟩, ?_⟩
  refine s.use rs h.mono q fun d v C' H' ⟨n, ds, y, e1, e2, e3, e4, e5, p⟩ s' dn => ?_
  subst e1
  obtain ⟨b, ds', ys, f1, f2, f3, f4, f5, f6⟩ := s'.ownL j _ e2
  rw [ea] at f2
  cases f2
  cases f1
  obtain ⟨w, g1, g2⟩ := f5.get e5
  have hw := (List.getElem?_eq_some_iff.mp g1).1
  refine ⟨a, ys, n, n.toNat, w, rfl, by rw [dn_int.mp dn], f4, by omega, by omega, ?_, g1, ?_⟩
  · unfold seqIndex?
    rw [if_neg (show ¬ n < 0 by omega)]
    simp only [Bool.and_eq_true, decide_eq_true_eq]
    rw [if_pos ⟨e3, by omega⟩]
  · exact p _ C' _ ((s'.write e2 ea (f5.erase n.toNat)).set i g2)
/-! ### several own things at once -/
theorem aftL_lf' {rs : List Nat} {ds : List D} {env : SEnv} (h : D.lfs ds = true) : aftL rs ds env = env := if_pos h
theorem Dns.split {K : PySem.W.Frag} {C : Hp} {pu : Addr} : ∀ {ds es : List D} {xs ys : List V}, xs.length = ds.length → Dns K C pu (ds ++ es) (xs ++ ys) → Dns K C pu ds xs ∧ Dns K C pu es ys
  | [], es, [], ys, _, h => ⟨dns_nil.mpr rfl, h⟩
  | [], es, x :: xs, ys, hl, _ => by simp at hl
  | d :: ds, es, [], ys, hl, _ => by simp at hl
  | d :: ds, es, x :: xs, ys, hl, h => by
    obtain ⟨v, r, e1, e2, e3⟩ := dns_cons.mp h
    cases e1
    obtain ⟨h1, h2⟩ := Dns.split (by simpa using hl) e3
    exact ⟨dns_cons.mpr ⟨_, _, rfl, e2, h1⟩, h2⟩
theorem two_own {K : PySem.W.Frag} {z : Pz} {C0 H0 Cb C H C2 H2 : Hp} {env : SEnv} {σ : L2.St} (s : SR K z C0 H0 Cb C env σ H) {i j : Nat} {a b : Addr} {ds es : List D} {xs ys : List V} (s2 : SR K z C0 H0 Cb C2 env σ H2)
    (ha : H a = none) (hb : H b = none) (hab : a ≠ b) (ca : C2 a = none) (cb : C2 b = none) (ga : H2 a = some (.lst xs)) (gb : H2 b = some (.lst ys)) (d1 : Dns K C2 z.p ds xs) (d2 : Dns K C2 z.p es ys) :
    SR K z C0 H0 Cb C2 ((env.set i (some (true, .lst ds))).set j (some (true, .lst es))) ((σ.set i (some (.ref a))).set j (some (.ref b))) H2 := by
  refine (s2.setOwn i ca ga d1 (s.tr.free ha) (s.fresh ha)).setOwn j cb gb d2 (s.tr.free hb) fun l e h1 h2 => ?_
  by_cases hl : l = i
  · subst hl
    have hlen : l < σ.length := by
      have := (List.getElem?_eq_some_iff.mp h2).1
      simpa using this
    rw [List.getElem?_set_self hlen] at h2
    cases h2
    exact absurd rfl hab
  · rw [List.getElem?_set_ne (Ne.symm hl)] at h1 h2
    exact s.fresh hb l e h1 h2
/-- x, y = e1, e2: two lists of one's own -/
def mPar2OO (rs : List Nat) (i j : Nat) (m1 m2 : MA) : MS := fun E env => m1 (view rs 0 env) fun ds => m2 (view rs 0 env) fun es => D.lfs (ds ++ es) = true ∧ E.nx ((env.set i (some (true, .lst ds))).set j (some (true, .lst es)))
theorem pds_par2OO (rs : List Nat) {i j : Nat} {st : Stmt} {m1 m2 : MA} {e1 e2 : Expr} (h1 : PDO X e1 m1) (h2 : PDO X e2 m2) (hp : PS X st (tPar i j (tCons (liftO X.K m1) (tCons (liftO X.K m2) tNil)))) : PDS X st (mPar2OO rs i j m1 m2) := by
  refine ⟨fun z C0 H0 Cb => ps_imp hp fun N σ H ⟨C, env, s, q⟩ => ?_, fun E E' env l q => h1.mono _ _ _ (fun ds q => h2.mono _ _ _ (fun es ⟨a, q⟩ => ⟨a, l.nx _ q⟩) q) q⟩
  refine ⟨z, _, _, s.okP rs, s.envP rs, h1.mono _ _ _ (fun ds q a xs C1 H1 t1 g1 g2 g3 dn => ⟨z, C1, _, t1.ok, (s.envP rs).mono t1.cc, h2.mono _ _ _ (fun es ⟨hlf, p⟩ b ys C2 H2 t2 k1 k2 k3 dn2 => ?_) q⟩) q⟩
  have hb : H b = none := t1.free k1
  have hab : a ≠ b := fun e => by rw [e, k1] at g3; cases g3
  have na : a ≠ z.p ∧ a ≠ z.g := ⟨fun e => s.tr.ok.pur.pn (e ▸ g1), fun e => s.tr.ok.pur.gn (e ▸ g1)⟩
  have ga : H2 a = some (.lst xs) := t2.keep a _ g3 na.1 na.2
  have ca : C2 a = none := (t2.new a (by rw [g3]; exact fun q => nomatch q)).trans g2
  obtain ⟨C3, s3, dns, hc⟩ := s.after rs (t1.trans t2) ((dn.mono t2.cc).app dn2)
  rw [aftL_lf' hlf] at s3
  obtain ⟨d1, d2⟩ := Dns.split dn.len dns
  exact ⟨.ref a, .ref b, rfl, p _ C3 H2 (two_own s s3 g1 hb hab (hc a ca) (hc b k2) ga k3 d1 d2)⟩
/-- x, y = e1, e2: x a list of one's own, y shared -/
def mPar2OV (rs : List Nat) (i j : Nat) (m1 : MA) (m2 : ME) : MS := fun E env => m1 (view rs 0 env) fun ds => m2 (view rs 0 env) fun d => D.lfs (ds ++ [d]) = true ∧ E.nx ((env.set i (some (true, .lst ds))).set j (some (false, d)))
theorem pds_par2OV (rs : List Nat) {i j : Nat} {st : Stmt} {m1 : MA} {m2 : ME} {e1 e2 : Expr} (h1 : PDO X e1 m1) (h2 : PD X e2 m2) (hp : PS X st (tPar i j (tCons (liftO X.K m1) (tCons (lift X.K m2) tNil)))) : PDS X st (mPar2OV rs i j m1 m2) := by
  refine ⟨fun z C0 H0 Cb => ps_imp hp fun N σ H ⟨C, env, s, q⟩ => ?_, fun E E' env l q => h1.mono _ _ _ (fun ds q => h2.mono _ _ _ (fun es ⟨a, q⟩ => ⟨a, l.nx _ q⟩) q) q⟩
  refine ⟨z, _, _, s.okP rs, s.envP rs, h1.mono _ _ _ (fun ds q a xs C1 H1 t1 g1 g2 g3 dn => lift_use h2.mono t1.ok ((s.envP rs).mono t1.cc) q fun d v C2 H2 ⟨hlf, p⟩ t2 dn2 => ?_) q⟩
  have na : a ≠ z.p ∧ a ≠ z.g := ⟨fun e => s.tr.ok.pur.pn (e ▸ g1), fun e => s.tr.ok.pur.gn (e ▸ g1)⟩
  have ga : H2 a = some (.lst xs) := t2.keep a _ g3 na.1 na.2
  have ca : C2 a = none := (t2.new a (by rw [g3]; exact fun q => nomatch q)).trans g2
  obtain ⟨C3, s3, dns, hc⟩ := s.after rs (t1.trans t2) ((dn.mono t2.cc).app (Dns.one dn2))
  rw [aftL_lf' hlf] at s3
  obtain ⟨d1, d2⟩ := Dns.split dn.len dns
  obtain ⟨v', f1, f2⟩ := dns1 d2
  cases f1
  exact ⟨.ref a, v, rfl, p _ C3 H2 ((s3.setOwn i (hc a ca) ga d1 (s.tr.free g1) (s.fresh g1)).set j f2)⟩
/-- list(e) -/
def moList (m : ME) : MA := fun env Q => m env fun d => ∃ ds, listD [d] = some (.lst ds) ∧ Q ds
theorem pdo_list {e : Expr} {p : Pos} {me : ME} (h : PD X e me) (hm : X.mg "list" = none) (hg : Gl X "list" := by rfl) (he : starEach [e] X.env = (false, eval e X.env) :: starEach [] X.env := by rfl) (hpl : (backTo pos (starEach [] X.env)).any (·.1) = false := by rfl) :
    PDO X (.Call (.Name "list" p) [e] [] pos) (moList me) := by
  refine ⟨pe_imp (pe_callTy call_list_of hg hm boot_list (pa_cons h.run pa_nil he) (by decide) (by decide) he hpl) fun σ H Q q => ?_, fun env Q Q' i q => h.mono _ _ _ (fun d ⟨ds, a, q⟩ => ⟨ds, a, i _ q⟩) q⟩
  obtain ⟨z, C, env, o, r, q⟩ := q
  refine lift_use h.mono o r q fun d v C' H' ⟨ds, g, p⟩ t dn => ?_
  cases d with
  | lst ds' =>
    cases g
    obtain ⟨a, ys, f1, f2, f3⟩ := dn_lst.mp dn
    subst f1
    refine ⟨a, ys, rfl, .inl (ex_l t.ok.ex (sq_of f2)), fun l hl => ?_⟩
    exact p l ys C' _ (t.trans (Tr.ext t.ok (Ex.new hl))) (t.free hl) (fresh_back t.ok.ex hl) upd_same f3
  | tup ds' =>
    cases g
    obtain ⟨a, ys, f1, f2, f3⟩ := dn_tup dn
    subst f1
    refine ⟨a, ys, rfl, .inr (ex_t t.ok.ex f2), fun l hl => ?_⟩
    exact p l ys C' _ (t.trans (Tr.ext t.ok (Ex.new hl))) (t.free hl) (fresh_back t.ok.ex hl) upd_same f3
  | _ => cases g
end
end BV

/-! x[::-1] of lists and tuples. -/
namespace BV
open PySem PySem.Spec PyProof.Rows L2 Evl

theorem back_places (n : Nat) : Builtin.Slice.sliceAdjust none none (-1) (n : Int) = ((n : Int) - 1, -1) ∧ Builtin.Slice.slicePlaces ((n : Int) - 1) (-1) (-1) = n := by
  constructor
  · rfl
  · unfold Builtin.Slice.slicePlaces
    rw [if_neg (by decide)]
    by_cases h : n = 0
    · subst h
      rfl
    · rw [if_pos (by omega)]
      have : ((n : Int) - 1 - -1 - 1) / (- -1) + 1 = n := by
        rw [show (- -1 : Int) = 1 from rfl, Int.ediv_one]
        omega
      rw [this]
      rfl
theorem back_pick (xs : Array Value) : ((List.range xs.size).filterMap fun (m : Nat) => xs[(((xs.size : Nat) : Int) - 1 + (m : Int) * (-1)).toNat]?) = xs.toList.reverse := by
  apply List.ext_getElem?
  intro i
  have e : ∀ m ∈ List.range xs.size, xs[(((xs.size : Nat) : Int) - 1 + (m : Int) * (-1)).toNat]? = some (xs.toList.reverse.getD m .none) := by
    intro m hm
    have hm' : m < xs.size := List.mem_range.mp hm
    have h1 : (((xs.size : Nat) : Int) - 1 + (m : Int) * (-1)).toNat = xs.size - 1 - m := by omega
    rw [h1, List.getD_eq_getElem?_getD, List.getElem?_reverse (by simpa using hm'), Array.length_toList, Array.getElem?_toList, Array.getElem?_eq_getElem (by omega)]
    rfl
  have h2 : ((List.range xs.size).filterMap fun (m : Nat) => xs[(((xs.size : Nat) : Int) - 1 + (m : Int) * (-1)).toNat]?) = (List.range xs.size).map fun m => xs.toList.reverse.getD m .none := by
    have gen : ∀ (l : List Nat) (f : Nat → Option Value) (g : Nat → Value), (∀ m ∈ l, f m = some (g m)) → l.filterMap f = l.map g := by
      intro l f g
      induction l with
      | nil => intro _; rfl
      | cons a l ih =>
        intro hl
        rw [List.filterMap_cons, hl a (by simp), List.map_cons, ih fun m hm => hl m (by simp [hm])]
    exact gen _ _ _ e
  rw [h2, List.getElem?_map]
  by_cases hi : i < xs.size
  · rw [List.getElem?_range hi]
    show some (xs.toList.reverse.getD i .none) = _
    rw [List.getD_eq_getElem?_getD, List.getElem?_eq_getElem (by simpa using hi)]
    rfl
  · rw [List.getElem?_eq_none (by simpa using hi), List.getElem?_eq_none (by simpa using hi)]
    rfl
section
variable {prog : Program} {w : World} {A : Around} {E : Value → Shared → Prop} {s : Shared}
/-- a tuple turned about -/
theorem tuple_back {t sl : Addr} {items : Array Value} {vl vu vs : Value} {Q : Value → Shared → Prop} (ht : IsTup s.heap t items) (hs : s.heap.IsSliceOf sl vl vu vs) (pl : IsPart vl none) (pu : IsPart vu none) (ps : IsPart vs (some (-1))) (hz : items.size ≤ sizeLine)
    (h : Q (.ref s.heap.objs.size) { s with heap := s.heap.push { cls := .type "tuple", data := .seq items.toList.reverse.toArray } }) : wpAny (model prog w) A (getItem (.ref t) (.ref sl)) Q E s := by
  obtain ⟨so, hso, hsc, hsd⟩ := id hs
  have isSl : s.TypeIs (.ref sl) "slice" := ⟨so, hso, hsc⟩
  have okLen : sizeOk (.seq items.toList.reverse.toArray) := by
    show items.toList.reverse.toArray.size ≤ sizeLine
    simpa using hz
  unfold getItem
  try with_reducible refine wpAny_holding ?_
  first | refine wpAny_bind (wpAny_pure ?_) | skip
  refine wpAny_bind (wpAny_sequenceKey ht.typeIs (by decide) (wpAny_bind (wpAny_callSpecial?_slot (name := Str.ofString "__getitem__") ht.typeIs PyProof.Rows.slot_tuple_getitem (wpAny_call_entry PyProof.Rows.slot_tuple_getitem ht.typeIs PyProof.Rows.entry_tuple_getitem ?_ (PyProof.Rows.args_tuple_getitem _ _)))))
  show wpAny _ _ (Builtin.Tuple.tupleItemsOf (.ref t) >>= _) _ _ s
  refine wpAny_bind (PyProof.Rows.tupleItemsOf_ ht (wpAny_bind (wpAny_typeOf isSl ?_)))
  rw [if_pos (by decide)]
  have app : ∀ {R : Int × Int × Nat → Shared → Prop}, R ((items.size : Int) - 1, -1, items.size) s → wpAny (model prog w) A.in1 (Builtin.Slice.sliceApplied (.ref sl) (pure (items.size : Int))) R E s := fun {R} hR => by
    unfold Builtin.Slice.sliceApplied Builtin.Slice.sliceFields
    refine wpAny_bind (wpAny_bind (wpAny_field hso hsd (x := vl) rfl (wpAny_bind (wpAny_field hso hsd (x := vu) rfl (wpAny_bind (wpAny_field hso hsd (x := vs) rfl (wpAny_pure ?_)))))))
    refine wpAny_bind (HT.slicePart_ ps ?_)
    show wpAny _ _ (if ((-1 : Int) == 0) = true then _ else _) _ _ s
    rw [if_neg (by decide)]
    refine wpAny_bind (HT.slicePart_ pl (wpAny_bind (HT.slicePart_ pu (wpAny_bind (wpAny_pure (wpAny_pure ?_))))))
    show R ((Builtin.Slice.sliceAdjust none none (-1) (items.size : Int)).1, -1, Builtin.Slice.slicePlaces (Builtin.Slice.sliceAdjust none none (-1) (items.size : Int)).1 (Builtin.Slice.sliceAdjust none none (-1) (items.size : Int)).2 (-1)) s
    rw [(back_places items.size).1]
    show R ((items.size : Int) - 1, -1, Builtin.Slice.slicePlaces ((items.size : Int) - 1) (-1) (-1)) s
    rw [(back_places items.size).2]
    exact hR
  refine wpAny_bind (app ?_)
  have notAll : ¬ ((((items.size : Int) - 1 == 0) && ((-1 : Int) == 1) && (items.size == items.size)) = true) := by
    intro q
    rw [Bool.and_eq_true, Bool.and_eq_true] at q
    exact absurd (eq_of_beq q.1.2) (by decide)
  show wpAny _ _ (if (((items.size : Int) - 1 == 0) && ((-1 : Int) == 1) && (items.size == items.size)) = true then _ else _) _ _ s
  rw [if_neg notAll, back_pick]
  first
    | exact wpAny_bind (m := Builtin.Tuple.tupleExact _) (wpAny_newObj_type (wpAny_pure ⟨_, rfl, wpAny_pure h⟩) okLen)
    | exact wpAny_bind (wpAny_bind (m := Builtin.Tuple.tupleExact _) (wpAny_newObj_type (wpAny_pure ⟨_, rfl, wpAny_pure h⟩) okLen))
    | exact wpAny_bind (wpAny_bind (m := Builtin.Tuple.tupleExact _) (wpAny_newObj_type (wpAny_pure (wpAny_pure ⟨_, rfl, wpAny_pure h⟩)) okLen))
end
section
variable {X : Cx}
/-- x[::-1] -/
def tBack (K : PySem.W.Frag) (te : TE) : TE := fun σ H Q => te σ H fun x H1 => ∃ a xs, x = .ref a ∧ ((SqL K H1 a xs ∧ ∀ p, H1 p = none → Q (.ref p) (upd H1 p (.lst xs.reverse))) ∨ (SqT K H1 a xs ∧ ∀ p ob, ob.dict = none → H1 p = none → Q (.ref p) (upd H1 p (.frz ob (.tup xs.reverse)))))
theorem pe_back {e : Expr} {te : TE} {k : Nat} {p1 p2 p3 pos : Pos} (he : PE X e te) : PE X (.Subscript e (.Slice none none (some (.UnaryOp .USub (.Constant (.int 1) k p1) p2)) p3) pos) (tBack X.K te) := by
  have minus : PO X (some (.UnaryOp .USub (.Constant (.int 1) k p1) p2)) (tPart (tUn (rU fun i => .int (-i)) (tC (.int 1)))) := po_some (pe_un un_neg pe_int)
  refine ⟨fun pins s0 σ H0 Q I0 h => Subscript_ (thn (he.run pins s0 σ H0 _ I0 h) fun v s1 ⟨x, H1, I1, r1, a, xs, ex, way⟩ => ?_)⟩
  subst ex
  cases r1
  refine wpAny_Slice (thn (po_none.run pins s1 σ H1 (fun o H2 => o = none ∧ H2 = H1) I1 ⟨rfl, rfl⟩) fun vl s2 ⟨o2, H2, I2, pl, eo2, eh2⟩ => thn (po_none.run pins s2 σ H2 (fun o H3 => o = none ∧ H3 = H2) I2 ⟨rfl, rfl⟩) fun vu s3 ⟨o3, H3, I3, pu, eo3, eh3⟩ =>
    thn (minus.run pins s3 σ H3 (fun o H4 => o = some (-1) ∧ H4 = H3) I3 ⟨1, rfl, -1, rfl, rfl, rfl⟩) fun vs s4 ⟨o4, H4, I4, ps, eo4, eh4⟩ => ?_)
  subst eo2 eh2 eo3 eh3 eo4 eh4
  have I5 : Inv X pins σ H4 { s4 with heap := s4.heap.push { cls := .type "slice", data := .fields #[vl, vu, vs] } } := I4.kept (t' := s4.toks) fun _ _ z => Heap.get?_push_of_some _ z
  have slAt : ({ s4 with heap := s4.heap.push { cls := .type "slice", data := .fields #[vl, vu, vs] } } : Shared).heap.IsSliceOf s4.heap.objs.size vl vu vs := Heap.IsSliceOf.new _ vl vu vs
  show wpAny (model X.prog X.w) X.A (subscriptTail e (.Slice none none (some (.UnaryOp .USub (.Constant (.int 1) k p1) p2)) p3) (.ref a) (.ref s4.heap.objs.size)) (EP X pins σ Q) X.xe { s4 with heap := s4.heap.push { cls := .type "slice", data := .fields #[vl, vu, vs] } }
  rcases way with ⟨hq, q⟩ | ⟨hq, q⟩
  · obtain ⟨its, rv, pl', hz⟩ := I5.list hq
    have hlen := rv.length
    refine tail_any (ops := [.ref a, .ref s4.heap.objs.size]) pl'.isList.typeIs (PySem.slot_list_getitem.lookup) ?_ (by with_unfolding_all rfl)
    refine wpAny_getItem_list_slice pl'.isList slAt pl pu ps (by decide) ?_ (by rw [List.size_toArray]; omega)
    rw [PySem.W.krv_pick]
    refine ⟨.ref _, _, I5.laid (t' := s4.toks) (o := .lst xs.reverse) (fun _ _ z => Heap.get?_push_of_some _ z) (Nat.le_refl _) ?_, rfl, q _ (I5.hok.fresh (Nat.le_refl _))⟩
    exact ⟨by simpa using hz, _, 0, rv.reverse, Heap.get?_push_size _ rfl⟩
  · obtain ⟨its, rv, pt, hz⟩ := I5.tuple hq
    have hlen := rv.length
    refine tail_any (ops := [.ref a, .ref s4.heap.objs.size]) pt.typeIs (PyProof.Rows.slot_tuple_getitem.lookup) ?_ (by with_unfolding_all rfl)
    refine tuple_back pt slAt pl pu ps (by rw [List.size_toArray]; omega) ?_
    refine ⟨.ref _, _, I5.laid (t' := s4.toks) (o := .frz { cls := .type "tuple", data := .seq its.toArray.toList.reverse.toArray } (.tup xs.reverse)) (fun _ _ z => Heap.get?_push_of_some _ z) (Nat.le_refl _) ?_, rfl, q _ _ rfl (I5.hok.fresh (Nat.le_refl _))⟩
    exact ⟨Heap.get?_push_size _ rfl, by simpa using hz, its.reverse, rv.reverse, ⟨_, Heap.get?_push_size _ rfl, rfl, _, rfl⟩⟩
theorem Dns.rev {K : PySem.W.Frag} {C : Hp} {pu : Addr} : ∀ {ds : List D} {xs : List V}, Dns K C pu ds xs → Dns K C pu ds.reverse xs.reverse
  | [], xs, h => by rw [dns_nil.mp h]; exact dns_nil.mpr rfl
  | d :: ds, xs, h => by
    obtain ⟨v, r, rfl, e2, e3⟩ := dns_cons.mp h
    rw [List.reverse_cons, List.reverse_cons]
    exact (Dns.rev e3).app (Dns.one e2)
def backD : D → Option D
  | .lst ds => some (.lst ds.reverse)
  | .tup ds => some (.tup ds.reverse)
  | _ => none
def mBack (m : ME) : ME := fun env Q => m env fun d => ∃ u, backD d = some u ∧ Q u
theorem pd_back {e : Expr} {m : ME} {k : Nat} {p1 p2 p3 pos : Pos} (h : PD X e m) : PD X (.Subscript e (.Slice none none (some (.UnaryOp .USub (.Constant (.int 1) k p1) p2)) p3) pos) (mBack m) := by
  refine ⟨pe_imp (pe_back h.run) fun σ H Q q => ?_, fun env Q Q' i q => h.mono _ _ _ (fun d ⟨u, a, q⟩ => ⟨u, a, i _ q⟩) q⟩
  obtain ⟨z, C, env, o, r, q⟩ := q
  refine lift_use h.mono o r q fun d v C' H' ⟨u, g, p⟩ t dn => ?_
  cases d with
  | lst ds =>
    cases g
    obtain ⟨a, xs, e1, e2, e3⟩ := dn_lst.mp dn
    exact ⟨a, xs, e1, .inl ⟨ex_l t.ok.ex (sq_of e2), fun l hl => p _ _ _ (t.trans (Tr.put t.ok hl)) (dn_new_lst e3.rev (fresh_back t.ok.ex hl))⟩⟩
  | tup ds =>
    cases g
    obtain ⟨a, xs, e1, e2, e3⟩ := dn_tup dn
    exact ⟨a, xs, e1, .inr ⟨ex_t t.ok.ex e2, fun l ob hd hl => p _ _ _ (t.trans (Tr.put t.ok hl)) (dn_new_tup e3.rev (fresh_back t.ok.ex hl) hd)⟩⟩
  | _ => cases g
end
end BV

/-! Sets of words: adding, sorting. -/
namespace BV
open PySem PySem.Spec PyProof.Rows L2 Evl

/-- at a stands a set of the words l, which can be walked -/
def SetS (P : Program) (w : World) (h : Heap) (a : Addr) (l : List Str) : Prop :=
  ∃ D : Froz.SD, h.get? a = some (Froz.sObj "set" D) ∧ Froz.TxOk P w D l ∧ l.Nodup ∧ l.length < scanBound ∧ Ris D.2.2.place.toList ∧ (w.params.followText "set-order" = true ∨ D.2.2.led = true)
section
variable {P : Program} {w : World} {A : Around} {E : Value → Shared → Prop} {s : Shared} {a : Addr} {l : List Str}
theorem SetS.at {h h' : Heap} (R : SetS P w h a l) (k : ∀ o, h.get? a = some o → h'.get? a = some o) : SetS P w h' a l := by
  obtain ⟨D, e, r⟩ := R
  exact ⟨D, k _ e, r⟩
theorem place_off (t : SetTable) (h1 : Ris t.place.toList) : Ris (if t.plain = true then { t with plain := false } else t).place.toList := by
  split <;> exact h1
theorem led_off (t : SetTable) : (if t.plain = true then { t with plain := false } else t).led = t.led := by
  split <;> rfl
theorem add_walks {D : Froz.SD} {h : Int} {v : Value} (r : Ris D.2.2.place.toList) (hl : w.params.followText "set-order" = true ∨ D.2.2.led = true) :
    Ris (Froz.addTx h v D).2.2.place.toList ∧ (w.params.followText "set-order" = true ∨ (Froz.addTx h v D).2.2.led = true) := by
  have r1 := layNew_ris D.2.2 D.1 h v r
  have l1 := layNew_led D.2.2 D.1 h v
  unfold Froz.addTx Froz.tailTx
  generalize layNew D.2.2 D.1 h v = Z at r1 l1 ⊢
  obtain ⟨es1, t1, wasDummy, gave⟩ := Z
  dsimp only at r1 l1 ⊢
  have r2 := place_off t1 r1
  have l2 := led_off t1
  generalize (if t1.plain = true then { t1 with plain := false } else t1) = t2 at r2 l2 ⊢
  split
  · exact ⟨relayAll_ris _ _ _, hl.imp id fun z => by rw [relayAll_led, l2, l1]; exact z⟩
  · exact ⟨r2, hl.imp id fun z => by show t2.led = true; rw [l2, l1]; exact z⟩
theorem setS_add {x : Str} {tk : Tok} {Q : Value → Shared → Prop} (R : SetS P w s.heap a l) (room : l.length + 1 < scanBound)
    (hQ : ∀ h', (∀ b o, b ≠ a → s.heap.get? b = some o → h'.get? b = some o) → SetS P w h' a (if x ∈ l then l else x :: l) → Q .none { s with heap := h', toks := s.toks + 1 }) :
    wpAny (model P w) A (call (.builtin "set.add") [.ref a, .str x tk]) Q E s := by
  obtain ⟨⟨es, ep, t⟩, ho, F, nd, hb, r, hl⟩ := R
  have isSet : s.TypeIs (.ref a) "set" := ⟨_, ho, rfl⟩
  have isX := Froz.is_str (P := P) (w := w) x tk
  refine wpAny_call_entry PySem.F.slot_set_add isSet PySem.F.entry_set_add ?_ (PySem.F.args_set_add_2 _ _)
  unfold Builtin.«set.add» Builtin.Frozenset.oneOther
  simp only [List.isEmpty_nil, bind_assoc]
  unfold Builtin.Frozenset.addrOf setAdd
  refine wpAny_bind (wpAny_pure ?_)
  try dsimp only
  refine wpAny_bind (wpAny_pure ?_)
  try dsimp only
  refine wpAny_bind (wpAny_holding (wpAny_bind ((strKind P w).pyHash isX ?_)))
  by_cases hx : x ∈ l
  · -- it is there
    obtain ⟨e, he, his⟩ := (F.mem x).mp hx
    unfold setAddHashed setAddHashedIn
    refine wpAny_holding (wpAny_bind (wpAny_setState_of (s := { s with toks := s.toks + 1 }) ho rfl F.fit ?_))
    dsimp only
    rw [byScan_of rfl (by have hs : es.size = l.length := F.sz; rw [hs]; exact hb) F.el]
    simp only [↓reduceIte]
    unfold setAddByScan
    refine wpAny_bind (wpAny_bind (wpAny_rule (wpAny_bind (wpAny_setScan_of (knd := strKind P w) (k := x) isX ho rfl F.fit F.el ?_))))
    cases hf : List.findIdx? (fun e => (strKind P w).is x e.2) es.toList with
    | none => exact absurd his (by have := List.findIdx?_eq_none_iff.mp hf e he; simpa using this)
    | some j =>
      dsimp only
      refine wpAny_pure (wpAny_pure ?_)
      have q := hQ s.heap (fun _ _ _ z => z) (by rw [if_pos hx]; exact ⟨(es, ep, t), ho, F, nd, hb, r, hl⟩)
      exact wpAny_pure ⟨_, rfl, q⟩
  · show wpAny _ _ (setAddHashed a (.str x tk) (hashStr w x)) _ _ _
    refine Froz.add_x (s := { s with toks := s.toks + 1 }) ho F hx room ?_
    obtain ⟨r2, l2⟩ := add_walks (h := hashStr w x) (v := .str x tk) r hl
    have q := hQ (s.heap.update a fun _ => Froz.sObj "set" (Froz.addTx (hashStr w x) (.str x tk) (es, ep, t))) (fun b o hb z => by exact PySem.Heap.get?_update_of_ne _ (Ne.symm hb) z) (by
      rw [if_neg hx]
      exact ⟨_, Froz.get_upd _ ho rfl, Froz.add_ok tk F, List.nodup_cons.mpr ⟨hx, nd⟩, room, r2, l2⟩)
    exact wpAny_pure ⟨_, rfl, q⟩
theorem strs_of : ∀ (vs : List Value) (f : Value → Str), (∀ v ∈ vs, ∃ tk, v = .str (f v) tk) → StrsAre vs (vs.map f)
  | [], f, _ => .nil
  | v :: vs, f, h => by
    obtain ⟨tk, e⟩ := h v (by simp)
    have r := strs_of vs f fun u hu => h u (by simp [hu])
    rw [List.map_cons]
    generalize f v = x at e ⊢
    rw [e]
    exact .cons x tk r
theorem perm_of_sub : ∀ {l m : List Str}, l.Nodup → (∀ x ∈ l, x ∈ m) → m.length ≤ l.length → l.Perm m
  | [], m, _, _, h => by
    have : m = [] := List.eq_nil_of_length_eq_zero (by simpa using h)
    rw [this]
  | a :: l, m, nd, sub, h => by
    obtain ⟨na, nd'⟩ := List.nodup_cons.mp nd
    have ha := sub a (by simp)
    have p := List.perm_cons_erase ha
    refine (List.Perm.cons a (perm_of_sub nd' (fun x hx => ?_) ?_)).trans p.symm
    · exact (List.mem_erase_of_ne (fun e => na (by rw [← e]; exact hx))).mpr (sub x (by simp [hx]))
    · have := p.length_eq
      simp only [List.length_cons] at this h
      omega
def wordV : Value → Str
  | .str x _ => x
  | _ => Str.empty
theorem is_word {P : Program} {w : World} {k : Str} {v : Value} (h : (PySem.strKind P w).is k v = true) : ∃ tk, v = .str k tk := by
  have h : Value.isStrOf k v = true := h
  cases v with
  | str y t =>
    have e : y = k := by simpa [Value.isStrOf] using h
    exact ⟨t, by rw [e]⟩
  | _ => exact absurd h Bool.false_ne_true
/-- sorted of a set of words -/
theorem sorted_setS {Q : Value → Shared → Prop} (R : SetS P w s.heap a l) (hh : A.handled = none) (h64 : l.length < 64)
    (hQ : ∀ s' p (out : Array Value) (c : Nat) (ys : List Str), (∀ b o, s.heap.get? b = some o → s'.heap.get? b = some o) → s'.gens = s.gens → s'.os = s.os → s.heap.objs.size ≤ p →
      s'.heap.get? p = some (seqObj "list" out c) → StrsAre out.toList ys → ys.Perm l → sortedS ys = true → Q (.ref p) s') :
    wpAny (model P w) A (call (.builtin "sorted") [.ref a]) Q E s := by
  obtain ⟨⟨es, ep, t⟩, ho, F, nd, hb, r, hl⟩ := R
  have szl : es.size = l.length := F.sz
  refine Calls.call_function_entry kind_sorted plain_sorted entry_sorted (args_sorted1 _) ?_
  unfold Builtin.«sorted»
  refine wpAny_bind (m := checkCount "sorted" 1 1 _) (wpAny_pure ?_)
  refine wpAny_bind (collect_set (A := A.in1) (es := es) (ep := ep) (t := t) hh ⟨_, ho, rfl, rfl⟩ F.fit (by rw [szl]; exact hb) r hl fun s1 vs k1 hz g1 o1 pm => ?_)
  have len : vs.length = l.length := by rw [pm.length_eq, List.length_map, Array.length_toList, szl]
  have shape : ∀ e ∈ es.toList, ∃ tk, e.2 = .str (wordV e.2) tk := fun e he => by
    obtain ⟨⟨k, hk, _⟩, _⟩ := F.el e he
    obtain ⟨tk, e1⟩ := is_word hk
    exact ⟨tk, by rw [e1]; rfl⟩
  have words : StrsAre vs (vs.map wordV) := strs_of vs wordV fun v hv => by
    obtain ⟨e, he, rfl⟩ := List.mem_map.mp (pm.mem_iff.mp hv)
    exact shape e he
  have pw : l.Perm (vs.map wordV) := perm_of_sub nd (fun x hx => by
    obtain ⟨e, he, hk⟩ := (F.mem x).mp hx
    obtain ⟨tk, e1⟩ := is_word hk
    refine List.mem_map.mpr ⟨e.2, pm.mem_iff.mpr (List.mem_map.mpr ⟨e, he, rfl⟩), by rw [e1]; rfl⟩) (by rw [List.length_map, len]; exact Nat.le_refl _)
  refine wpAny_bind (wpAny_newList ?_ (by rw [len, sizeLine_eq]; omega))
  have lstAt : (s1.heap.push (seqObj "list" vs.toArray 0)).get? s1.heap.objs.size = some (seqObj "list" vs.toArray 0) := Heap.get?_push_size _ rfl
  refine wpAny_bind (wpAny_holding (wpAny_call_entry slot_list_sort ⟨_, lstAt, rfl⟩ entry_list_sort (list_sort_treeK strKind_oneLt lstAt words.keysOf (fun v₁ v₂ rest e => keyKind_strs (by rw [← e]; exact words)) (by rw [len]; exact h64) fun st' a1 a2 => ⟨_, rfl, ?_⟩) (args_list_sort _)))
  obtain ⟨ys, b1, b2, b3⟩ := sorted_out_str words a1 a2
  obtain ⟨c, hc⟩ := sortedHeap_at (vs := vs) (out := (arrOf st').map (·.2)) lstAt
  refine wpAny_pure ⟨_, rfl, hQ _ s1.heap.objs.size _ c ys (fun b u e => ?_) g1 o1 hz hc b1 (b2.trans pw.symm) b3⟩
  have old := k1 b u e
  have lt := Heap.lt_size old
  show (sortedHeap (s1.heap.push (seqObj "list" vs.toArray 0)) s1.heap.objs.size vs ((arrOf st').map (·.2))).get? b = some u
  rw [sortedHeap_old (Nat.ne_of_lt lt) (by rw [size_push']; exact Nat.lt_succ_of_lt lt)]
  exact Heap.get?_push_of_some _ old
end
/-! ### on the tracked heap -/
def SetSO (P : Program) (w : World) (a : Addr) (l : List Str) : HO := .ext fun h => SetS P w h a l
theorem setSO_new {P : Program} {w : World} {H : Hp} {h : Heap} {a : Addr} {l : List Str} (R : SetS P w h a l) : ObjOk P w H h a (SetSO P w a l) := by
  have ⟨D, e, _⟩ := R
  exact ⟨R, ⟨_, e⟩, fun h1 h2 p k => SetS.at p k⟩
section
variable {X : Cx}
def rSortedSS (P : Program) (w : World) : List V → Hp → VK → Prop := fun vs H Q => ∃ (a : Addr) (l : List Str), vs = [V.ref a] ∧ H a = some (SetSO P w a l) ∧ l.length < 64 ∧
  ∀ (ys : List Str) (p : Addr), ys.Perm l → sortedS ys = true → H p = none → Q (.ref p) (upd H p (.lst (ys.map V.str)))
theorem cr_sortedSS (hc : X.calm = true) : CallR X (.builtin "sorted") (rSortedSS X.prog X.w) := by
  intro pins s σ H vs us Q I r h
  obtain ⟨a, l, rfl, ha, h64, q⟩ := h
  have R : SetS X.prog X.w s.heap a l := (I.hok a _ ha).1
  rw [Vals.ref1 r]
  refine sorted_setS R (I.ok.hd hc) h64 fun s' p out c ys k g o hp hg hi hs hm => ?_
  have hlen : (ys.map V.str).length ≤ sizeLine := by rw [List.length_map, hs.length_eq, sizeLine_eq]; omega
  have fresh : H p = none := I.hok.fresh hp
  have J : Inv X pins σ (upd H p (.lst (ys.map V.str))) { s with heap := s'.heap, gens := s'.gens, drawn := s'.drawn, toks := s'.toks } :=
    I.call (ch := []) (Un.laid k hp fresh) (I.hok.laid k hp ⟨hlen, out.toList, c, vals_of_strs hi, hg⟩) (by rw [g]; exact I.bare) (fun _ z => nomatch z)
  have same : s' = { s with heap := s'.heap, gens := s'.gens, drawn := s'.drawn, toks := s'.toks } := by
    cases s'
    cases s
    cases o
    rfl
  rw [same]
  exact ⟨.ref p, _, J, rfl, q ys p hs hm fresh⟩
end
end BV

/-! {e for x in xs if t} of words. -/
namespace BV
open PySem PySem.Spec PyProof.Rows L2 Evl PpSet

section
variable {X : Cx}
theorem setSO_get {pins : List (Addr × Obj)} {σ : L2.St} {H : Hp} {s : Shared} {a : Addr} {l : List Str} (I : Inv X pins σ H s) (ha : H a = some (SetSO X.prog X.w a l)) : SetS X.prog X.w s.heap a l := (I.hok a _ ha).1
theorem add_word {pins : List (Addr × Obj)} {σ : L2.St} {H : Hp} {s : Shared} {E : Value → Shared → Prop} {D : Addr} {l : List Str} {y : Str} {tk : Tok} {Q : Value → Shared → Prop} (I : Inv X pins σ H s) (hD : H D = some (SetSO X.prog X.w D l)) (room : l.length + 1 < scanBound)
    (h : ∀ s', Inv X pins σ (upd H D (SetSO X.prog X.w D (if y ∈ l then l else y :: l))) s' → Q .none s') : wpAny (model X.prog X.w) X.A (call (.builtin "set.add") [.ref D, .str y tk]) Q E s :=
  setS_add (setSO_get I hD) room fun h' kp new => h _ (I.write (e := D) (t' := s.toks + 1) (by rw [hD]; trivial) (.inl rfl) (fun b u hb hu => kp b u hb hu) (let ⟨_, e, _⟩ := new; ⟨_, e⟩) (setSO_new new))
theorem empty_set {P : Program} {w : World} {h : Heap} {D : Addr} (e : h.get? D = some { cls := .type "set", dict := none, data := .set #[] 0 (.fresh 0 0 (!w.params.followText "set-order")) }) : SetS P w h D [] := by
  refine ⟨(#[], 0, .fresh 0 0 (!w.params.followText "set-order")), e, Froz.TxOk.nil (by rfl), List.nodup_nil, by decide, List.Pairwise.nil, ?_⟩
  show _ ∨ (!w.params.followText "set-order") = true
  cases w.params.followText "set-order"
  · exact .inr rfl
  · exact .inl rfl
/-- {elt for target in iter if ..}, elt a word; D the new set -/
def tSw (P : Program) (w : World) (wi : TI) (g : TG) (tt : TT) (te : TE) (vs : List Nat) : TE := fun σ H Q => wi σ H fun J H1 => ∀ D, H1 D = none → ∃ W : Nat → Nat → Hp → Prop, (∃ m, W 0 m (upd H1 D (SetSO P w D []))) ∧ ∀ i m H, W i m H →
  (J.stop i H ∧ Q (.ref D) H) ∨ (J.go i H ∧ ∃ Nx : Hp → Prop, (∀ H', Nx H' → ∃ m', m' < m ∧ W (i + 1) m' H') ∧ ∀ x H', J.yld i H x H' → g x (L2.wipe σ vs) H' fun σ2 H2 => L2.wipe σ2 vs = L2.wipe σ vs ∧ tt σ2 H2 fun b H3 =>
    if b = true then te σ2 H3 fun y H4 => ∃ (c : Str) (l : List Str), y = .str c ∧ H4 D = some (SetSO P w D l) ∧ l.length + 1 < scanBound ∧ Nx (upd H4 D (SetSO P w D (if c ∈ l then l else c :: l))) else Nx H3)
theorem pe_sw {elt tg iter : Expr} {ifs : List Expr} {scope : Scope} {own : List (Str × Nat)} {pos : Pos} {wi : TI} {g : TG} {tt : TT} {te : TE} (calm : X.calm = true) (nodup : X.N.Nodup) (over : PI X tg iter wi) (blk : BlkOk X.N X.env.scope scope own)
    (tgt : ∀ (s : Shared) (H : Hp) (C : Addr) (cl : List (Str × Addr)) (fp : List Addr), PG (X.blk s H scope (compEnvC scope cl C X.env) fp) tg g) (tst : ∀ (s : Shared) (H : Hp) (C : Addr) (cl : List (Str × Addr)) (fp : List Addr), PTs (X.blk s H scope (compEnvC scope cl C X.env) fp) ifs tt)
    (val : ∀ (s : Shared) (H : Hp) (C : Addr) (cl : List (Str × Addr)) (fp : List Addr), PE (X.blk s H scope (compEnvC scope cl C X.env) fp) elt te) (plain : ∀ x, foldedSetIterable iter X.env x = pure x := by intro _; rfl) :
    PE X (.SetComp elt [⟨tg, iter, ifs, 0⟩] scope pos) (tSw X.prog X.w wi g tt te (own.map (·.2))) := by
  refine ⟨fun pins s0 σ H0 Q I0 start => ?_⟩
  rw [eval_SetComp]
  have captured : ∀ y ∈ scope.names, y.2 = .free → ∃ c, X.env.cells.lookup y.1 = some c := fun y hy e => (blk.free y hy e).elim (fun k => I0.ok.has _ (.inl k)) fun k => I0.ok.has _ (.inr k)
  refine wpAny_comprehension_free (use := none) rfl plain (closure_ok captured) blk.kind (fun y hy e => by rw [blk.uniq y hy, e])
    (thn (over.run pins s0 σ H0 _ I0 start) fun xv s1 got => thn got fun itv s2 got2 => ?_)
  obtain ⟨it, fp, tn, J, H2, e, I2, T, at0, away, q⟩ := got2
  subst e
  refine newSet_ok (newEnv_comp ?_)
  -- the new set at D
  generalize atD : s2.heap.objs.size = D
  obtain ⟨W, ⟨m0, w0⟩, turn⟩ := q D (I2.hok.fresh (Nat.le_of_eq atD))
  generalize made : ({ s2 with heap := s2.heap.push { cls := .type "set", dict := none, data := .set #[] 0 (.fresh 0 0 (!X.w.params.followText "set-order")) } } : Shared) = s3
  have heap3 : s3.heap = s2.heap.push { cls := .type "set", dict := none, data := .set #[] 0 (.fresh 0 0 (!X.w.params.followText "set-order")) } := by rw [← made]
  have I3 : Inv X pins σ (upd H2 D (SetSO X.prog X.w D [])) s3 := by
    rw [← made]
    refine I2.laid (t' := s2.toks) (fun b o z => Heap.get?_push_of_some _ z) (Nat.le_of_eq atD) (setSO_new (empty_set ?_))
    rw [← atD]
    exact Heap.get?_push_size _ rfl
  have small : ∀ b ∈ fp, b < s2.heap.objs.size := fun b hb => let ⟨_, z, _⟩ := T.obj _ _ at0 b hb; Heap.lt_size z
  have away3 : ∀ b ∈ fp, FpOk X pins (upd H2 D (SetSO X.prog X.w D [])) b ∧ b < s3.heap.objs.size := fun b hb => by
    have lt := small b hb
    refine ⟨⟨?_, (away b hb).2⟩, by rw [heap3, Heap.size_push]; exact Nat.lt_succ_of_lt lt⟩
    rw [upd_ne (by rw [← atD]; exact Nat.ne_of_lt lt)]
    exact (away b hb).1
  have at3 : tn 0 s3.heap := T.keep _ _ _ at0 fun b _ o z => by rw [heap3]; exact Heap.get?_push_of_some _ z
  have I4 := block_start I3 blk nodup away3
  generalize cells : cellsFrom (s3.heap.objs.size + 1) scope.names (cloFrom X.env.cells scope.names []) = cl at I4 ⊢
  have tg' := tgt s3 (upd H2 D (SetSO X.prog X.w D [])) s3.heap.objs.size cl fp
  have ts' := tst s3 (upd H2 D (SetSO X.prog X.w D [])) s3.heap.objs.size cl fp
  have va' := val s3 (upd H2 D (SetSO X.prog X.w D [])) s3.heap.objs.size cl fp
  show codeAny _ _ (.compStart (.SetComp elt [⟨tg, iter, ifs, 0⟩] scope pos) 0 (.ref it) (.ref D) (compEnvC scope cl s3.heap.objs.size X.env)) (compPost (model X.prog X.w) X.A X.xe none (EP X pins σ Q) (.ref D) s3.heap.objs.size) { s3 with heap := pushCells (s3.heap.push { cls := .type "dict", data := .dict #[] }) scope.names }
  have none3 : ∀ b ∈ fp, (upd H2 D (SetSO X.prog X.w D [])) b = none := fun b hb => (away3 b hb).1.1
  generalize inner : compEnvC scope cl s3.heap.objs.size X.env = ce at I4 tg' ts' va' ⊢
  have itsLoc : ce.locals = s3.heap.objs.size := by subst inner; rfl
  generalize upd H2 D (SetSO X.prog X.w D []) = H3 at I3 I4 tg' ts' va' w0 none3 away3
  generalize opened : ({ s3 with heap := pushCells (s3.heap.push { cls := .type "dict", data := .dict #[] }) scope.names } : Shared) = s4 at I4 ⊢
  have at4 : tn 0 s4.heap := T.keep _ _ _ at3 fun b _ o z => by rw [← opened]; exact pushCells_keeps _ _ _ _ (Heap.get?_push_of_some _ z)
  have frames : ∀ {σ' : L2.St} {H' : Hp} {s' : Shared}, Inv (X.blk s3 H3 scope ce fp) [] σ' H' s' → (∀ b ∈ fp, H' b = none) → ∀ b ∈ fp, FpOk (X.blk s3 H3 scope ce fp) [] H' b := fun {σ' H' s'} J' hn b hb =>
    ⟨hn b hb, (J'.ok.exf b hb).1, J'.ok.exfs b hb, .inl hb, fun x c z => (J'.ok.exf b hb).2 x c z, fun p hp => absurd (show p ∈ ([] : List (Addr × Obj)) ++ [] from hp) (by simp)⟩
  have loop : codeAny (model X.prog X.w) X.A (.compLoop (.SetComp elt [⟨tg, iter, ifs, 0⟩] scope pos) 0 (.ref it) (.ref D) ce) (compPost (model X.prog X.w) X.A X.xe none (EP X pins σ Q) (.ref D) s3.heap.objs.size) s4 := by
    refine compLoopS_any (fun n s' => ∃ i H', Inv (X.blk s3 H3 scope ce fp) [] (L2.wipe σ (own.map (·.2))) H' s' ∧ tn i s'.heap ∧ (∀ b ∈ fp, H' b = none) ∧ W i n H') (fun n s5 ⟨i, H5, I5, at5, none5, w5⟩ => ?_) m0 ⟨0, H3, I4, at4, none3, w0⟩
    rcases turn i n H5 w5 with ⟨stop, result⟩ | ⟨go, Nx, less, step⟩
    · -- the end: back in the def
      refine thnF (T.done (X.blk s3 H3 scope ce fp) rfl rfl rfl calm i [] s5 _ H5 (fun _ _ => False) I5 (frames I5 none5) at5 stop) fun r s6 ⟨hr, I6⟩ => ?_
      subst hr
      have back : Inv X pins σ H5 s6 := I3.call' (ch := fp) I6.os I6.base I6.hok I6.bare fun b hb => ⟨(away3 b hb).1.2.2.2.1, (away3 b hb).1.2.1, (away3 b hb).1.2.2.2.2.1, (away3 b hb).1.2.2.2.2.2⟩
      have noLoc : H5 s3.heap.objs.size = none := itsLoc ▸ I6.free
      obtain ⟨m, names, _⟩ := I6.loc
      have names : s6.heap.Ns s3.heap.objs.size m := itsLoc ▸ (show s6.heap.Ns ce.locals m from names)
      obtain ⟨f0, f1, f2, f3, f4, f5⟩ := I3.fpOk (Nat.le_refl _) noLoc
      exact ⟨m, names, fun h'' sb => ⟨.ref D, H5, back.turned (t' := s6.toks) (fun b o hb z => (sb.2 b hb).trans z) f0 f1 f3 f4 f5, rfl, result⟩⟩
    · refine thnF (T.item (X.blk s3 H3 scope ce fp) rfl rfl rfl calm i [] s5 _ H5 (fun _ _ => False) I5 (frames I5 none5) at5 go) fun r s6 ⟨u, hr, got6⟩ => ?_
      subst hr
      refine thnF got6 fun _ s7 ⟨x, H7, I7, r7, y7, at7, none7⟩ => ?_
      refine thnF (tg'.run _ s7 _ H7 x u _ (I7.pinned (frames I7 none7) (T.obj _ _ at7)) r7 (step x H7 y7)) fun _ s8 ⟨σ8, H8, I8, same8, q8⟩ => thnF (ts'.run _ s8 σ8 H8 _ I8 q8) fun b s9 ⟨H9, I9, q9⟩ => ?_
      have turned : ∀ {s' : Shared} {H' : Hp}, Inv (X.blk s3 H3 scope ce fp) ([] ++ pinsAt fp s7.heap) σ8 H' s' → Nx H' → ∃ m, m < n ∧ ∃ i H', Inv (X.blk s3 H3 scope ce fp) [] (L2.wipe σ (own.map (·.2))) H' s' ∧ tn i s'.heap ∧ (∀ b ∈ fp, H' b = none) ∧ W i m H' := fun {s' H'} J' nx => by
        obtain ⟨m', lt, w'⟩ := less H' nx
        have pinned : ∀ b ∈ fp, ∀ o, s7.heap.get? b = some o → s'.heap.get? b = some o ∧ H' b = none := fun b hb o z =>
          let k := J'.pin (b, o) (List.mem_append_right _ (List.mem_append_right _ (mem_pinsAt hb z)))
          ⟨k.1, k.2.1⟩
        refine ⟨m', lt, i + 1, H', (J'.unpinned (pins := [])).weak (by rw [← same8, wipe_length]) (fun j v z => (wipe_some (same8 ▸ z)).1), T.keep _ _ _ at7 fun b hb o z => (pinned b hb o z).1, fun b hb => ?_, w'⟩
        obtain ⟨o, z, _⟩ := T.obj _ _ at7 b hb
        exact (pinned b hb o z).2
      cases b with
      | false =>
        simp only [Bool.false_eq_true, if_false] at q9 ⊢
        exact turned I9 q9
      | true =>
        simp only [if_true] at q9 ⊢
        refine thnF (va'.run _ s9 σ8 H9 _ I9 q9) fun v s10 ⟨yv, H10, I10, r10, c, l, ey, hD10, room, nx⟩ => ?_
        subst ey
        obtain ⟨tk, rfl⟩ := r10
        exact add_word (X := X.blk s3 H3 scope ce fp) I10 hD10 room fun s11 I11 => turned I11 nx
  exact PpSet.codeAny_compStart_set loop (T.self X.A 0 _ _ _ at4 loop)
end
end BV

/-! sorted({e for x in xs if t}) of words, by value. -/
namespace BV
open PySem PySem.Spec PyProof.Rows L2 Evl

def swGo (t : Tgt) (mt : MT) (me : ME) (env : Env) : List D → List Str → (List Str → Prop) → Prop
  | [], acc, Q => Q acc
  | x :: xs, acc, Q => ∃ env1, t.put idD x env = some env1 ∧ mt env1 fun b => if b = true then me env1 fun y => ∃ c, y = .str c ∧ swGo t mt me env xs (if c ∈ acc then acc else c :: acc) Q else swGo t mt me env xs acc Q
theorem swGo_mono {t : Tgt} {mt : MT} {me : ME} (h1 : MonoT mt) (h2 : Mono me) {env : Env} {Q Q' : List Str → Prop} (i : ∀ l, Q l → Q' l) : ∀ (xs : List D) (acc : List Str), swGo t mt me env xs acc Q → swGo t mt me env xs acc Q'
  | [], acc, h => i _ h
  | x :: xs, acc, ⟨env1, e, h⟩ => ⟨env1, e, h1 _ _ _ (fun b h => by
      cases b with
      | true => exact h2 _ _ _ (fun y ⟨c, hy, h⟩ => ⟨c, hy, swGo_mono h1 h2 i xs _ h⟩) h
      | false => exact swGo_mono h1 h2 i xs _ h) h⟩
/-- the words that are met, sorted -/
def mSortSet (vs : List Nat) (mi : MI) (t : Tgt) (mt : MT) (me : ME) : MA := fun env Q => mi env fun items => items.length < 60 ∧ swGo t mt me (wipeE env vs) items [] fun l => ∀ ys, ys.Perm l → sortedS ys = true → Q (ys.map D.str)
theorem dns_words {K : PySem.W.Frag} {C : Hp} {pu : Addr} : ∀ ys : List Str, Dns K C pu (ys.map D.str) (ys.map V.str)
  | [] => dns_nil.mpr rfl
  | y :: ys => dns_cons.mpr ⟨_, _, rfl, dn_str.mpr rfl, dns_words ys⟩
section
variable {X : Cx} {elt tg iter : Expr} {ifs : List Expr} {scope : Scope} {own : List (Str × Nat)} {pos p2 p3 : Pos} {mi : MI} {t : Tgt} {mt : MT} {me : ME}
theorem sw_core {K : PySem.W.Frag} {P0 : Program} {w0 : World} {z : Pz} {C H : Hp} {env : Env} {σ : L2.St} {J : It} {items : List D} {vs : List Nat} {P : List Str → Prop} {Q : VK} (o : Ok z C H) (r : EnvR K z C env σ) (it : ItD K z J items C) (h1 : MonoT mt) (h2 : Mono me) (ht : ∀ i ∈ t.sl, i ∈ vs)
    (hz : items.length < 60) (q : swGo t mt me (wipeE env vs) items [] P) (k : ∀ l N C' H', P l → l.length < 60 → Tr z C H C' H' → H' N = some (SetSO P0 w0 N l) → Q (.ref N) H') :
    ∀ N, H N = none → ∃ W : Nat → Nat → Hp → Prop, (∃ m, W 0 m (upd H N (SetSO P0 w0 N []))) ∧ ∀ i m H, W i m H →
      (J.stop i H ∧ Q (.ref N) H) ∨ (J.go i H ∧ ∃ Nx : Hp → Prop, (∀ H', Nx H' → ∃ m', m' < m ∧ W (i + 1) m' H') ∧ ∀ x H', J.yld i H x H' → t.g K x (L2.wipe σ vs) H' fun σ2 H2 => L2.wipe σ2 vs = L2.wipe σ vs ∧ liftT K mt σ2 H2 fun b H3 =>
        if b = true then lift K me σ2 H3 fun y H4 => ∃ (c : Str) (l : List Str), y = .str c ∧ H4 N = some (SetSO P0 w0 N l) ∧ l.length + 1 < scanBound ∧ Nx (upd H4 N (SetSO P0 w0 N (if c ∈ l then l else c :: l))) else Nx H3) := by
  intro N hN
  obtain ⟨G, Y, w, hG, hY⟩ := it.ex
  have hCN : C N = none := fresh_back o.ex hN
  have nNp : N ≠ z.p := fun e => o.pur.pn (by rw [← e]; exact hN)
  have nNg : N ≠ z.g := fun e => o.pur.gn (by rw [← e]; exact hN)
  let Pv : Nat → Hp → Prop := fun i Hc => ∃ C' l, Tr z C H C' Hc ∧ C' N = none ∧ Hc N = some (SetSO P0 w0 N l) ∧ l.length ≤ i ∧ swGo t mt me (wipeE env vs) (items.drop i) l P
  have begin_ : Pv 0 (upd H N (SetSO P0 w0 N [])) := ⟨C, [], Tr.ext o (Ex.new hN), hCN, upd_same, Nat.le_refl _, by simpa using q⟩
  refine ⟨fun i m Hc => m = items.length - i ∧ i ≤ items.length ∧ Pv i Hc, ⟨items.length, by simp, Nat.zero_le _, begin_⟩, ?_⟩
  rintro i m Hc ⟨rfl, hi, C', l, t1, c1, c2, c4, q'⟩
  have held := hG Hc (t1.cc.trans t1.ok.ex)
  by_cases hlt : i < items.length
  · refine .inr ⟨w.goes i Hc hlt held, Pv (i + 1), fun H' p' => ⟨items.length - (i + 1), by omega, rfl, hlt, p'⟩, fun x Hd hy => ?_⟩
    obtain ⟨d, C2, g1, g2, g3⟩ := hY i Hc x Hd hlt (w.yields i Hc x Hd hlt held hy) C' t1.cc t1.ok
    have hd : items.drop i = d :: items.drop (i + 1) := by
      rw [List.drop_eq_getElem_cons hlt]
      congr 1
      rw [List.getElem?_eq_getElem hlt] at g1
      exact Option.some.inj g1
    rw [hd] at q'
    obtain ⟨env1, e1, q1⟩ := q'
    have t2 := t1.trans g2
    have hnn : Hc N ≠ none := by rw [c2]; exact fun q => nomatch q
    refine EnvR.put ((r.mono t2.cc).wipe vs) g2.ok.ex ht g3 e1 fun σ2 s2 w2 => ⟨w2, z, C2, env1, g2.ok, s2, h1 _ _ _ (fun b q2 C3 H3 t3 => ?_) q1⟩
    have t23 := g2.trans t3
    have hN3 : H3 N = some (SetSO P0 w0 N l) := t23.keep N _ c2 nNp nNg
    have hC3 : C3 N = none := (t23.new N hnn).trans c1
    cases b with
    | false => exact ⟨C3, l, t1.trans t23, hC3, hN3, Nat.le_succ_of_le c4, q2⟩
    | true =>
      show lift K me σ2 H3 _
      refine ⟨z, C3, env1, t3.ok, s2.mono t3.cc, h2 _ _ _ (fun d2 ⟨c, hc, q3⟩ v C4 H4 t4 dn4 => ?_) q2⟩
      subst hc
      have t24 := t23.trans t4
      have hN4 : H4 N = some (SetSO P0 w0 N l) := t24.keep N _ c2 nNp nNg
      have hC4 : C4 N = none := (t24.new N hnn).trans c1
      refine ⟨c, l, dn_str.mp dn4, hN4, ?_, C4, _, Tr.mut o (t1.trans t24) hN hC4, hC4, upd_same, ?_, q3⟩
      · exact Nat.lt_of_lt_of_le (by omega : l.length + 1 < 100) (by decide)
      · split
        · omega
        · simp only [List.length_cons]; omega
  · have e : i = items.length := by omega
    subst e
    rw [List.drop_of_length_le (Nat.le_refl _)] at q'
    exact .inl ⟨w.stops Hc held, k l N C' Hc q' (by omega) t1 c2⟩
theorem pd_sortSet {x : Str} (hc : X.calm = true) (hN : X.N.Nodup) (hm : X.mg "sorted" = none) (hi : PDI X tg iter mi) (ok : BlkOk X.N X.env.scope scope own) (ht : ∀ i ∈ t.sl, i ∈ own.map (·.2))
    (hg : ∀ (s : Shared) (H : Hp) (C : Addr) (cl : List (Str × Addr)) (fp : List Addr), PG (X.blk s H scope (compEnvC scope cl C X.env) fp) tg (t.g X.K)) (hts : ∀ (s : Shared) (H : Hp) (C : Addr) (cl : List (Str × Addr)) (fp : List Addr), PDTs (X.blk s H scope (compEnvC scope cl C X.env) fp) ifs mt)
    (he : ∀ (s : Shared) (H : Hp) (C : Addr) (cl : List (Str × Addr)) (fp : List Addr), PD (X.blk s H scope (compEnvC scope cl C X.env) fp) elt me) (hs : ∀ x, foldedSetIterable iter X.env x = pure x := by intro _; rfl)
    (hgl : Gl X "sorted" := by rfl) (h4 : starEach [Expr.SetComp elt [⟨tg, iter, ifs, 0⟩] scope pos] X.env = (false, eval (.SetComp elt [⟨tg, iter, ifs, 0⟩] scope pos) X.env) :: starEach [] X.env := by rfl) (hpl : (backTo p3 (starEach [] X.env)).any (·.1) = false := by rfl) :
    PDO X (.Call (.Name "sorted" p2) [.SetComp elt [⟨tg, iter, ifs, 0⟩] scope pos] [] p3) (mSortSet (own.map (·.2)) mi t mt me) := by
  have h1 := (hts X.s_0 X.H_0 0 [] []).mono
  have h2 := (he X.s_0 X.H_0 0 [] []).mono
  refine ⟨pe_imp (pe_callB (cr_sortedSS hc) hgl hm boot_sorted (pa_cons (pe_sw (tt := liftT X.K mt) (te := lift X.K me) hc hN hi.run ok hg (fun s H C cl fp => (hts s H C cl fp).run) (fun s H C cl fp => (he s H C cl fp).run) hs) pa_nil h4) (by decide) (by decide) h4 hpl) fun σ H Q q => ?_,
    fun env Q Q' i q => hi.mono _ _ _ (fun items ⟨a, q⟩ => ⟨a, swGo_mono h1 h2 (fun l f ys p s => i _ (f ys p s)) _ _ q⟩) q⟩
  obtain ⟨z, C, env, o, r, q⟩ := q
  refine ⟨z, C, env, o, r, hi.mono _ _ _ (fun items ⟨hz, q⟩ J C' H' t1 it => ?_) q⟩
  refine sw_core (P0 := X.prog) (w0 := X.w) (Q := fun x H1 => rSortedSS X.prog X.w [x] H1 Q) t1.ok (r.mono t1.cc) it h1 h2 ht hz q fun l N C2 H2 p hl t2 hN2 => ?_
  refine ⟨N, l, rfl, hN2, by omega, fun ys pp hp hs hf => ?_⟩
  have t := t1.trans t2
  exact p ys hp hs pp _ C2 _ (t.trans (Tr.ext t.ok (Ex.new hf))) (t.free hf) (fresh_back t.ok.ex hf) upd_same (dns_words ys)
end
end BV

/-! Two keywords in the other order. -/
namespace BV
open PySem PySem.Spec PyProof.Rows L2 Evl
def sw2 {α : Type} : List α → List α
  | [a, b] => [b, a]
  | l => l
theorem Fun.kwbS {K : PySem.W.Frag} {x qual : Str} {st : Stmt} {f : Addr} {fd : FuncData} {ps ks : List Str} (F : Fun K x qual st f fd) (h2 : ks.length = 2)
    (h : ∀ (kV doc pm : Value) (an : Option Addr) (cdv ct : Value) (v u : Value), bindArgs (PySem.W.fnOf x qual (defArgs st) (defBody st) (defScope st) .none kV doc pm an cdv ct) ⟨[], ks.zip [v, u]⟩ = pure (ps.zip [u, v])) : KwB K fd ps ks sw2 sw2 := by
  obtain ⟨oc, od, kV, doc, pm, an, cdv, ct, osl, rfl, lk, hcd⟩ := F.ex
  refine ⟨fun s ws _ hl _ => ?_, fun {zs ws} r => ?_⟩
  · rw [h2] at hl
    match ws, hl with
    | [v, u], _ => exact .of_eq (h kV doc pm an cdv ct v u)
  · match zs, ws, r with
    | _, _, .nil => exact .nil
    | _, _, .cons a .nil => exact .cons a .nil
    | _, _, .cons a (.cons b .nil) => exact .cons b (.cons a .nil)
    | _, _, .cons a (.cons b (.cons c r)) => exact .cons a (.cons b (.cons c r))
structure KnS (P : Program) (w : World) (K : PySem.W.Frag) (mg : Str → Option Value) (base : Heap) (x : Str) (k : Nat) (ps ks : List Str) (sp : SpD) : Prop where
  ex : ∃ (f : Addr) (fd : FuncData), FnD P w K mg base k f fd ps sp ∧ PySem.W.keepIn K (.ref f) = true ∧ mg x = some (.ref f) ∧ KwB K fd ps ks sw2 sw2
theorem KnS.says {P : Program} {w : World} {K : PySem.W.Frag} {mg : Str → Option Value} {base : Heap} {x : Str} {k : Nat} {ps ks : List Str} {sp sp' : SpD} (F : KnS P w K mg base x k ps ks sp) (h : ∀ ds T, sp' ds T → sp ds T) : KnS P w K mg base x k ps ks sp' := by
  obtain ⟨f, fd, a, b⟩ := F.ex
  exact ⟨f, fd, a.says h, b⟩
section
variable {X : Cx} {pos : Pos}
def mCallS (sp : SpD) (m : MA) : ME := fun env Q => m env fun ds => ds.length = 2 ∧ ∃ T : D → Prop, sp (sw2 ds) T ∧ ∀ d, T d → Q d
theorem pd_callNS {j k : Nat} {ps ks : List Str} {sp : SpD} {x : Str} {p : Pos} {kws : List Keyword} {m : MA} (G : KnS X.prog X.w X.K X.mg X.base x j ps ks sp) (hr : Room k X.A) (hj : j ≤ k) (hgd : X.A.guards = some []) (h : PDK X kws m) (h2 : ks.length = 2 := by rfl)
    (hall : (backToKw pos (keywordEach kws X.env)).all (·.1.isSome) = true := by rfl) (hks : (backToKw pos (keywordEach kws X.env)).filterMap (·.1) = ks := by rfl) (hg : Gl X x := by rfl) (hdb : (x == ("__debug__" : Str)) = false := by decide)
    (hpl : ((backTo pos (starEach [] X.env)).any (·.1) || (backToKw pos (keywordEach kws X.env)).any (·.1.isNone)) = false := by rfl) : PD X (.Call (.Name x p) [] kws pos) (mCallS sp m) := by
  obtain ⟨f, fd, F, kp, gm, kb⟩ := G.ex
  refine ⟨pe_imp (pe_callGK F (hr.mono hj) hgd hg gm kp kb pass0 h.run hall hks hdb hpl) fun σ H Q q => ?_, fun env Q Q' i q => h.mono env _ _ (fun ds ⟨a, T, q, k⟩ => ⟨a, T, q, fun d hT => i d (k d hT)⟩) q⟩
  obtain ⟨z, C, env, o, r, q⟩ := q
  refine liftA_use h.mono o r q fun ds vs C' H' ⟨hl, p⟩ t dn => ?_
  match ds, hl with
  | [d, e], _ =>
    obtain ⟨v, w, e1, e2, e3⟩ := dns2 dn
    subst e1
    refine ⟨by rw [h2]; rfl, ?_⟩
    show liftF X.K sp [w, v] H' Q E0
    exact call_use t (dns_cons.mpr ⟨w, [v], rfl, e3, Dns.one e2⟩) p
theorem pds_p2OO (rs : List Nat) (i j : Nat) {x y : Str} {a b : Expr} {m1 m2 : MA} {px py pt pt2 : Pos} {kt k2 : Nat} (hc : X.calm = true) (hN : X.N.Nodup) (h1 : PDO X a m1) (h2 : PDO X b m2) (hi : X.N[i]? = some x := by rfl) (hj : X.N[j]? = some y := by rfl) (hij : i ≠ j := by decide)
    (hx : X.env.scope.names.lookup x = some .local := by rfl) (hy : X.env.scope.names.lookup y = some .local := by rfl) (hw : swappedStores [.Tuple [.Name x px, .Name y py] kt pt] (.Tuple [a, b] k2 pt2) X.env = pure (some [x, y]) := by rfl)
    (hs : swapsWithSole [.Tuple [.Name x px, .Name y py] kt pt] (.Tuple [a, b] k2 pt2) pos.line X.env = pure false := by rfl) (sa : starEach [a, b] X.env = (false, eval a X.env) :: starEach [b] X.env := by rfl) (sb : starEach [b] X.env = (false, eval b X.env) :: starEach [] X.env := by rfl) :
    PDS X (.Assign [.Tuple [.Name x px, .Name y py] kt pt] (.Tuple [a, b] k2 pt2) pos) (mPar2OO rs i j m1 m2) :=
  pds_par2OO rs h1 h2 (ps_par hc hN hi hj hij hx hy (pa_cons h1.run (pa_cons h2.run pa_nil sb) sa) hw hs)
theorem pds_p2OV (rs : List Nat) (i j : Nat) {x y : Str} {a b : Expr} {m1 : MA} {m2 : ME} {px py pt pt2 : Pos} {kt k2 : Nat} (hc : X.calm = true) (hN : X.N.Nodup) (h1 : PDO X a m1) (h2 : PD X b m2) (hi : X.N[i]? = some x := by rfl) (hj : X.N[j]? = some y := by rfl) (hij : i ≠ j := by decide)
    (hx : X.env.scope.names.lookup x = some .local := by rfl) (hy : X.env.scope.names.lookup y = some .local := by rfl) (hw : swappedStores [.Tuple [.Name x px, .Name y py] kt pt] (.Tuple [a, b] k2 pt2) X.env = pure (some [x, y]) := by rfl)
    (hs : swapsWithSole [.Tuple [.Name x px, .Name y py] kt pt] (.Tuple [a, b] k2 pt2) pos.line X.env = pure false := by rfl) (sa : starEach [a, b] X.env = (false, eval a X.env) :: starEach [b] X.env := by rfl) (sb : starEach [b] X.env = (false, eval b X.env) :: starEach [] X.env := by rfl) :
    PDS X (.Assign [.Tuple [.Name x px, .Name y py] kt pt] (.Tuple [a, b] k2 pt2) pos) (mPar2OV rs i j m1 m2) :=
  pds_par2OV rs h1 h2 (ps_par hc hN hi hj hij hx hy (pa_cons h1.run (pa_cons h2.run pa_nil sb) sa) hw hs)
theorem aftL_own {rs : List Nat} {ds : List D} {env : SEnv} {l : Nat} {e : D} (h : (aftL rs ds env)[l]? = some (some (true, e))) : env[l]? = some (some (true, e)) := by
  unfold aftL at h
  split at h
  · exact h
  · exact (frz_own h).1
/-- x, y = e1, e2 by way of a tuple: x shared, y a list of one's own -/
def mTt2VO (rs : List Nat) (i j : Nat) (m1 : ME) (m2 : MA) : MS := fun E env => m1 (view rs 0 env) fun d => m2 (view rs 0 env) fun es => E.nx (((aftL rs (d :: es) env).set i (some (false, d))).set j (some (true, .lst es)))
theorem pds_ttVO (rs : List Nat) (i j : Nat) {a b tg : Expr} {m1 : ME} {m2 : MA} {pt2 : Pos} {k2 : Nat} (h1 : PD X a m1) (h2 : PDO X b m2) (hg : PG X tg ((Tgt.tp [i, j]).g X.K)) (hs : swapsWithSole [tg] (.Tuple [a, b] k2 pt2) pos.line X.env = pure false := by rfl)
    (hw : swappedStores [tg] (.Tuple [a, b] k2 pt2) X.env = pure none := by rfl) (h3 : (assignEach [tg] X.env).map (·.2) = [assign tg X.env] := by rfl) (sa : starEach [a, b] X.env = (false, eval a X.env) :: starEach [b] X.env := by rfl) (sb : starEach [b] X.env = (false, eval b X.env) :: starEach [] X.env := by rfl) :
    PDS X (.Assign [tg] (.Tuple [a, b] k2 pt2) pos) (mTt2VO rs i j m1 m2) := by
  refine ⟨fun z C0 H0 Cb => ps_imp (ps_asg (pe_tup (pa_cons h1.run (pa_cons h2.run pa_nil sb) sa)) hg hs hw h3) fun N σ H ⟨C, env, s, q⟩ => ?_, fun E E' env l q => h1.mono _ _ _ (fun ds q => h2.mono _ _ _ (fun es q => l.nx _ q) q) q⟩
  refine ⟨z, _, _, s.okP rs, s.envP rs, h1.mono _ _ _ (fun d q v C1 H1 t1 dn => ⟨z, C1, _, t1.ok, (s.envP rs).mono t1.cc, h2.mono _ _ _ (fun es p b ys C2 H2 t2 k1 k2 k3 dn2 => ?_) q⟩) q⟩
  have hb : H b = none := t1.free k1
  obtain ⟨C3, s3, dns, hc⟩ := s.after rs (t1.trans t2) (dns_cons.mpr ⟨v, ys, rfl, dn.mono t2.cc, dn2⟩ : Dns X.K C2 z.p (d :: es) (v :: ys))
  obtain ⟨v', r', e1, d1, d2⟩ := dns_cons.mp dns
  cases e1
  refine ⟨by rw [sizeLine_eq]; show 2 ≤ _; decide, fun tp htp => ?_⟩
  have nb : b ≠ tp := fun e => by rw [e] at k3; rw [k3] at htp; cases htp
  have s4 := s3.next (Tr.ext s3.tr.ok (Ex.new htp) : Tr z C3 H2 C3 (upd H2 tp (.tup [v, .ref b])))
  refine ⟨tp, [v, .ref b], rfl, st_of upd_same, rfl, v, [.ref b], rfl, .ref b, [], rfl, rfl, ?_⟩
  refine p _ C3 _ ((s4.set i d1).setOwn j (hc b k2) (by rw [upd_ne nb]; exact k3) d2 (s.tr.free hb) fun l e g1 g2 => ?_)
  by_cases hl : l = i
  · subst hl
    have := (List.getElem?_eq_some_iff.mp g1).1
    rw [List.getElem?_set_self (by simpa using this)] at g1
    cases g1
  · rw [List.getElem?_set_ne (Ne.symm hl)] at g1 g2
    exact s.fresh hb l e (aftL_own g1) g2
end
theorem u65 {k : Nat} {A : Around} (r : Room k A) : A.units + 65 < cLine := by have := r.un; omega
end BV

/-! Sorting of tuples whose first items are words, or tuples; sorted(xs, key=f). -/
namespace BV
open PySem PySem.Spec PyProof.Rows L2 Evl

def keyFirst (b : Bool) : D → Bool
  | .tup (.str _ :: _) => b
  | .tup (.tup _ :: _) => !b
  | _ => false
def okKey (b : Bool) (d : D) : Bool := keyFirst b d && okEq d && decide (d.py.depth ≤ 50) && d.np
theorem okKey_of {b : Bool} {d : D} (h : okKey b d = true) : keyFirst b d = true ∧ okEq d = true ∧ d.py.depth ≤ 50 ∧ d.np = true := by
  simp only [okKey, Bool.and_eq_true, decide_eq_true_eq] at h
  exact ⟨h.1.1.1, h.1.1.2, h.1.2, h.2⟩
theorem lex_later {prog : Program} {w : World} {A : Around} {s : Shared} {z b : Bool} {Q : Bool → Shared → Prop} (q : Q b s) : ∀ {vs ws : List Value}, LexR A s z vs ws b → ∀ i, PySem.W.KatLex prog w A.in1 true z Q (vs.zip ws) (i + 1) s
  | _, _, .nil, i => by rw [List.zip_nil_left]; exact PySem.W.kat_nil q
  | _, _, .nil2, i => by rw [List.zip_nil_right]; exact PySem.W.kat_nil q
  | _, _, .eq he hr, i => by
    rw [List.zip_cons_cons]
    exact PySem.W.kat_cons (he prog w _ _ (PySem.W.kat_yes (lex_later q hr (i + 1))))
  | _, _, .ne he hr, i => by
    rw [List.zip_cons_cons]
    exact PySem.W.kat_cons (he prog w _ _ (PySem.W.kat_no (PySem.W.kat_one _ _ (hr prog w _ _ q))))
section
variable {prog : Program} {w : World} {A : Around} {s : Shared} {z b : Bool} {Q : Bool → Shared → Prop}
theorem lex_words {x y : Str} {ds es : List D} {vs us : List Value} {as bs : List Addr} (r1 : ReadsAll s.heap vs (D.pys (.str x :: ds)) as) (r2 : ReadsAll s.heap us (D.pys (.str y :: es)) bs) (c1 : PyData.canLayAll0 (D.pys (.str x :: ds)) = true) (c2 : PyData.canLayAll0 (D.pys (.str y :: es)) = true)
    (h : ltOs (.str x :: ds) (.str y :: es) = some b) (hu : A.units + PyData.depthAll (D.pys (.str x :: ds)) + 2 < cLine) (hz : z = decide (ds.length < es.length)) (q : Q b s) : PySem.W.KatLex prog w A.in1 true z Q (vs.zip us) 0 s := by
  simp only [D.pys] at r1 r2
  cases r1 with
  | cons h1 h2 =>
    cases r2 with
    | cons k1 k2 =>
      have c1' : (D.str x).py.canLay0 = true ∧ PyData.canLayAll0 (D.pys ds) = true := by simpa [D.pys, PyData.canLayAll0] using c1
      have c2' : (D.str y).py.canLay0 = true ∧ PyData.canLayAll0 (D.pys es) = true := by simpa [D.pys, PyData.canLayAll0] using c2
      have hd : A.units + max (D.str x).py.depth (PyData.depthAll (D.pys ds)) + 2 < cLine := by simpa [D.pys, PyData.depthAll] using hu
      have heq := PySem.SeqAt.eqAt_reads (D.str x).py (D.str y).py A.in1 s _ _ _ _ h1 k1 c1'.1 c2'.1 (by show A.units + 1 + _ < _; omega)
      simp only [ltOs] at h
      rw [List.zip_cons_cons]
      refine PySem.W.kat_cons (heq prog w _ _ ?_)
      by_cases hq : PyData.eqv (D.str x).py (D.str y).py = true
      · rw [if_pos hq] at h
        rw [hq]
        exact PySem.W.kat_yes (lex_later q (lts_reads ds es b A z _ _ _ _ h2 k2 c1'.2 c2'.2 h (by omega) hz) 0)
      · rw [if_neg hq] at h
        rw [Bool.not_eq_true] at hq
        rw [hq]
        simp only [ltO, Option.some.injEq] at h
        subst h
        simp only [D.py] at h1 k1
        cases h1
        cases k1
        exact PySem.W.kat_no (PyProof.Rows.oneLt_str q)
end
/-- the first items -/
theorem kat_heads {h : Heap} {b : Bool} : ∀ {us : List Value} {ds : List D}, Paired (fun u d => (∃ as, Reads h u (D.py d) as) ∧ keyFirst b d = true) us ds → ∃ fs, PySem.W.KatTups h us fs ∧ fs.length = us.length ∧ ∀ f ∈ fs, (b = true ∧ ∃ x t, f = .str x t) ∨ (b = false ∧ ∃ (a : Addr) (o : Obj), f = .ref a ∧ h.get? a = some o ∧ o.cls = .type "tuple")
  | _, _, .nil => ⟨[], PySem.W.KatTups.nil, rfl, fun f m => (nomatch m)⟩
  | u :: us, d :: ds, .cons ⟨⟨as, r⟩, t⟩ hr => by
    obtain ⟨fs, h1, h2, h3⟩ := kat_heads hr
    match d, t, r with
    | .tup (.tup es :: ds'), t, r =>
      simp only [D.py, D.pys] at r
      cases r with
      | tuple k1 k2 k3 k4 =>
        rename_i a o vs n
        obtain ⟨l⟩ := vs
        have k4' : ReadsAll h l (PyData.tuple (D.pys es) :: D.pys ds') _ := k4
        cases k4' with
        | cons m1 m2 =>
          cases m1 with
          | tuple g1 g2 g3 g4 =>
            rename_i a2 o2 vs2 n2
            refine ⟨.ref a2 :: fs, PySem.W.KatTups.cons k1 k2 k3 (by simp) h1, by simp [h2], fun f m => ?_⟩
            rcases List.mem_cons.mp m with e | m
            · exact .inr ⟨by simpa [keyFirst] using t, _, _, e, g1, g2⟩
            · exact h3 f m
    | .tup (.str x :: ds'), t, r =>
      simp only [D.py, D.pys] at r
      cases r with
      | tuple k1 k2 k3 k4 =>
        rename_i a o vs n
        obtain ⟨l⟩ := vs
        have k4' : ReadsAll h l (PyData.str x :: D.pys ds') _ := k4
        cases k4' with
        | cons m1 m2 =>
          cases m1
          rename_i tk
          refine ⟨.str x tk :: fs, PySem.W.KatTups.cons k1 k2 k3 (by simp) h1, by simp [h2], fun f m => ?_⟩
          rcases List.mem_cons.mp m with e | m
          · exact .inl ⟨by simpa [keyFirst] using t, _, _, e⟩
          · exact h3 f m
theorem kind_at {P : Program} {w : World} {A : Around} {s : Shared} {b : Bool} {us : List Value} {ds : List D} {Q : SortKind → Shared → Prop} {E : Value → Shared → Prop} (hp : Paired (fun u d => (∃ as, Reads s.heap u (D.py d) as) ∧ keyFirst b d = true) us ds) (hne : 0 < us.length) (hq : Q (tuples' b) s) :
    wpAny (model P w) A (keyKind' us.toArray) Q E s := by
  obtain ⟨fs, f1, f2, f3⟩ := kat_heads hp
  cases b with
  | true =>
    refine PySem.W.kat_kind (T := .type "str") f1 (by omega) (fun f hf => ?_) (by rfl) ?_
    · rcases f3 f hf with ⟨_, x, t, rfl⟩ | ⟨e, _⟩
      · exact PySem.W.Looks.now
      · cases e
    · have e : (Value.type "str" != Value.type "tuple") = true := by first | decide +kernel | rfl | decide
      rw [e]
      exact hq
  | false =>
    refine PySem.W.kat_kind (T := .type "tuple") f1 (by omega) (fun f hf => ?_) (by rfl) ?_
    · rcases f3 f hf with ⟨e, _⟩ | ⟨_, a, ob, rfl, g1, g2⟩
      · cases e
      · have : PySem.W.Looks (model P w) s.heap (typeOf (.ref a)) ob.cls := (PySem.W.Looks.ld g1).andThen .now
        rw [g2] at this
        exact this
    · exact hq
/-- two such keys are compared -/
theorem keys_lt {P : Program} {w : World} {A : Around} {s : Shared} {b : Bool} {u v : Value} {d e : D} {c : Bool} {as bs : List Addr} {Q : Bool → Shared → Prop} {E : Value → Shared → Prop} (hu : A.units + 64 < cLine) (h1 : okKey b d = true) (h2 : okKey b e = true) (r1 : Reads s.heap u d.py as) (r2 : Reads s.heap v e.py bs)
    (h : ltO d e = some c) (q : Q c s) : wpAny (model P w) A.in1 (keyLt' (tuples' b) u v) Q E s := by
  obtain ⟨f1, o1, dp1, _⟩ := okKey_of h1
  obtain ⟨f2, o2, dp2, _⟩ := okKey_of h2
  have c1 := canLay_ok o1
  have c2 := canLay_ok o2
  match d, e, f1, f2, r1, r2, h, c1, c2, dp1 with
  | .tup (.tup xs :: ds), .tup (.tup ys :: es), f1, _, r1, r2, h, c1, c2, dp1 =>
    have hb : b = false := by simpa [keyFirst] using f1
    subst hb
    simp only [D.py] at r1 r2
    cases r1 with
    | tuple k1 k2 k3 k4 =>
      cases r2 with
      | tuple m1 m2 m3 m4 =>
        rename_i o1 v1 n1 a2 ob2 v2 n2
        simp only [ltO] at h
        have g1 := PySem.SeqAt.ReadsAll.length _ _ _ k4
        have g2 := PySem.SeqAt.ReadsAll.length _ _ _ m4
        simp only [D.py, PyData.depth] at dp1
        have lx := lts_reads (s := s) _ _ _ A (decide (v1.size < v2.size)) _ _ _ _ k4 m4 (by simpa [D.py, PyData.canLay0] using c1) (by simpa [D.py, PyData.canLay0] using c2) h (by omega)
          (by rw [← Array.length_toList, ← Array.length_toList, g1, g2, pys_len, pys_len])
        exact PySem.W.kat_lt k1 k3 m1 m3 (lex_kat (Q := Q) q lx 0)
  | .tup (.str x :: ds), .tup (.str y :: es), f1, _, r1, r2, h, c1, c2, dp1 =>
    have hb : b = true := by simpa [keyFirst] using f1
    subst hb
    simp only [D.py] at r1 r2
    cases r1 with
    | tuple k1 k2 k3 k4 =>
      cases r2 with
      | tuple m1 m2 m3 m4 =>
        rename_i o1 v1 n1 a2 ob2 v2 n2
        simp only [ltO] at h
        have g1 := PySem.SeqAt.ReadsAll.length _ _ _ k4
        have g2 := PySem.SeqAt.ReadsAll.length _ _ _ m4
        simp only [D.py, PyData.depth] at dp1
        exact PySem.W.kat_lt k1 k3 m1 m3 (lex_words (Q := Q) k4 m4 (by simpa [D.py, PyData.canLay0] using c1) (by simpa [D.py, PyData.canLay0] using c2) h (by omega)
          (by rw [← Array.length_toList, ← Array.length_toList, g1, g2, pys_len, pys_len]; simp) q)
  | .tup (.tup xs :: ds), .tup (.str y :: es), f1, f2, r1, r2, h, c1, c2, dp1 => cases b <;> simp [keyFirst] at f1 f2
  | .tup (.str xs :: ds), .tup (.tup y :: es), f1, f2, r1, r2, h, c1, c2, dp1 => cases b <;> simp [keyFirst] at f1 f2
end BV

/-! sorted(xs, key=f), f a def that keeps its promise. -/
namespace BV
open PySem PySem.Spec PyProof.Rows L2 Evl

/-- the list that is being sorted: empty, untouched -/
def atD (D : Addr) (e : Nat) : HO := .ext fun h => h.get? D = some (seqObj "list" #[] e)
theorem atD_ok {P : Program} {w : World} {H : Hp} {h : Heap} {D : Addr} {e : Nat} (q : h.get? D = some (seqObj "list" #[] e)) : ObjOk P w H h D (atD D e) := ⟨q, ⟨_, q⟩, fun h1 h2 q1 k => k _ q1⟩
theorem lstOk {P : Program} {w : World} {H : Hp} {h : Heap} {a : Addr} {xs : List V} {its : List Value} {n : Nat} (hz : xs.length ≤ sizeLine) (r : Vals xs its) (e : h.get? a = some (seqObj "list" its.toArray n)) : ObjOk P w H h a (.lst xs) := ⟨hz, its, n, r, e⟩
section
variable {X : Cx} {k : Nat} {f : Addr} {fd : FuncData} {p : Str} {sp : SpD}
theorem key_call (F : FnD X.prog X.w X.K X.mg X.base k f fd [p] sp) (hr : Room k X.A.in1.in1) (hgd : X.A.guards = some []) (hb : Binds X.K fd [p] []) {pins : List (Addr × Obj)} {σ : L2.St} {H : Hp} {s : Shared} (I : Inv X pins σ H s) {x : V} {u : Value} (rv : RelV x u) {Q : VK}
    {E : Value → Shared → Prop} (q : liftF X.K sp [x] H Q E0) : wpAny (model X.prog X.w) X.A.in1.in1 (call (.ref f) [u]) (EP X pins σ Q) E s := by
  have hbt := hb s [u] I.kIn rfl
  have e0 := I.env0
  refine wpAny_call (codeAny_mono (F.go X.A.in1.in1 X.stack s H _ [u] [x] Q E0 hr hgd ⟨e0.frames, e0.mod, e0.bs, e0.bsz, e0.funs, e0.frf, e0.hok, e0.bare⟩ hbt (.cons rv .nil) q) fun r s' z => ?_)
  match r, z with
  | .error _, z => exact z.elim
  | .ok (.ret _), z => exact I.after z
  | .ok .next, z => exact z.elim
  | .ok .brk, z => exact z.elim
  | .ok .cont, z => exact z.elim
/-- what sorted(xs, key=f) leaves -/
def SortK (K : PySem.W.Frag) (z : Pz) (C H : Hp) (ds : List D) (lt : D → D → Bool) (Q : VK) : Prop :=
  ∀ (out : List D) (outv : List V) (p : Addr) (C' H' : Hp), SrtO.Srtd lt out → SrtO.Stb lt out ds → Tr z C H C' H' → H p = none → C' p = none → H' p = some (.lst outv) → Dns K C' z.p out outv → Q (.ref p) H'
theorem sorted_key (hu : X.A.units + 70 < cLine) (F : FnD X.prog X.w X.K X.mg X.base k f fd [p] sp) (hr : Room k X.A.in1.in1) (hgd : X.A.guards = some []) (hb : Binds X.K fd [p] []) {pins : List (Addr × Obj)} {σ : L2.St} {H : Hp} {s : Shared} (I : Inv X pins σ H s)
    {z : Pz} {C : Hp} {a : Addr} {vs : List V} {ds : List D} {kf : D → D} {ltf : D → D → Bool} {b : Bool} (o : Ok z C H) (ha : C a = some (.lst vs)) (dn : Dns X.K C z.p ds vs) (hnp : ∀ d ∈ ds, d.np = true) (hk : ∀ d ∈ ds, sp [d] fun y => y = kf d)
    (hok : ∀ d ∈ ds, okKey b (kf d) = true) (O : SrtO.Swo ltf) (hlt : ∀ d ∈ ds, ∀ e ∈ ds, ltO (kf d) (kf e) = some (ltf (kf d) (kf e))) {Q : VK} (q : SortK X.K z C H ds (fun x y => ltf (kf x) (kf y)) Q) {E : Value → Shared → Prop} :
    wpAny (model X.prog X.w) X.A (call (.builtin "sorted") [.ref a] [(Str.ofString "key", .ref f)]) (EP X pins σ Q) E s := by
  obtain ⟨its, rv, hl, hz⟩ := I.list (sq_of (K := X.K) (o.ex _ _ ha))
  have e1 := rv.length
  have e2 := dn.len
  have hZ : its.length ≤ sizeLine := by rw [← e1]; exact hz
  have known : ∀ i u, its[i]? = some u → ∃ d v, ds[i]? = some d ∧ vs[i]? = some v ∧ RelV v u ∧ Dn X.K C z.p d v := fun i u hi => by
    have hlt' := (List.getElem?_eq_some_iff.mp hi).1
    have hv : vs[i]? = some (vs[i]'(by omega)) := List.getElem?_eq_getElem (by omega)
    obtain ⟨d, h1, h2⟩ := dn.get' hv
    obtain ⟨u', h3, h4⟩ := rv.get hv
    rw [hi] at h3
    cases h3
    exact ⟨d, _, h1, hv, h4, h2⟩
  classical
  let dec : Value → D × V := fun u => if h : ∃ dv : D × V, dv.1 ∈ ds ∧ RelV dv.2 u ∧ Dn X.K C z.p dv.1 dv.2 then h.choose else (.non, .non)
  have decOk : ∀ u, (∃ dv : D × V, dv.1 ∈ ds ∧ RelV dv.2 u ∧ Dn X.K C z.p dv.1 dv.2) → (dec u).1 ∈ ds ∧ RelV (dec u).2 u ∧ Dn X.K C z.p (dec u).1 (dec u).2 := fun u h => by
    have e : dec u = h.choose := dif_pos h
    rw [e]
    exact h.choose_spec
  have decAt : ∀ i u d, its[i]? = some u → ds[i]? = some d → (dec u).1 = d := fun i u d hi hd => by
    obtain ⟨d', v, h1, h2, h3, h4⟩ := known i u hi
    rw [hd] at h1
    cases h1
    obtain ⟨g1, g2, g3⟩ := decOk u ⟨(d, v), List.mem_of_getElem? hd, h3, h4⟩
    rw [h3.inj g2] at h4
    exact Dn.inj I o _ _ _ (hnp _ g1) (hnp _ (List.mem_of_getElem? hd)) g3 h4
  have decMap : its.map (fun u => (dec u).1) = ds := by
    apply List.ext_getElem?
    intro i
    rw [List.getElem?_map]
    cases hi : its[i]? with
    | none =>
      have : ds[i]? = none := by
        rw [List.getElem?_eq_none_iff] at hi ⊢
        omega
      rw [this]
      rfl
    | some u =>
      obtain ⟨d, v, h1, _⟩ := known i u hi
      rw [h1]
      show some (dec u).1 = some d
      rw [decAt i u d hi h1]
  have mem : ∀ u ∈ its, (dec u).1 ∈ ds ∧ RelV (dec u).2 u ∧ Dn X.K C z.p (dec u).1 (dec u).2 := fun u hu => by
    obtain ⟨i, hi⟩ := List.mem_iff_getElem?.mp hu
    obtain ⟨d, v, h1, h2, h3, h4⟩ := known i u hi
    exact decOk u ⟨(d, v), List.mem_of_getElem? h1, h3, h4⟩
  -- the new list is made, emptied; the keys' list
  refine PySem.W.sorted_of_sort hl.isList hZ (ksk_s1 _ _) (fun _ => ksk_l1 _ _) fun E' => ?_
  rw [ksk_t1]
  generalize hD : s.heap.objs.size + 1 = D
  have ho : (PySem.W.copyHeap s.heap its).get? D = some (seqObj "list" its.toArray 0) := by rw [← hD]; exact PySem.W.copyHeap_at s.heap its
  have hDn : H D = none := I.hok.fresh (by rw [← hD]; exact Nat.le_succ _)
  obtain ⟨ep, ho1⟩ : ∃ ep, ((PySem.W.copyHeap s.heap its).update D (Obj.mapSeq fun _ => (#[] : Array Value))).get? D = some (seqObj "list" #[] ep) := ⟨_, get?_update_seq ho fun _ => #[]⟩
  have keepB : ∀ c u, s.heap.get? c = some u → ((PySem.W.copyHeap s.heap its).update D (Obj.mapSeq fun _ => (#[] : Array Value))).get? c = some u := fun c u e => by
    have : c ≠ D := by rw [← hD]; exact Nat.ne_of_lt (Nat.lt_succ_of_lt (Heap.lt_size e))
    rw [Heap.get?_update_ne _ _ _ _ this]
    exact PySem.W.copyHeap_old e
  generalize hhB : (PySem.W.copyHeap s.heap its).update D (Obj.mapSeq fun _ => (#[] : Array Value)) = hB at ho1 keepB
  have IB : Inv X pins σ (upd H D (atD D ep)) { s with heap := hB, toks := s.toks } := I.laid keepB (by rw [← hD]; exact Nat.le_succ _) (atD_ok ho1)
  unfold ksk_tree
  refine wpAny_bind (listItems_at ho rfl ?_)
  refine wpAny_bind (listUpdate_at ho rfl ?_ (by rw [List.size_toArray]; exact hZ) (Nat.zero_le _))
  show wpAny _ _ _ _ _ { s with heap := (PySem.W.copyHeap s.heap its).update D (Obj.mapSeq fun _ => (#[] : Array Value)) }
  rw [hhB]
  refine wpAny_bind (seqEpoch_at ho1 rfl ?_)
  refine wpAny_bind (wpAny_newTuple ?_ (by show its.length ≤ _; exact hZ))
  refine wpAny_bind (wpAny_newList ?_ (Nat.zero_le _))
  refine wpAny_holding ?_
  show wpAny _ _ (ksk_rest D (.ref f) false its.toArray ep (.ref (hB.push (seqObj "tuple" its.toArray 0)).objs.size)) _ _ { s with heap := (hB.push (seqObj "tuple" its.toArray 0)).push (seqObj "list" #[] 0) }
  generalize hS : (hB.push (seqObj "tuple" its.toArray 0)).objs.size = S
  have hSz : hB.objs.size ≤ S := by rw [← hS, Heap.size_push]; exact Nat.le_succ _
  have hSD : S ≠ D := Nat.ne_of_gt (Nat.lt_of_lt_of_le (Heap.lt_size ho1) hSz)
  have hSn' : (upd H D (atD D ep)) S = none := IB.hok.fresh hSz
  have hSn : H S = none := by rw [← upd_ne (H := H) (o := atD D ep) hSD]; exact hSn'
  have IC : Inv X pins σ (upd (upd H D (atD D ep)) S (.lst [])) { s with heap := (hB.push (seqObj "tuple" its.toArray 0)).push (seqObj "list" #[] 0), toks := s.toks } :=
    IB.laid (h' := (hB.push (seqObj "tuple" its.toArray 0)).push (seqObj "list" #[] 0)) (t' := s.toks) (fun c u e => Heap.get?_push_of_some _ (Heap.get?_push_of_some _ e)) hSz (lstOk (its := []) (n := 0) (Nat.zero_le _) .nil (by rw [← hS]; exact Heap.get?_push_size _ rfl))
  have nDp : D ≠ z.p := fun e => o.pur.pn (by rw [← e]; exact hDn)
  have nDg : D ≠ z.g := fun e => o.pur.gn (by rw [← e]; exact hDn)
  have nSp : S ≠ z.p := fun e => o.pur.pn (by rw [← e]; exact hSn)
  have nSg : S ≠ z.g := fun e => o.pur.gn (by rw [← e]; exact hSn)
  have hCD : C D = none := fresh_back o.ex hDn
  have hCS : C S = none := fresh_back o.ex hSn
  have tC : Tr z C H C (upd (upd H D (atD D ep)) S (.lst [])) := Tr.mut o (Tr.mut o (Tr.refl o) hDn hCD) hSn hCS
  generalize hs1 : ({ s with heap := (hB.push (seqObj "tuple" its.toArray 0)).push (seqObj "list" #[] 0) } : Shared) = s1
  have IC' : Inv X pins σ (upd (upd H D (atD D ep)) S (.lst [])) s1 := by rw [← hs1]; exact IC
  unfold ksk_rest
  refine wpAny_bind (wpAny_rule ?_)
  first
    | rw [List.forIn_toArray]
    | (rw [← Array.forIn_toList]; simp only [List.toList_toArray])
    | rw [← Array.forIn_toList]
  refine wpAny_bind (ksk_fold (fun j s' => ∃ Hj Cj kvs, Inv X pins σ Hj s' ∧ Tr z C H Cj Hj ∧ Hj D = some (atD D ep) ∧ Cj D = none ∧ Hj S = some (.lst kvs) ∧ Cj S = none ∧ Dns X.K Cj z.p ((ds.take j).map kf) kvs) its 0 s1
    ⟨_, C, [], IC', tC, by rw [upd_ne hSD.symm]; exact upd_same, hCD, upd_same, hCS, dns_nil.mpr rfl⟩ ?step ?done)
  case step =>
    rintro j u s' hj ⟨Hj, Cj, kvs, Ij, tj, hDj, cDj, hSj, cSj, dk⟩
    simp only [Nat.zero_add] at dk ⊢
    obtain ⟨d, v, h1, h2, h3, h4⟩ := known j u hj
    have hdm := List.mem_of_getElem? h1
    refine wpAny_bind (wpAny_attempt (wpAny_mono (key_call (E := fun _ _ => False) (Q := fun kv H' => ∃ C', Tr z Cj Hj C' H' ∧ Dn X.K C' z.p (kf d) kv) F hr hgd hb Ij h3
      ⟨z, Cj, [d], _, tj.ok, (Dns.one (h4.mono tj.cc)), hk d hdm, fun y kv C' H' hy t' dy => ⟨C', t', by rw [← hy]; exact dy⟩⟩) (fun kr s'' he => ?_) fun _ _ hF => hF.elim))
    obtain ⟨kv, H', I', rk, C', t', dk'⟩ := he
    try dsimp only
    have nnS : Hj S ≠ none := by rw [hSj]; exact fun q => nomatch q
    have nnD : Hj D ≠ none := by rw [hDj]; exact fun q => nomatch q
    have hS' : H' S = some (.lst kvs) := t'.keep S _ hSj nSp nSg
    have hD' : H' D = some (atD D ep) := t'.keep D _ hDj nDp nDg
    have cS' : C' S = none := (t'.new S nnS).trans cSj
    have cD' : C' D = none := (t'.new D nnD).trans cDj
    obtain ⟨kz, kA, n, rkA, eA⟩ := I'.hok S _ hS'
    have lk : kvs.length ≤ its.length := by
      rw [dk.len, List.length_map, List.length_take]
      omega
    have lt1 : kvs.length < its.length := by
      rw [dk.len, List.length_map, List.length_take]
      have := (List.getElem?_eq_some_iff.mp hj).1
      omega
    have eA' : s''.heap.get? S = some (seqObj "list" kA.toArray n) := eA
    have lkA : kA.length = kvs.length := rkA.length.symm
    obtain ⟨c2, hc2⟩ : ∃ c2, (s''.heap.update S (Obj.mapSeq (·.push kr))).get? S = some (seqObj "list" (kA.toArray.push kr) c2) := ⟨_, get?_update_seq eA' (·.push kr)⟩
    refine wpAny_bind (listUpdate_at eA' rfl ?_ (by rw [List.size_toArray, lkA]; exact kz) (by rw [Array.size_push, List.size_toArray, lkA]; omega))
    refine wpAny_pure ⟨rfl, upd H' S (.lst (kvs ++ [kv])), C', kvs ++ [kv], ?_, Tr.mut o (tj.trans t') hSn cS', by rw [upd_ne hSD.symm]; exact hD', cD', upd_same, cS', ?_⟩
    · refine I'.write (e := S) (t' := s''.toks) (by rw [hS']; trivial) (.inl rfl) (fun c u hc e => (Heap.get?_update_ne _ _ _ _ hc).trans e) ⟨_, hc2⟩ (lstOk (its := kA ++ [kr]) (n := c2) (by rw [List.length_append, List.length_singleton]; omega) (rkA.snoc rk) (by simpa using hc2))
    · have : (ds.take (j + 1)).map kf = (ds.take j).map kf ++ [kf d] := by
        rw [List.take_succ, h1]
        simp
      rw [this]
      exact (dk.mono t'.cc).app (Dns.one dk')
  case done =>
    rintro s' ⟨Hn, Cn, kvs, In, tn, hDn', cDn, hSn2, cSn, dk⟩
    have e3 : ds.take (0 + its.length) = ds := List.take_of_length_le (by omega)
    rw [e3] at dk
    obtain ⟨kz, kA, n, rkA, eA⟩ := In.hok S _ hSn2
    have eA' : s'.heap.get? S = some (seqObj "list" kA.toArray n) := eA
    have lkA : kA.length = its.length := by rw [← rkA.length, dk.len, List.length_map]; omega
    have eD : s'.heap.get? D = some (seqObj "list" #[] ep) := (In.hok D _ hDn').1
    try dsimp only
    refine wpAny_bind (listItems_at eA' rfl ?_)
    -- the pairs of a key and an item
    have kat : ∀ i ku, kA[i]? = some ku → ∃ d, ds[i]? = some d ∧ ∃ as, Reads s'.heap ku (kf d).py as := fun i ku hi => by
      have hi' := (List.getElem?_eq_some_iff.mp hi).1
      obtain ⟨d, hd⟩ : ∃ d, ds[i]? = some d := ⟨_, List.getElem?_eq_getElem (by omega)⟩
      obtain ⟨kv, g1, g2⟩ := dk.get (i := i) (d := kf d) (by rw [List.getElem?_map, hd]; rfl)
      obtain ⟨ku', g3, g4⟩ := rkA.get g1
      rw [hi] at g3
      cases g3
      have hdm := List.mem_of_getElem? hd
      exact ⟨d, hd, Dp.reads In _ kv ku (g2.dp tn.ok.ex _ kv (okEq_of (okKey_of (hok d hdm)).2.1).1) g4⟩
    have zat : ∀ pr ∈ kA.zip its, (dec pr.2).1 ∈ ds ∧ ∃ as, Reads s'.heap pr.1 (kf (dec pr.2).1).py as := fun pr hp => by
      obtain ⟨i, hi⟩ := List.mem_iff_getElem?.mp hp
      rw [List.getElem?_zip_eq_some] at hi
      obtain ⟨d, hd, r⟩ := kat i _ hi.1
      have := decAt i _ d hi.2 hd
      rw [this]
      exact ⟨List.mem_of_getElem? hd, r⟩
    have zl : (kA.toArray.zip its.toArray).toList = kA.zip its := ksk_zip kA.toArray its
    let lp : Keyed → Keyed → Bool := fun x y => ltf (kf (dec x.2).1) (kf (dec y.2).1)
    have Op : SrtO.Swo lp := ⟨fun x y => O.asym _ _, fun x y z => O.tr _ _ _⟩
    have fin : ∀ st' : SortSt, SrtO.Srtd lp (arrOf st').toList → SrtO.Stb lp (arrOf st').toList (kA.zip its) → failedOf st' = none →
        wpAny (model X.prog X.w) X.A.in1.in1 (ksk_tail D false ep (.ref S) st') (fun f s' => f = .done (.ret .none) ∧ EP X pins σ Q (.ref D) s') E' s' := by
      intro st' h1 h2 h3
      have sub : ∀ pr ∈ (arrOf st').toList, pr ∈ kA.zip its := fun pr hp => h2.perm.mem_iff.mp hp
      have len : (arrOf st').size = its.length := by
        rw [← Array.length_toList, h2.len, List.length_zip, lkA, Nat.min_self]
      obtain ⟨c1, hc1⟩ : ∃ c1, (s'.heap.update S (Obj.mapSeq fun _ => (#[] : Array Value))).get? S = some (seqObj "list" #[] c1) := ⟨_, get?_update_seq eA' fun _ => #[]⟩
      have J1 : Inv X pins σ (upd Hn S (.lst [])) { s' with heap := s'.heap.update S (Obj.mapSeq fun _ => (#[] : Array Value)), toks := s'.toks } :=
        In.write (e := S) (t' := s'.toks) (by rw [hSn2]; trivial) (.inl rfl) (fun c u hc e => (Heap.get?_update_ne _ _ _ _ hc).trans e) ⟨_, hc1⟩ (lstOk (its := []) (n := c1) (Nat.zero_le _) .nil hc1)
      have eD1 : (s'.heap.update S (Obj.mapSeq fun _ => (#[] : Array Value))).get? D = some (seqObj "list" #[] ep) := (Heap.get?_update_ne _ _ _ _ hSD.symm).trans eD
      obtain ⟨outL, hout⟩ : ∃ outL, ((arrOf st').map (·.2)) = outL.toArray ∧ outL = (arrOf st').toList.map (·.2) := ⟨_, by apply Array.toList_inj.mp; simp, rfl⟩
      obtain ⟨c2, hc2⟩ : ∃ c2, ((s'.heap.update S (Obj.mapSeq fun _ => (#[] : Array Value))).update D (Obj.mapSeq fun _ => outL.toArray)).get? D = some (seqObj "list" outL.toArray c2) := ⟨_, get?_update_seq eD1 fun _ => outL.toArray⟩
      have outm : ∀ u ∈ outL, u ∈ its := fun u hu => by
        rw [hout.2] at hu
        obtain ⟨pr, hp, rfl⟩ := List.mem_map.mp hu
        exact (List.of_mem_zip (sub pr hp)).2
      have outlen : outL.length = its.length := by rw [hout.2, List.length_map, Array.length_toList, len]
      have rout : ∀ l : List Value, (∀ u ∈ l, u ∈ its) → Vals (l.map fun u => (dec u).2) l := by
        intro l
        induction l with
        | nil => intro _; exact .nil
        | cons u l ih => intro hl; exact .cons (mem u (hl u (by simp))).2.1 (ih fun w hw => hl w (by simp [hw]))
      have dout : ∀ l : List Value, (∀ u ∈ l, u ∈ its) → Dns X.K Cn z.p (l.map fun u => (dec u).1) (l.map fun u => (dec u).2) := by
        intro l
        induction l with
        | nil => intro _; exact dns_nil.mpr rfl
        | cons u l ih => intro hl; exact dns_cons.mpr ⟨_, _, rfl, (mem u (hl u (by simp))).2.2.mono tn.cc, ih fun w hw => hl w (by simp [hw])⟩
      have J2 : Inv X pins σ (upd (upd Hn S (.lst [])) D (.lst (outL.map fun u => (dec u).2))) { s' with heap := (s'.heap.update S (Obj.mapSeq fun _ => (#[] : Array Value))).update D (Obj.mapSeq fun _ => outL.toArray), toks := s'.toks } :=
        J1.write (e := D) (t' := s'.toks) (by rw [upd_ne hSD.symm, hDn']; trivial) (.inl rfl) (fun c u hc e => (Heap.get?_update_ne _ _ _ _ hc).trans e) ⟨_, hc2⟩ (lstOk (its := outL) (n := c2) (by rw [List.length_map, outlen]; exact hZ) (rout outL outm) hc2)
      unfold ksk_tail
      try dsimp only
      simp only [Bool.false_eq_true, if_false]
      refine wpAny_bind (listUpdate_at eA' rfl ?_ (by rw [List.size_toArray, lkA]; exact hZ) (Nat.zero_le _))
      refine wpAny_bind (wpAny_letGo ?_)
      refine wpAny_bind (seqEpoch_at eD1 rfl ?_)
      rw [hout.1]
      refine wpAny_bind (listUpdate_at eD1 rfl ?_ (Nat.zero_le _) (by rw [List.size_toArray, outlen]; exact Nat.le_succ_of_le hZ))
      rw [h3]
      simp only [bne_self_eq_false, Bool.false_eq_true, if_false]
      refine wpAny_pure ⟨rfl, .ref D, _, J2, rfl, q (outL.map fun u => (dec u).1) _ D Cn _ ?_ ?_ (Tr.mut o (Tr.mut o tn hSn cSn) hDn cDn) hDn cDn upd_same (dout outL outm)⟩
      · rw [hout.2, List.map_map]
        exact SrtO.srtd_map h1
      · have hm := SrtO.Stb.map (lt := fun x y => ltf (kf x) (kf y)) ⟨fun x y => O.asym _ _, fun x y z => O.tr _ _ _⟩ (fun pr : Keyed => (dec pr.2).1) h2
        have hz2 : (kA.zip its).map (fun pr : Keyed => (dec pr.2).1) = ds := by
          have : (kA.zip its).map (fun pr : Keyed => (dec pr.2).1) = ((kA.zip its).map Prod.snd).map fun u => (dec u).1 := by rw [List.map_map]; rfl
          rw [this, List.map_snd_zip (by omega), decMap]
        rw [hz2] at hm
        rw [hout.2, List.map_map]
        exact hm
    unfold ksk_end
    try dsimp only
    simp only [Bool.false_eq_true, if_false]
    have hsz : (kA.toArray.zip its.toArray).size = its.length := by rw [← Array.length_toList, zl, List.length_zip, lkA, Nat.min_self]
    by_cases h2 : its.toArray.size < 2
    · rw [if_pos h2, if_pos h2]
      refine wpAny_bind (wpAny_pure ?_)
      rw [StateT.run_pure]
      refine wpAny_bind (wpAny_pure ?_)
      try dsimp only
      refine fin (SortSt.mk' general' (kA.toArray.zip its.toArray) #[] 7 none) ?_ ?_ rfl
      · show SrtO.Srtd lp (kA.toArray.zip its.toArray).toList
        rw [zl]
        have : (kA.zip its).length < 2 := by rw [List.length_zip, lkA, Nat.min_self]; simpa using h2
        match kA.zip its, this with
        | [], _ => exact List.Pairwise.nil
        | [x], _ => exact List.pairwise_singleton _ _
        | _ :: _ :: l, h => exact absurd h (by rw [List.length_cons, List.length_cons]; omega)
      · show SrtO.Stb lp (kA.toArray.zip its.toArray).toList _
        rw [zl]
        exact SrtO.Stb.refl _
    · rw [if_neg h2, if_neg h2]
      rw [List.size_toArray] at h2
      refine wpAny_bind (kind_at (b := b) (us := kA) (ds := ds.map kf) (paired_get (by rw [List.length_map]; omega) fun i u d' g1 g2 => ?_) (by omega) ?_)
      · obtain ⟨d, hd, r⟩ := kat i u g1
        rw [List.getElem?_map, hd] at g2
        cases g2
        exact ⟨r, (okKey_of (hok d (List.mem_of_getElem? hd))).1⟩
      · have hT : SrtO.Cmp X.prog X.w X.A.in1.in1 s' (tuples' b) (fun pr => pr ∈ kA.zip its) lp := by
          intro x y hx hy
          obtain ⟨m1, as, r1⟩ := zat x hx
          obtain ⟨m2, bs, r2⟩ := zat y hy
          exact keys_lt (A := X.A.in1) (by show X.A.units + 1 + 64 < _; omega) (hok _ m1) (hok _ m2) r1 r2 (hlt _ m1 _ m2) ⟨rfl, rfl⟩
        refine wpAny_bind (wpAny_mono (SrtO.wpS_sortO (st0 := SortSt.mk' (tuples' b) (kA.toArray.zip its.toArray) #[] 7 none)
          (Q := fun _ st' => SrtO.Srtd lp (arrOf st').toList ∧ SrtO.Stb lp (arrOf st').toList (kA.zip its) ∧ failedOf st' = none) Op hT rfl (fun pr hp => by
            have hp' : pr ∈ (kA.toArray.zip its.toArray).toList := hp
            rwa [zl] at hp') rfl rfl fun st' a1 a2 a3 => ⟨a1, by
            have a2' : SrtO.Stb lp (arrOf st').toList (kA.toArray.zip its.toArray).toList := a2
            rwa [zl] at a2', a3⟩) ?_ fun _ _ e => e)
        rintro ⟨⟨⟩, st'⟩ s2 ⟨rfl, hp1, hp2, hf⟩
        try dsimp only
        exact fin st' hp1 hp2 hf
end
end BV

/-! sorted with a key, by value; sorted of words; x.append(y.pop(e)). -/
namespace BV
open PySem PySem.Spec PyProof.Rows L2 Evl

theorem Room.in2 {k : Nat} {A : Around} (r : Room (k + 1) A) : Room k A.in1.in1 :=
  ⟨r.hd, by have := r.dp; show A.depth + 3 * k + 5 < _; omega, by have := r.un; show A.units + 1 + 1 + 16 * k + 200 < _; omega⟩
theorem u70 {k : Nat} {A : Around} (r : Room k A) : A.units + 70 < cLine := by have := r.un; omega
def rSortK (K : PySem.W.Frag) (sp : SpD) (f : Addr) : List V → List V → Hp → VK → Prop := fun vs zs H Q => ∃ (z : Pz) (C : Hp) (a : Addr) (xs : List V) (ds : List D) (kf : D → D) (ltf : D → D → Bool) (b : Bool), vs = [V.ref a] ∧ zs = [V.ref f] ∧ Ok z C H ∧ C a = some (.lst xs) ∧ Dns K C z.p ds xs ∧ (∀ d ∈ ds, d.np = true) ∧
  (∀ d ∈ ds, sp [d] fun y => y = kf d) ∧ (∀ d ∈ ds, okKey b (kf d) = true) ∧ SrtO.Swo ltf ∧ (∀ d ∈ ds, ∀ e ∈ ds, ltO (kf d) (kf e) = some (ltf (kf d) (kf e))) ∧ SortK K z C H ds (fun x y => ltf (kf x) (kf y)) Q
def moSortK (sp : SpD) (me : ME) : MA := fun env Q => me env fun d => ∃ (xs : List D) (kf : D → D) (ltf : D → D → Bool) (b : Bool), d = .lst xs ∧ (∀ d ∈ xs, d.np = true) ∧ (∀ d ∈ xs, sp [d] fun y => y = kf d) ∧ (∀ d ∈ xs, okKey b (kf d) = true) ∧ SrtO.Swo ltf ∧
  (∀ d ∈ xs, ∀ e ∈ xs, ltO (kf d) (kf e) = some (ltf (kf d) (kf e))) ∧ ∀ out, SrtO.Srtd (fun x y => ltf (kf x) (kf y)) out → SrtO.Stb (fun x y => ltf (kf x) (kf y)) out xs → Q out
section
variable {X : Cx}
theorem cr_sortK {k : Nat} {f : Addr} {fd : FuncData} {p : Str} {sp : SpD} (hu : X.A.units + 70 < cLine) (F : FnD X.prog X.w X.K X.mg X.base k f fd [p] sp) (hr : Room k X.A.in1.in1) (hgd : X.A.guards = some []) (hb : Binds X.K fd [p] []) :
    CallRK X (.builtin "sorted") [Str.ofString "key"] (rSortK X.K sp f) := by
  intro pins s σ H xs zs us ws Q I r1 r2 h
  obtain ⟨z, C, a, vs, ds, kf, ltf, b, rfl, rfl, o, ha, dn, h1, h2, h3, h4, h5, q⟩ := h
  obtain ⟨u, rfl, ru⟩ := vals1 r1
  obtain rfl : u = Value.ref a := ru
  obtain ⟨w1, rfl, rw1⟩ := vals1 r2
  obtain rfl : w1 = Value.ref f := rw1
  exact sorted_key hu F hr hgd hb I o ha dn h1 h2 h3 h4 h5 q
theorem pdo_sortK {x fn : Str} {e : Expr} {p pn kp pos : Pos} {me : ME} {j k : Nat} {ps : Str} {sp : SpD} (G : Kn X.prog X.w X.K X.mg X.base fn j [ps] sp) (hr : Room k X.A) (hj : j + 1 ≤ k) (hgd : X.A.guards = some []) (hm : X.mg x = none) (hv : bootBuiltins x = some (.builtin "sorted")) (h : PD X e me)
    (hg : Gl X x := by rfl) (hgf : Gl X fn := by rfl) (hn : x ≠ "__name__" := by decide) (hdb : (x == ("__debug__" : Str)) = false := by decide) (hdf : (fn == ("__debug__" : Str)) = false := by decide)
    (he0 : starEach [e] X.env = (false, eval e X.env) :: starEach [] X.env := by rfl)
    (he : backTo pos (starEach [e] X.env) = (false, eval e X.env) :: backTo pos (starEach [] X.env) := by rfl) (hpl : (backTo pos (starEach [e] X.env)).any (·.1) = false := by rfl)
    (hall : (backToKw pos (keywordEach [⟨some (Str.ofString "key"), .Name fn pn, kp⟩] X.env)).all (·.1.isSome) = true := by rfl) (hnone : (backToKw pos (keywordEach [⟨some (Str.ofString "key"), .Name fn pn, kp⟩] X.env)).any (·.1.isNone) = false := by rfl) (hks : (backToKw pos (keywordEach [⟨some (Str.ofString "key"), .Name fn pn, kp⟩] X.env)).filterMap (·.1) = [Str.ofString "key"] := by rfl) :
    PDO X (.Call (.Name x p) [e] [⟨some (Str.ofString "key"), .Name fn pn, kp⟩] pos) (moSortK sp me) := by
  obtain ⟨f, fd, F, hb, hkp, gm⟩ := G.ex
  have hr' : Room j X.A.in1.in1 := Room.in2 (hr.mono hj)
  refine ⟨pe_imp (pe_callBK (cr_sortK (u70 hr) F hr' hgd hb) hg hm hv (pa_cons h.run pa_nil he0) (pk_cons (pe_glob hgf gm (show RelV (.ref f) (.ref f) from rfl) hdf) pk_nil) hn hdb he hpl hall hnone hks) fun σ H Q q => ?_,
    fun env Q Q' i q => h.mono env _ _ (fun d ⟨xs, kf, ltf, b, e, h1, h2, h3, h4, h5, q⟩ => ⟨xs, kf, ltf, b, e, h1, h2, h3, h4, h5, fun out a c => i _ (q out a c)⟩) q⟩
  obtain ⟨z, C, env, o, r, q⟩ := q
  refine lift_use h.mono o r q fun d v C' H' ⟨xs, kf, ltf, b, e, h1, h2, h3, h4, h5, q⟩ t dn => ?_
  subst e
  obtain ⟨a, vs, rfl, ha, dns⟩ := dn_lst.mp dn
  exact ⟨z, C', a, vs, xs, kf, ltf, b, rfl, rfl, t.ok, ha, dns, h1, h2, h3, h4, h5, fun out outv p C2 H2 s1 s2 t2 g1 g2 g3 g4 => q out s1 s2 p outv C2 H2 (t.trans t2) (t.free g1) g2 g3 g4⟩
/-- sorted(a list of words) -/
def sortedW (ds : List D) (T : D → Prop) : Prop := ∃ xs : List Str, ds = [.lst (xs.map D.str)] ∧ xs.length < 64 ∧ ∀ ys : List Str, ys.Perm xs → sortedS ys = true → T (.lst (ys.map D.str))
theorem dns_strs {K : PySem.W.Frag} {C : Hp} {pu : Addr} : ∀ {ys : List Str} {xs : List V}, Dns K C pu (ys.map D.str) xs → xs = ys.map V.str
  | [], xs, h => dns_nil.mp h
  | y :: ys, xs, h => by
    obtain ⟨v, r, e, h1, h2⟩ := dns_cons.mp h
    rw [e, dn_str.mp h1, dns_strs h2]
    rfl
theorem cp_sortedW : CallP X (.builtin "sorted") sortedW := by
  refine ⟨⟨_, cr_sortedS, fun z C H ds T xs Q o dn ⟨ys, e, h1, h2⟩ k => ?_⟩, fun ds T T' i ⟨ys, e, h1, h2⟩ => ⟨ys, e, h1, fun zs a b => i _ (h2 zs a b)⟩⟩
  subst e
  obtain ⟨v, rfl, e2⟩ := dns1 dn
  obtain ⟨a, vs, rfl, ha, dns⟩ := dn_lst.mp e2
  obtain rfl := dns_strs dns
  exact ⟨a, ys, rfl, sq_of (o.ex _ _ ha), h1, fun zs p pm so hp => k _ _ _ _ (h2 zs pm so) (Tr.put o hp) (dn_new_lst (dns_words zs) (fresh_back o.ex hp))⟩
/-- x.append(y.pop(e)), both of one's own -/
def mAppPop (rs : List Nat) (i j : Nat) (me : ME) : MS := fun E env => (∃ ds0, env[i]? = some (some (true, .lst ds0))) ∧ (∃ ds1, env[j]? = some (some (true, .lst ds1))) ∧ j ≠ i ∧ me (view rs 0 env) fun d => ∃ n ds es y, d = .int n ∧ (aft rs d env)[j]? = some (some (true, .lst es)) ∧ (aft rs d env)[i]? = some (some (true, .lst ds)) ∧
  0 ≤ n ∧ n ≤ 4000000 ∧ es[n.toNat]? = some y ∧ szOk (ds.length + 1) = true ∧ E.nx (((aft rs d env).set j (some (true, .lst (es.eraseIdx n.toNat)))).set i (some (true, .lst (ds ++ [y]))))
theorem pds_appPop (rs : List Nat) {i j : Nat} {o y e : Expr} {apos cpos bpos dpos pos : Pos} {me : ME} (ho : PE X o (tVar i)) (hy : PE X y (tVar j)) (h : PD X e me)
    (g1 : attributeBase y "pop" X.env (eval y X.env) = eval y X.env := by rfl)
    (g2 : ((((backTo dpos (starEach [e] X.env)).all fun x => !x.1) && ((backToKw dpos (keywordEach [] X.env)).all fun x => x.1.isSome) && decide (([e] : List Expr).length + ([] : List Keyword).length + (if ([] : List Keyword).isEmpty = true then 0 else 1) < 30)) = true) := by rfl)
    (g3 : (bpos.endLine == dpos.line) = true := by rfl) (g4 : starEach [e] X.env = (false, eval e X.env) :: starEach [] X.env := by rfl) (g5 : ((backTo dpos (starEach [] X.env)).any fun x => x.1) = false := by rfl)
    (h1 : attributeBase o "append" X.env (eval o X.env) = eval o X.env := by rfl)
    (h2 : ((((backTo cpos (starEach [.Call (.Attribute y "pop" bpos) [e] [] dpos] X.env)).all fun x => !x.1) && ((backToKw cpos (keywordEach [] X.env)).all fun x => x.1.isSome) && decide (([.Call (.Attribute y "pop" bpos) [e] [] dpos] : List Expr).length + ([] : List Keyword).length + (if ([] : List Keyword).isEmpty = true then 0 else 1) < 30)) = true) := by rfl)
    (h3 : (apos.endLine == cpos.line) = true := by rfl) (h4 : starEach [.Call (.Attribute y "pop" bpos) [e] [] dpos] X.env = (false, eval (.Call (.Attribute y "pop" bpos) [e] [] dpos) X.env) :: starEach [] X.env := by rfl) (h5 : ((backTo cpos (starEach [] X.env)).any fun x => x.1) = false := by rfl)
    (hs : swapsWith (.Call (.Attribute o "append" apos) [.Call (.Attribute y "pop" bpos) [e] [] dpos] [] cpos) none pos.line X.env = pure false := by rfl) : PDS X (.Expr (.Call (.Attribute o "append" apos) [.Call (.Attribute y "pop" bpos) [e] [] dpos] [] cpos) pos) (mAppPop rs i j me) := by
  refine ⟨fun z C0 H0 Cb => ps_imp (ps_expr (pe_bm PySem.F.plainAttrs_list PySem.F.slot_list_append PySem.F.type_list_append mt_append ho (pa_cons (pe_bm PySem.F.plainAttrs_list PySem.F.slot_list_pop PySem.F.type_list_pop mt_popAt hy (pa_cons h.run pa_nil g4) g1 g2 g3 g4 g5) pa_nil h4) h1 h2 h3 h4 h5) hs) fun N σ H ⟨C, env, s, q⟩ => ?_,
    fun E E' env l ⟨q0, q1, qn, q⟩ => ⟨q0, q1, qn, h.mono _ _ _ (fun d ⟨n, ds, es, y, e1, e2, e3, e4, e5, e6, e7, q⟩ => ⟨n, ds, es, y, e1, e2, e3, e4, e5, e6, e7, l.nx _ q⟩) q⟩⟩
  obtain ⟨⟨ds0, i0⟩, ⟨ds1, j0⟩, hne, q⟩ := q
  obtain ⟨a, _, xs, _, ea, _, eH, _⟩ := s.ownL i _ i0
  obtain ⟨b, _, ys, _, eb, _, eB, _⟩ := s.ownL j _ j0
  refine ⟨.ref a, ea, .inl ⟨rfl, xs, sq_of eH⟩, .ref b, eb, .inl ⟨rfl, ys, sq_of eB⟩, ?_⟩
  refine s.use rs h.mono q fun d v C' H' ⟨n, ds, es, w, e1, e2, e3, e4, e5, e6, e7, p⟩ s' dn => ?_
  subst e1
  obtain ⟨b', es', zs, f1, f2, f3, f4, f5, f6⟩ := s'.ownL j _ e2
  rw [eb] at f2
  cases f2
  cases f1
  obtain ⟨w', k1, k2⟩ := f5.get e6
  have hw := (List.getElem?_eq_some_iff.mp k1).1
  refine ⟨b, zs, n, n.toNat, w', rfl, by rw [dn_int.mp dn], f4, by omega, by omega, ?_, k1, ?_⟩
  · unfold seqIndex?
    rw [if_neg (show ¬ n < 0 by omega)]
    simp only [Bool.and_eq_true, decide_eq_true_eq]
    rw [if_pos ⟨e4, by omega⟩]
  · have s2 := s'.write e2 eb (f5.erase n.toNat)
    have e3' : ((aft rs (.int n) env).set j (some (true, .lst (es.eraseIdx n.toNat))))[i]? = some (some (true, .lst ds)) := by rw [List.getElem?_set_ne hne]; exact e3
    obtain ⟨a', ds', xs', l1, l2, l3, l4, l5, l6⟩ := s2.ownL i _ e3'
    rw [ea] at l2
    cases l2
    cases l1
    have hl := l5.len
    refine ⟨a, xs', w', rfl, rfl, l4, sz_lt (by unfold szOk at e7 ⊢; rw [hl]; simp at e7 ⊢; omega), ?_⟩
    exact p σ C' _ (s2.write e3' ea (l5.app (Dns.one k2)))
end
end BV

/-! zip of two lists or tuples, its pairs kept: one next. -/
namespace BV
open PySem PySem.Spec PySem.W PySem.Calls PyProof.Rows

section
variable {prog : Program} {w : World} {A : Around} {E : Value → Shared → Prop} {s : Shared} {z TI TO i1 i2 : Addr} {fp1 fp2 : List Addr} {n1 n2 i : Nat} {P1 P2 : Nat → Value → Prop} {St1 St2 : Nat → Heap → Prop}
/-- the zip's own cells: nothing is out, or the last pair still is -/
def ZCell (z TI TO : Addr) (h : Heap) : Prop := (IsZip h z TI TO .none ∧ ∃ a1 a2, IsTupOf2 h TO a1 a2) ∨ ∃ T f oT, IsZipHeld h z TI TO T f ∧ h.get? T = some oT
theorem held_next {T : Addr} {f : Bool} {oT : Obj} {Q : Value → Shared → Prop} (S : ZipSep2 z TI TO i1 i2 fp1 fp2) (D1 : Draws prog w A i1 fp1 n1 P1 St1) (D2 : Draws prog w A i2 fp2 n2 P2 St2) (hz : IsZipHeld s.heap z TI TO T f) (hT : s.heap.get? T = some oT)
    (hTI : IsTupOf2 s.heap TI (.ref i1) (.ref i2)) (st1 : St1 i s.heap) (st2 : St2 i s.heap) (lt1 : i < n1) (lt2 : i < n2)
    (hQ : ∀ x1 x2 h' tk, P1 i x1 → P2 i x2 → IsZipHeld h' z TI TO T true → St1 (i + 1) h' → St2 (i + 1) h' → IsTupOf2 h' s.heap.objs.size x1 x2 → h'.objs.size = s.heap.objs.size + 1 →
      (∀ c o, c ≠ z → c ≠ i1 → c ≠ i2 → s.heap.get? c = some o → h'.get? c = some o) → Q (.ref s.heap.objs.size) { s with heap := h', toks := tk }) :
    wpAny (model prog w) A (Builtin.«zip.__next__» ⟨[.ref z], []⟩) (fun fin s' => ∃ v, fin = .done (.ret v) ∧ Q v s') E s := by
  obtain ⟨hp, g, d, tk0, os⟩ := s
  show wpAny _ _ (field (.ref z) 2 >>= _) _ _ _
  refine wpAny_bind (wpAny_field hz rfl (x := .bool false) rfl ?_)
  show wpAny _ _ (field (.ref z) 3 >>= _) _ _ _
  refine wpAny_bind (wpAny_field hz rfl (x := .ref TI) rfl ?_)
  refine wpAny_bind (wpAny_seqItems hTI rfl ?_)
  show wpAny _ _ (Builtin.SmallTypes.ownedTupleIsFree (.ref z) >>= _) _ _ _
  refine wpAny_bind (wpAny_tupleHeld_zip hz hT fun g0 hz0 hs0 => ?_)
  replace hs0 : Heap.SameBut z hp g0 := hs0
  simp only [Bool.false_eq_true, if_false]
  refine wpAny_bind ?_
  rw [← Array.forIn_toList]
  simp only [List.forIn_cons, List.forIn_nil]
  refine wpAny_bind (wpAny_bind (wpAny_holding ?_))
  show wpAny _ _ (Builtin.SmallTypes.nextOf (.ref i1) >>= _) _ _ ⟨g0, g, d, tk0, os⟩
  refine wpAny_bind (D1.item i _ _ _ lt1 (D1.over st1 hs0 S.zf1) fun x1 p1 tk1 hx1 sn1 hp1 => wpAny_pure ?_)
  replace hp1 : Heap.SameBut i1 g0 p1 := hp1
  refine wpAny_pure ?_
  refine wpAny_bind (wpAny_bind (wpAny_holding ?_))
  show wpAny _ _ (Builtin.SmallTypes.nextOf (.ref i2) >>= _) _ _ ⟨p1, g, d, tk1, os⟩
  refine wpAny_bind (D2.item i _ _ _ lt2 (D2.over (D2.over st2 hs0 S.zf2) hp1 S.sep1_2) fun x2 p2 tk2 hx2 sn2 hp2 => wpAny_pure ?_)
  replace hp2 : Heap.SameBut i2 p1 p2 := hp2
  refine wpAny_pure (wpAny_pure ?_)
  show wpAny _ _ (newTuple [x1, x2] >>= _) _ _ _
  refine wpAny_bind (wpAny_newTuple ?_)
  have size2 : p2.objs.size = hp.objs.size := by rw [hp2.1, hp1.1, hs0.1]
  have zip2 : IsZipHeld p2 z TI TO T true := hp2.extBut _ _ S.zi2 (hp1.extBut _ _ S.zi1 hz0)
  have old2 : ∀ c o, c ≠ z → c ≠ i1 → c ≠ i2 → hp.get? c = some o → p2.get? c = some o := fun c o c1 c2 c3 e => hp2.extBut _ _ c3 (hp1.extBut _ _ c2 (hs0.extBut _ _ c1 e))
  have fst2 : St1 (i + 1) p2 := D1.over sn1 hp2 S.sep2_1
  refine wpAny_pure ⟨_, rfl, ?_⟩
  show Q (.ref p2.objs.size) ⟨p2.push { cls := .type "tuple", data := .seq #[x1, x2] }, g, d, tk2, os⟩
  have pairAt : IsTupOf2 (p2.push { cls := .type "tuple", data := .seq #[x1, x2] }) p2.objs.size x1 x2 := Heap.get?_push_size _ rfl
  have size3 : (p2.push { cls := .type "tuple", data := .seq #[x1, x2] }).objs.size = p2.objs.size + 1 := Heap.size_push ..
  rw [size2] at pairAt size3 ⊢
  exact hQ x1 x2 _ tk2 hx1 hx2 (Heap.get?_push_of_some _ zip2) (D1.frame _ _ _ fst2 fun b _ o e => Heap.get?_push_of_some _ e) (D2.frame _ _ _ sn2 fun b _ o e => Heap.get?_push_of_some _ e) pairAt size3 fun c o c1 c2 c3 e => Heap.get?_push_of_some _ (old2 c o c1 c2 c3 e)
theorem held_end {T : Addr} {f : Bool} {oT : Obj} {Q : Fin → Shared → Prop} (S : ZipSep2 z TI TO i1 i2 fp1 fp2) (D1 : Draws prog w A i1 fp1 n1 P1 St1) (D2 : Draws prog w A i2 fp2 n2 P2 St2) (hz : IsZipHeld s.heap z TI TO T f) (hT : s.heap.get? T = some oT)
    (hTI : IsTupOf2 s.heap TI (.ref i1) (.ref i2)) (st1 : St1 i s.heap) (st2 : St2 i s.heap) (le1 : i ≤ n1) (le2 : i ≤ n2) (fin : i = n1 ∨ i = n2)
    (hE : ∀ h' tk e, (∀ c o, c ≠ z → c ≠ i1 → c ≠ i2 → s.heap.get? c = some o → h'.get? c = some o) → (∃ o, h'.get? e = some o ∧ o.cls = .type "StopIteration") → E (.ref e) { s with heap := h', toks := tk }) :
    wpAny (model prog w) A (Builtin.«zip.__next__» ⟨[.ref z], []⟩) Q E s := by
  obtain ⟨hp, g, d, tk0, os⟩ := s
  show wpAny _ _ (field (.ref z) 2 >>= _) _ _ _
  refine wpAny_bind (wpAny_field hz rfl (x := .bool false) rfl ?_)
  show wpAny _ _ (field (.ref z) 3 >>= _) _ _ _
  refine wpAny_bind (wpAny_field hz rfl (x := .ref TI) rfl ?_)
  refine wpAny_bind (wpAny_seqItems hTI rfl ?_)
  show wpAny _ _ (Builtin.SmallTypes.ownedTupleIsFree (.ref z) >>= _) _ _ _
  refine wpAny_bind (wpAny_tupleHeld_zip hz hT fun g0 hz0 hs0 => ?_)
  replace hs0 : Heap.SameBut z hp g0 := hs0
  simp only [Bool.false_eq_true, if_false]
  refine wpAny_bind ?_
  rw [← Array.forIn_toList]
  simp only [List.forIn_cons, List.forIn_nil]
  refine wpAny_bind (wpAny_bind (wpAny_holding ?_))
  show wpAny _ _ (Builtin.SmallTypes.nextOf (.ref i1) >>= _) _ _ ⟨g0, g, d, tk0, os⟩
  by_cases e1 : i = n1
  · subst e1
    refine wpAny_bind (D1.done _ _ _ (D1.over st1 hs0 S.zf1) fun h2 e hx he => ?_)
    exact hE h2 tk0 e (fun c o c1 c2 _ x => hx _ _ c2 (hs0.extBut _ _ c1 x)) he
  · have e2 : i = n2 := fin.resolve_left e1
    subst e2
    refine wpAny_bind (D1.item i _ _ _ (by omega) (D1.over st1 hs0 S.zf1) fun x1 p1 tk1 hx1 sn1 hp1 => wpAny_pure ?_)
    replace hp1 : Heap.SameBut i1 g0 p1 := hp1
    refine wpAny_pure ?_
    refine wpAny_bind (wpAny_bind (wpAny_holding ?_))
    show wpAny _ _ (Builtin.SmallTypes.nextOf (.ref i2) >>= _) _ _ ⟨p1, g, d, tk1, os⟩
    refine wpAny_bind (D2.done _ _ _ (D2.over (D2.over st2 hs0 S.zf2) hp1 S.sep1_2) fun h2 e hx he => ?_)
    exact hE h2 tk1 e (fun c o c1 c2 c3 x => hx _ _ c3 (hp1.extBut _ _ c2 (hs0.extBut _ _ c1 x))) he
/-- one next, whatever is out -/
theorem zip_turn {Q : Option Value → Shared → Prop} (S : ZipSep2 z TI TO i1 i2 fp1 fp2) (D1 : Draws prog w A.in1 i1 fp1 n1 P1 St1) (D2 : Draws prog w A.in1 i2 fp2 n2 P2 St2) (hz : ZCell z TI TO s.heap) (hTI : IsTupOf2 s.heap TI (.ref i1) (.ref i2)) (st1 : St1 i s.heap) (st2 : St2 i s.heap) (lt1 : i < n1) (lt2 : i < n2)
    (hQ : ∀ x1 x2 h' tk, P1 i x1 → P2 i x2 → ZCell z TI TO h' → St1 (i + 1) h' → St2 (i + 1) h' → IsTupOf2 h' s.heap.objs.size x1 x2 → h'.objs.size = s.heap.objs.size + 1 →
      (∀ c o, c ≠ z → c ≠ TO → c ≠ i1 → c ≠ i2 → s.heap.get? c = some o → h'.get? c = some o) → Q (some (.ref s.heap.objs.size)) { s with heap := h', toks := tk }) :
    wpAny (model prog w) A (pyNext (.ref z)) Q E s := by
  rcases hz with ⟨hz, a1, a2, hTO⟩ | ⟨T, f, oT, hz, hT⟩
  · exact wpAny_pyNext_zipD2_item S D1 D2 hz hTI hTO st1 st2 lt1 lt2 fun x1 x2 h' tk p1 p2 b1 b2 s1 s2 b3 b4 b5 => hQ x1 x2 h' tk p1 p2 (.inr ⟨_, false, _, b1, b3⟩) s1 s2 b3 b4 b5
  · have isZ : s.TypeIs (.ref z) "zip" := ⟨_, hz, rfl⟩
    unfold pyNext
    refine wpAny_bind (wpAny_attempt (wpAny_callSpecial?_slot (name := Str.ofString "__next__") isZ F.slot_zip_next (wpAny_call_entry F.slot_zip_next isZ F.entry_zip_next (held_next S D1 D2 hz hT hTI st1 st2 lt1 lt2 fun x1 x2 h' tk p1 p2 b1 s1 s2 b3 b4 b5 => ?_) (F.args_zip_next_1 _))))
    refine wpAny_pure (hQ x1 x2 h' tk p1 p2 ?_ s1 s2 b3 b4 fun c o c1 _ c2 c3 e => b5 c o c1 c2 c3 e)
    refine .inr ⟨T, true, ?_⟩
    by_cases hTz : T = z
    · exact ⟨_, b1, by rw [hTz]; exact b1⟩
    · by_cases h1 : T = i1
      · obtain ⟨o, ho⟩ := D1.live _ _ s1
        exact ⟨o, b1, by rw [h1]; exact ho⟩
      · by_cases h2 : T = i2
        · obtain ⟨o, ho⟩ := D2.live _ _ s2
          exact ⟨o, b1, by rw [h2]; exact ho⟩
        · exact ⟨oT, b1, b5 T oT hTz h1 h2 hT⟩
theorem zip_stop {Q : Option Value → Shared → Prop} (S : ZipSep2 z TI TO i1 i2 fp1 fp2) (D1 : Draws prog w A.in1 i1 fp1 n1 P1 St1) (D2 : Draws prog w A.in1 i2 fp2 n2 P2 St2) (hz : ZCell z TI TO s.heap) (hTI : IsTupOf2 s.heap TI (.ref i1) (.ref i2)) (st1 : St1 i s.heap) (st2 : St2 i s.heap) (le1 : i ≤ n1) (le2 : i ≤ n2) (fin : i = n1 ∨ i = n2)
    (hQ : ∀ h' tk, (∀ c o, c ≠ z → c ≠ TO → c ≠ i1 → c ≠ i2 → s.heap.get? c = some o → h'.get? c = some o) → Q none { s with heap := h', toks := tk }) : wpAny (model prog w) A (pyNext (.ref z)) Q E s := by
  rcases hz with ⟨hz, a1, a2, hTO⟩ | ⟨T, f, oT, hz, hT⟩
  · exact wpAny_pyNext_zipD2_end S D1 D2 hz hTI hTO st1 st2 le1 le2 fin hQ
  · have isZ : s.TypeIs (.ref z) "zip" := ⟨_, hz, rfl⟩
    unfold pyNext
    refine wpAny_bind (wpAny_attempt (wpAny_callSpecial?_slot (name := Str.ofString "__next__") isZ F.slot_zip_next (wpAny_call_entry F.slot_zip_next isZ F.entry_zip_next (held_end S D1 D2 hz hT hTI st1 st2 le1 le2 fin fun h' tk e hk he => ?_) (F.args_zip_next_1 _))))
    obtain ⟨o, ho, hc⟩ := he
    refine wpAny_bind (wpAny_isInstance (T := "StopIteration") (b := true) ⟨o, ho, hc⟩ isSubtype_stop ?_)
    exact wpAny_pure (hQ _ _ fun c o c1 _ c2 c3 e => hk c o c1 c2 c3 e)
end
end BV

/-! tuple(zip(a, b)), list(zip(a, b)): the pairs are gathered. -/
namespace BV
open PySem PySem.Spec PySem.W PySem.Calls PyProof.Rows

/-- the pairs gathered so far stand at the addresses as, all of them from b0 on -/
structure Got (P1 P2 : Nat → Value → Prop) (b0 : Nat) (as : List Addr) (h : Heap) : Prop where
  rise : as.Pairwise (· < ·)
  low : ∀ a ∈ as, b0 ≤ a
  at_ : ∀ (j : Nat) (a : Addr), as[j]? = some a → ∃ x1 x2, P1 j x1 ∧ P2 j x2 ∧ IsTupOf2 h a x1 x2
section
variable {P1 P2 : Nat → Value → Prop} {b0 : Nat} {as : List Addr} {h h' : Heap}
theorem Got.keeps (g : Got P1 P2 b0 as h) (k : ∀ c o, b0 ≤ c → h.get? c = some o → h'.get? c = some o) : Got P1 P2 b0 as h' := ⟨g.rise, g.low, fun j a e =>
  let ⟨x1, x2, p1, p2, q⟩ := g.at_ j a e
  ⟨x1, x2, p1, p2, k a _ (g.low a (List.mem_of_getElem? e)) q⟩⟩
theorem Got.more (g : Got P1 P2 b0 as h) {a : Addr} {x1 x2 : Value} (p1 : P1 as.length x1) (p2 : P2 as.length x2) (q : IsTupOf2 h a x1 x2) (hb : b0 ≤ a) (ha : ∀ c ∈ as, c < a) : Got P1 P2 b0 (as ++ [a]) h := by
  refine ⟨List.pairwise_append.mpr ⟨g.rise, List.pairwise_singleton _ _, fun c hc d hd => by rw [List.mem_singleton.mp hd]; exact ha c hc⟩, fun c hc => ?_, fun j c e => ?_⟩
  · rcases List.mem_append.mp hc with hc | hc
    · exact g.low c hc
    · rw [List.mem_singleton.mp hc]; exact hb
  · rcases Nat.lt_trichotomy j as.length with hj | hj | hj
    · rw [List.getElem?_append_left hj] at e
      exact g.at_ j c e
    · subst hj
      have : a = c := by simpa using e
      subst this
      exact ⟨x1, x2, p1, p2, q⟩
    · rw [List.getElem?_eq_none (by rw [List.length_append, List.length_singleton]; omega)] at e
      cases e
theorem Got.there (g : Got P1 P2 b0 as h) {a : Addr} (ha : a ∈ as) : a < h.objs.size := by
  obtain ⟨j, hj⟩ := List.mem_iff_getElem?.mp ha
  obtain ⟨_, _, _, _, e⟩ := g.at_ j a hj
  exact Heap.lt_size e
end
abbrev lstO (acc : Array Value) (c : Nat) : Obj := { cls := .type "list", dict := none, data := .seq acc c, slots := #[] }
section
variable {prog : Program} {w : World} {A : Around} {s : Shared} {R : Result → Shared → Prop} {z TI TO i1 i2 L : Addr} {fp1 fp2 : List Addr} {n1 n2 : Nat} {P1 P2 : Nat → Value → Prop} {St1 St2 : Nat → Heap → Prop} {b0 : Nat}
/-- the list that gathers lies apart -/
structure Apart (z TI TO i1 i2 L : Addr) (fp1 fp2 : List Addr) (b0 : Nat) : Prop where
  z0 : z < b0
  T0 : TO < b0
  i10 : i1 < b0
  i20 : i2 < b0
  L0 : L < b0
  f1 : L ∉ fp1
  f2 : L ∉ fp2
  Lz : L ≠ z
  LT : L ≠ TO
  LI : L ≠ TI
  L1 : L ≠ i1
  L2 : L ≠ i2
theorem ZCell.up (g : ZCell z TI TO h) {h' : Heap} (hLz : L ≠ z) (hLT : L ≠ TO) (k : ∀ c o, c ≠ L → h.get? c = some o → h'.get? c = some o) (kL : ∀ o, h.get? L = some o → ∃ o', h'.get? L = some o') : ZCell z TI TO h' := by
  rcases g with ⟨g1, a1, a2, g2⟩ | ⟨T, f, oT, g1, g2⟩
  · exact .inl ⟨k _ _ hLz.symm g1, a1, a2, k _ _ hLT.symm g2⟩
  · by_cases hT : T = L
    · subst hT
      obtain ⟨o', e⟩ := kL _ g2
      exact .inr ⟨T, f, o', k _ _ hLz.symm g1, e⟩
    · exact .inr ⟨T, f, oT, k _ _ hLz.symm g1, k _ _ hT g2⟩
theorem zip_loop (SP : ZipSep2 z TI TO i1 i2 fp1 fp2) (D1 : Draws prog w A.in1.in1 i1 fp1 n1 P1 St1) (D2 : Draws prog w A.in1.in1 i2 fp2 n2 P2 St2) (Ap : Apart z TI TO i1 i2 L fp1 fp2 b0) (hn : min n1 n2 ≤ sizeLine) (res : Value) {h₁ : Heap}
    (hR : ∀ h' tk acc c as, (∀ b o, b ≠ L → b ≠ z → b ≠ TO → b ≠ i1 → b ≠ i2 → h₁.get? b = some o → h'.get? b = some o) → h'.get? L = some (lstO acc c) → as.length = min n1 n2 → Got P1 P2 b0 as h' → acc.toList = as.map Value.ref → R (.ok (.ret res)) { s with heap := h', toks := tk }) :
    ∀ (k i : Nat) (h : Heap) (tk c : Nat) (acc : Array Value) (as : List Addr), min n1 n2 - i = k → i ≤ min n1 n2 → ZCell z TI TO h → IsTupOf2 h TI (.ref i1) (.ref i2) → St1 i h → St2 i h → (∀ b o, b ≠ L → b ≠ z → b ≠ TO → b ≠ i1 → b ≠ i2 → h₁.get? b = some o → h.get? b = some o) →
      h.get? L = some (lstO acc c) → acc.toList = as.map Value.ref → as.length = i → Got P1 P2 b0 as h → b0 ≤ h.objs.size →
      codeAny (model prog w) A (.builtin "list.extend.loop" ⟨[.ref L, .ref z, res], []⟩) R { s with heap := h, toks := tk } := by
  intro k
  induction k with
  | zero =>
    intro i h tk c acc as hk hi hz hTI s1 s2 keep hL hacc hal hG hb
    refine codeAny_builtin PySem.F.entry_extend_loop ?_
    rw [Around.under_plainId PySem.F.plain_extend_loop _]
    show wpAny _ A.in1 (pyNext (.ref z) >>= _) _ _ _
    refine wpAny_bind (zip_stop (s := { s with heap := h, toks := tk }) SP D1 D2 hz hTI s1 s2 (by omega) (by omega) (by omega) fun h' tk' hk' => ?_)
    exact wpAny_pure (hR h' tk' acc c as (fun b o a1 a2 a3 a4 a5 e => hk' b o a2 a3 a4 a5 (keep b o a1 a2 a3 a4 a5 e)) (hk' L _ Ap.Lz Ap.LT Ap.L1 Ap.L2 hL) (by omega)
      (hG.keeps fun c o hc e => hk' c o (Nat.ne_of_gt (Nat.lt_of_lt_of_le Ap.z0 hc)) (Nat.ne_of_gt (Nat.lt_of_lt_of_le Ap.T0 hc)) (Nat.ne_of_gt (Nat.lt_of_lt_of_le Ap.i10 hc)) (Nat.ne_of_gt (Nat.lt_of_lt_of_le Ap.i20 hc)) e) hacc)
  | succ k ih =>
    intro i h tk c acc as hk hi hz hTI s1 s2 keep hL hacc hal hG hb
    have hsz : acc.size = i := by rw [← Array.length_toList, hacc, List.length_map, hal]
    refine codeAny_builtin PySem.F.entry_extend_loop ?_
    rw [Around.under_plainId PySem.F.plain_extend_loop _]
    show wpAny _ A.in1 (pyNext (.ref z) >>= _) _ _ _
    refine wpAny_bind (zip_turn (s := { s with heap := h, toks := tk }) SP D1 D2 hz hTI s1 s2 (by omega) (by omega) fun x1 x2 h' tk' p1 p2 hz' t1 t2 pr hsize kp => ?_)
    dsimp only at pr hsize kp ⊢
    have hL' := kp L _ Ap.Lz Ap.LT Ap.L1 Ap.L2 hL
    have up : ∀ b o, b ≠ L → h'.get? b = some o → (h'.update L (Obj.mapSeq (·.push (Value.ref h.objs.size)))).get? b = some o := fun b o hne e => (Heap.get?_update_other _ _ (Ne.symm hne)).trans e
    have hLl : L < h.objs.size := Heap.lt_size hL
    have newL := Heap.get?_update_self (Obj.mapSeq (·.push (Value.ref h.objs.size))) hL' rfl
    have far : ∀ c o, b0 ≤ c → h.get? c = some o → (h'.update L (Obj.mapSeq (·.push (Value.ref h.objs.size)))).get? c = some o := fun c o hc e =>
      up c o (Nat.ne_of_gt (Nat.lt_of_lt_of_le Ap.L0 hc)) (kp c o (Nat.ne_of_gt (Nat.lt_of_lt_of_le Ap.z0 hc)) (Nat.ne_of_gt (Nat.lt_of_lt_of_le Ap.T0 hc)) (Nat.ne_of_gt (Nat.lt_of_lt_of_le Ap.i10 hc)) (Nat.ne_of_gt (Nat.lt_of_lt_of_le Ap.i20 hc)) e)
    have pr' : IsTupOf2 (h'.update L (Obj.mapSeq (·.push (Value.ref h.objs.size)))) h.objs.size x1 x2 := up _ _ (Nat.ne_of_gt hLl) pr
    show wpAny _ A.in1 (updateSeq L (·.push (Value.ref h.objs.size)) >>= _) _ _ _
    refine wpAny_bind ?_
    refine wpAny_updateSeq hL' rfl (wpAny_pure ⟨plainId_quiet PySem.F.plain_extend_loop _, ih (i + 1) _ tk' _ (acc.push (Value.ref h.objs.size)) (as ++ [h.objs.size]) (by omega) (by omega)
      (hz'.up Ap.Lz Ap.LT up fun o _ => ⟨_, newL⟩) (up _ _ Ap.LI.symm (kp _ _ SP.TIz SP.TITO SP.TIi1 SP.TIi2 hTI)) (D1.frame _ _ _ t1 fun b hb' o e => up b o (fun q => Ap.f1 (q ▸ hb')) e) (D2.frame _ _ _ t2 fun b hb' o e => up b o (fun q => Ap.f2 (q ▸ hb')) e)
      (fun b o a1 a2 a3 a4 a5 e => up b o a1 (kp b o a2 a3 a4 a5 (keep b o a1 a2 a3 a4 a5 e))) newL (by rw [Array.toList_push, hacc, List.map_append]; rfl) (by rw [List.length_append, hal]; rfl)
      ((hG.keeps far).more (by rw [hal]; exact p1) (by rw [hal]; exact p2) pr' hb fun c hc => hG.there hc) (Nat.le_trans hb (Nat.le_of_lt (Heap.lt_size pr')))⟩) (by rw [hsz]; omega) (by show (acc.push _).size ≤ _; rw [Array.size_push, hsz]; omega)
theorem zip_nolen : typeLookup (.type "zip") "__len__" = pure none := am_miss_of_fast (by decide +kernel)
theorem zip_nohint : typeLookup (.type "zip") "__length_hint__" = pure none := am_miss_of_fast (by decide +kernel)
theorem zip_extend (SP : ZipSep2 z TI TO i1 i2 fp1 fp2) (D1 : Draws prog w A.in1.in1 i1 fp1 n1 P1 St1) (D2 : Draws prog w A.in1.in1 i2 fp2 n2 P2 St2) (Ap : Apart z TI TO i1 i2 L fp1 fp2 b0) (hn : min n1 n2 ≤ sizeLine) (res : Value) {c0 : Nat}
    (hz : IsZip s.heap z TI TO .none) (hTI : IsTupOf2 s.heap TI (.ref i1) (.ref i2)) (hTO : ∃ a1 a2, IsTupOf2 s.heap TO a1 a2) (s1 : St1 0 s.heap) (s2 : St2 0 s.heap) (hL : s.heap.get? L = some (lstO #[] c0)) (hb : b0 ≤ s.heap.objs.size)
    (hR : ∀ h' tk acc c as, (∀ b o, b ≠ L → b ≠ z → b ≠ TO → b ≠ i1 → b ≠ i2 → s.heap.get? b = some o → h'.get? b = some o) → h'.get? L = some (lstO acc c) → as.length = min n1 n2 → Got P1 P2 b0 as h' → acc.toList = as.map Value.ref → R (.ok (.ret res)) { s with heap := h', toks := tk }) :
    wpAny (model prog w) A.in1 (Builtin.List.listExtendWith (.ref L) (.ref z) res)
      (fun fin s' => match fin with | .done f => R (.ok f) s' | .again c' => c'.quiet = true ∧ codeAny (model prog w) A c' R s') (fun e s' => R (.error e) s') s := by
  have isZ : ∀ {h : Heap} {tk : Nat}, IsZip h z TI TO .none → Shared.TypeIs { s with heap := h, toks := tk } (.ref z) "zip" := fun q => ⟨_, q, rfl⟩
  unfold Builtin.List.listExtendWith
  refine wpAny_bind (wpAny_typeOf (T := "zip") (isZ hz) ?_)
  have h1 : Builtin.List.listSameRef (.ref L) (.ref z) = false := by simp [Builtin.List.listSameRef, Ap.Lz]
  have h2 : (Value.type "zip" == Value.type "list") = false := by decide
  have h3 : (Value.type "zip" == Value.type "tuple") = false := by decide
  simp only [h1, h2, h3, Bool.or_false, Bool.false_eq_true, if_false]
  refine wpAny_bind (wpAny_pyIter_zip hz ?_)
  refine wpAny_bind (wpAny_holding ?_)
  unfold Builtin.List.listLengthHint
  refine wpAny_bind (wpAny_specialOf (isZ hz) zip_nolen ?_)
  show wpAny _ A.in1 (specialOf (Value.ref z) (Str.ofString "__length_hint__") >>= _) _ _ _
  refine wpAny_bind (wpAny_specialOf (isZ hz) zip_nohint ?_)
  refine wpAny_pure ?_
  show wpAny _ A.in1 (rule "list.extend.makes-room" >>= fun _ => Builtin.List.listTouch (.ref L) >>= fun _ => again (.builtin "list.extend.loop" ⟨[.ref L, .ref z, res], []⟩)) _ _ _
  refine wpAny_bind (wpAny_rule ?_)
  refine wpAny_bind ?_
  show wpAny _ A.in1 (updateSeq L (·.push .none) >>= fun _ => updateSeq L (·.pop)) _ _ _
  refine wpAny_bind (wpAny_updateSeq hL rfl ?_)
  have hL2 := Heap.get?_update_self (Obj.mapSeq (·.push Value.none)) hL rfl
  refine wpAny_updateSeq hL2 rfl ?_
  have hL3 := Heap.get?_update_self (Obj.mapSeq (·.pop)) hL2 rfl
  have up : ∀ b o, b ≠ L → s.heap.get? b = some o → ((s.heap.update L (Obj.mapSeq (·.push Value.none))).update L (Obj.mapSeq (·.pop))).get? b = some o :=
    fun b o hne e => (Heap.get?_update_other _ _ (Ne.symm hne)).trans ((Heap.get?_update_other _ _ (Ne.symm hne)).trans e)
  refine wpAny_pure ⟨plainId_quiet PySem.F.plain_extend_loop _, ?_⟩
  obtain ⟨a1, a2, hTO⟩ := hTO
  exact zip_loop SP D1 D2 Ap hn res (h₁ := s.heap) hR (min n1 n2) 0 _ _ _ #[] [] (Nat.sub_zero _) (Nat.zero_le _) (.inl ⟨up _ _ Ap.Lz.symm hz, a1, a2, up _ _ Ap.LT.symm hTO⟩) (up _ _ Ap.LI.symm hTI)
    (D1.frame _ _ _ s1 fun b hb' o e => up b o (fun q => Ap.f1 (q ▸ hb')) e) (D2.frame _ _ _ s2 fun b hb' o e => up b o (fun q => Ap.f2 (q ▸ hb')) e) (fun b o a1 _ _ _ _ e => up b o a1 e) hL3 rfl rfl
    ⟨List.Pairwise.nil, (fun _ m => nomatch m), fun j a e => by simp at e⟩ (by rw [Heap.size_update, Heap.size_update]; exact hb)
end
end BV

/-! tuple(zip(a, b)), list(zip(a, b)): the calls. -/
namespace BV
open PySem PySem.Spec PySem.W PySem.Calls PyProof.Rows

/-- what stands at l, a list or a tuple of the items, can be gone through -/
structure Src (prog : Program) (w : World) (l : Addr) (items : Array Value) (o : Obj) (H : Heap → Prop) (St : Addr → Nat → Heap → Prop) : Prop where
  begins : Begins (.ref l) o H
  draws : ∀ (A : Around) (it : Addr), A.handled = none → l ≠ it → Draws prog w A it [it, l] items.size (fun i x => items[i]? = some x) (St it)
  start : ∀ (h : Heap) (it : Addr), H h → h.get? it = some o → St it 0 h
theorem src_list {prog : Program} {w : World} (l : Addr) (items : Array Value) : Src prog w l items { cls := .type "list_iterator", data := .fields #[.ref l, .int 0 0] } (fun h => h.IsList l items) fun it i h => h.IsListIter it l i ∧ h.IsList l items :=
  ⟨begins_list l items, fun A it hh hne => Draws.list hh it l hne items, fun h it hl e => ⟨⟨_, e, rfl, rfl⟩, hl⟩⟩
theorem src_tuple {prog : Program} {w : World} (l : Addr) (items : Array Value) : Src prog w l items { cls := .type "tuple_iterator", data := .fields #[.ref l, .int 0 0] } (fun h => h.IsTuple l items) fun it i h => h.IsTupleIter it l i ∧ h.IsTuple l items :=
  ⟨begins_tuple l items, fun A it hh hne => Draws.tuple hh it l hne items, fun h it hl e => ⟨⟨_, e, rfl, rfl⟩, hl⟩⟩
abbrev PairsAt (xs ys : Array Value) (b0 : Nat) (as : List Addr) (h : Heap) : Prop := Got (fun i x => xs[i]? = some x) (fun i x => ys[i]? = some x) b0 as h
theorem apart_new {N : Nat} {l1 l2 : Addr} (h1 : l1 < N) (h2 : l2 < N) : Apart (N + 4) (N + 2) (N + 3) N (N + 1) (N + 5) [N, l1] [N + 1, l2] (N + 6) where
  z0 := show (N + 4 : Nat) < N + 6 by omega
  T0 := show (N + 3 : Nat) < N + 6 by omega
  i10 := show (N : Nat) < N + 6 by omega
  i20 := show (N + 1 : Nat) < N + 6 by omega
  L0 := show (N + 5 : Nat) < N + 6 by omega
  f1 := fun m => by
    rcases List.mem_cons.mp m with e | m
    · exact absurd (show (N + 5 : Nat) = N from e) (by omega)
    · exact absurd (List.mem_singleton.mp m) (Nat.ne_of_gt (Nat.lt_of_lt_of_le h1 (Nat.le_add_right _ _)))
  f2 := fun m => by
    rcases List.mem_cons.mp m with e | m
    · exact absurd (show (N + 5 : Nat) = N + 1 from e) (by omega)
    · exact absurd (List.mem_singleton.mp m) (Nat.ne_of_gt (Nat.lt_of_lt_of_le h2 (Nat.le_add_right _ _)))
  Lz := show (N + 5 : Nat) ≠ N + 4 by omega
  LT := show (N + 5 : Nat) ≠ N + 3 by omega
  LI := show (N + 5 : Nat) ≠ N + 2 by omega
  L1 := show (N + 5 : Nat) ≠ N by omega
  L2 := show (N + 5 : Nat) ≠ N + 1 by omega
section
variable {prog : Program} {w : World} {A : Around} {E : Value → Shared → Prop} {s : Shared} {l1 l2 : Addr} {xs ys : Array Value} {o1 o2 : Obj} {H1 H2 : Heap → Prop} {St1 St2 : Addr → Nat → Heap → Prop} {N : Nat}
/-- a fresh zip over l1 and l2, its cells from N on -/
structure Zipped (N : Nat) (s0 s : Shared) (St1 St2 : Addr → Nat → Heap → Prop) : Prop where
  z : IsZip s.heap (N + 4) (N + 2) (N + 3) .none
  TI : IsTupOf2 s.heap (N + 2) (.ref N) (.ref (N + 1))
  TO : IsTupOf2 s.heap (N + 3) .none .none
  s1 : St1 N 0 s.heap
  s2 : St2 (N + 1) 0 s.heap
  size : s.heap.objs.size = N + 5
  old : ∀ c o, s0.heap.get? c = some o → s.heap.get? c = some o
theorem call_zipS (S1 : Src prog w l1 xs o1 H1 St1) (S2 : Src prog w l2 ys o2 H2 St2) (h1 : H1 s.heap) (h2 : H2 s.heap) {Q : Value → Shared → Prop}
    (q : ∀ h', Zipped s.heap.objs.size s { s with heap := h' } St1 St2 → Q (.ref (s.heap.objs.size + 4)) { s with heap := h' }) : wpAny (model prog w) A (call (.type "zip") [.ref l1, .ref l2]) Q E s :=
  zip_begins2 S1.begins S2.begins h1 h2 fun h' a1 a2 a3 a4 a5 a6 a7 => q h' ⟨a1, a2, a3, S1.start _ _ (S1.begins.keeps _ _ h1 a7) a4, S2.start _ _ (S2.begins.keeps _ _ h2 a7) a5, a6, a7⟩
theorem sep_of (k1 : l1 < N) (k2 : l2 < N) : ZipSep2 (N + 4) (N + 2) (N + 3) N (N + 1) [N, l1] [N + 1, l2] := zip_sep2 (fun b m => by rw [List.mem_singleton.mp m]; exact k1) fun b m => by rw [List.mem_singleton.mp m]; exact k2
theorem zip_gather {R : Result → Shared → Prop} {c0 : Nat} {s0 : Shared} (S1 : Src prog w l1 xs o1 H1 St1) (S2 : Src prog w l2 ys o2 H2 St2) (hh : A.handled = none) (k1 : l1 < N) (k2 : l2 < N) (hn : min xs.size ys.size ≤ sizeLine) (Z : Zipped N s0 s0 St1 St2) (res : Value)
    (up : ∀ b o, s0.heap.get? b = some o → s.heap.get? b = some o) (hL : s.heap.get? (N + 5) = some (lstO #[] c0)) (hb : N + 6 ≤ s.heap.objs.size)
    (hR : ∀ h' tk acc c as, (∀ b o, b < N → s0.heap.get? b = some o → h'.get? b = some o) → h'.get? (N + 5) = some (lstO acc c) → as.length = min xs.size ys.size → PairsAt xs ys (N + 6) as h' → acc.toList = as.map Value.ref → R (.ok (.ret res)) { s with heap := h', toks := tk }) :
    wpAny (model prog w) A.in1 (Builtin.List.listExtendWith (.ref (N + 5)) (.ref (N + 4)) res)
      (fun fin s' => match fin with | .done f => R (.ok f) s' | .again c' => c'.quiet = true ∧ codeAny (model prog w) A c' R s') (fun e s' => R (.error e) s') s := by
  have D1 := S1.draws A.in1.in1 N hh (Nat.ne_of_lt k1)
  have D2 := S2.draws A.in1.in1 (N + 1) hh (Nat.ne_of_lt (Nat.lt_succ_of_lt k2))
  refine zip_extend (b0 := N + 6) (n1 := xs.size) (n2 := ys.size) (sep_of k1 k2) D1 D2 (apart_new k1 k2) hn res (c0 := c0) (up _ _ Z.z) (up _ _ Z.TI) ⟨_, _, up _ _ Z.TO⟩ (D1.frame _ _ _ Z.s1 fun b _ o e => up b o e) (D2.frame _ _ _ Z.s2 fun b _ o e => up b o e) hL hb fun h' tk acc c as a1 a2 a3 a4 a5 => ?_
  refine hR h' tk acc c as (fun b o hb e => a1 b o ?_ ?_ ?_ ?_ ?_ (up b o e)) a2 a3 a4 a5
  · exact Nat.ne_of_lt (Nat.lt_of_lt_of_le hb (Nat.le_add_right _ _))
  · exact Nat.ne_of_lt (Nat.lt_of_lt_of_le hb (Nat.le_add_right _ _))
  · exact Nat.ne_of_lt (Nat.lt_of_lt_of_le hb (Nat.le_add_right _ _))
  · exact Nat.ne_of_lt hb
  · exact Nat.ne_of_lt (Nat.lt_of_lt_of_le hb (Nat.le_add_right _ _))
/-- list(a fresh zip) -/
theorem list_of_zip (S1 : Src prog w l1 xs o1 H1 St1) (S2 : Src prog w l2 ys o2 H2 St2) (hh : A.handled = none) (k1 : l1 < N) (k2 : l2 < N) (hn : min xs.size ys.size ≤ sizeLine) (Z : Zipped N s s St1 St2) {Q : Value → Shared → Prop}
    (q : ∀ h' tk acc c as, (∀ b o, b < N → s.heap.get? b = some o → h'.get? b = some o) → h'.get? (N + 5) = some (lstO acc c) → as.length = min xs.size ys.size → PairsAt xs ys (N + 6) as h' → acc.toList = as.map Value.ref → Q (.ref (N + 5)) { s with heap := h', toks := tk }) :
    wpAny (model prog w) A (call (.type "list") [.ref (N + 4)]) Q E s := by
  refine callType_codes (Q₁ := fun obj s₁ => obj = .ref s.heap.objs.size ∧ s₁ = { s with heap := s.heap.push { cls := .type "list", data := .seq #[] } }) PySem.F.called_list (PySem.F.typeCall_list_1 _) PySem.F.entry_list_init
    (code_list_new _ ⟨rfl, rfl⟩) fun obj s₁ h₁ => ?_
  obtain ⟨rfl, rfl⟩ := h₁
  have hL : (s.heap.push { cls := .type "list", data := .seq #[] }).get? s.heap.objs.size = some (lstO #[] 0) := Heap.get?_push_size _ rfl
  refine ⟨⟨_, hL, rfl⟩, PySem.F.args_list_init_2 _ _, ?_⟩
  show wpAny _ _ (do let old ← Builtin.List.listItems (.ref s.heap.objs.size); Builtin.List.listUpdate (.ref s.heap.objs.size) (fun _ => #[]); letGo old.toList.reverse; Builtin.List.listExtendWith (.ref s.heap.objs.size) (.ref (N + 4)) .none) _ _ _
  refine wpAny_bind ?_
  unfold Builtin.List.listItems
  refine wpAny_bind (wpAny_seqItems hL rfl (wpAny_pure ?_))
  show wpAny _ _ (updateSeq s.heap.objs.size (fun _ => #[]) >>= fun _ => letGo (#[] : Array Value).toList.reverse >>= fun _ => Builtin.List.listExtendWith (.ref s.heap.objs.size) (.ref (N + 4)) .none) _ _ _
  refine wpAny_bind (wpAny_updateSeq hL rfl ?_)
  refine wpAny_bind (wpAny_letGo ?_)
  have hL2 := Heap.get?_update_self (Obj.mapSeq (fun _ => (#[] : Array Value))) hL rfl
  have up : ∀ b o, s.heap.get? b = some o → ((s.heap.push { cls := .type "list", data := .seq #[] }).update s.heap.objs.size (Obj.mapSeq (fun _ => (#[] : Array Value)))).get? b = some o := fun b o e =>
    (Heap.get?_update_other _ _ (Nat.ne_of_gt (Heap.lt_size e))).trans (Heap.get?_push_of_some _ e)
  rw [Z.size] at hL2 up ⊢
  refine zip_gather (s0 := s) (A := A.in1) S1 S2 hh k1 k2 hn Z .none up hL2 ?_ fun h' tk acc c as a1 a2 a3 a4 a5 => ⟨rfl, q h' tk acc c as a1 a2 a3 a4 a5⟩
  rw [Heap.size_update, Heap.size_push, Z.size]
  exact Nat.le_refl _
/-- the pairs of a fresh zip, gathered -/
theorem collect_zip (S1 : Src prog w l1 xs o1 H1 St1) (S2 : Src prog w l2 ys o2 H2 St2) (hh : A.handled = none) (k1 : l1 < N) (k2 : l2 < N) (hn : min xs.size ys.size ≤ sizeLine) (Z : Zipped N s s St1 St2) {Q : List Value → Shared → Prop}
    (q : ∀ h' tk as, (∀ b o, b < N → s.heap.get? b = some o → h'.get? b = some o) → as.length = min xs.size ys.size → PairsAt xs ys (N + 6) as h' → N + 5 < h'.objs.size → Q (as.map Value.ref) { s with heap := h', toks := tk }) :
    wpAny (model prog w) A (collect (.ref (N + 4))) Q E s := by
  unfold collect
  refine wpAny_bind (wpAny_runValue (codeAny_builtin entry_proto_collect' ?_))
  rw [Around.under_plainId PySem.F.plain_proto_collect _]
  show wpAny _ A.in1 (newList [] >>= fun l => again (.builtin "list.__iadd__" ⟨[l, .ref (N + 4)], []⟩)) _ _ s
  refine wpAny_bind (wpAny_newObj_type ?_)
  refine wpAny_pure ⟨plainId_quiet PySem.F.plain_list_iadd _, codeAny_builtin entry_list_iadd' ?_⟩
  rw [Around.under_plainId PySem.F.plain_list_iadd _]
  have hL : (s.heap.push { cls := .type "list", data := .seq ([] : List Value).toArray }).get? s.heap.objs.size = some (lstO #[] 0) := Heap.get?_push_size _ rfl
  show wpAny _ A.in1 (Builtin.List.listExtendWith (.ref s.heap.objs.size) (.ref (N + 4)) (.ref s.heap.objs.size)) _ _ _
  have up : ∀ b o, s.heap.get? b = some o → (s.heap.push { cls := .type "list", data := .seq ([] : List Value).toArray }).get? b = some o := fun b o e => Heap.get?_push_of_some _ e
  have hb : N + 6 ≤ (s.heap.push { cls := .type "list", data := .seq ([] : List Value).toArray }).objs.size := by rw [Heap.size_push, Z.size]; exact Nat.le_refl _
  rw [Z.size] at hL ⊢
  have key := zip_gather (s := { s with heap := s.heap.push { cls := .type "list", data := .seq ([] : List Value).toArray } }) (s0 := s) (A := A) S1 S2 hh k1 k2 hn Z (.ref (N + 5)) up hL hb
    (R := fun (r : Result) (s' : Shared) => ∃ (h' : Heap) (tk : Nat) (acc : Array Value) (c : Nat) (as : List Addr), r = .ok (.ret (.ref (N + 5))) ∧ s' = { s with heap := h', toks := tk } ∧ (∀ b o, b < N → s.heap.get? b = some o → h'.get? b = some o) ∧ h'.get? (N + 5) = some (lstO acc c) ∧
      as.length = min xs.size ys.size ∧ PairsAt xs ys (N + 6) as h' ∧ acc.toList = as.map Value.ref) fun h' tk acc c as a1 a2 a3 a4 a5 => ⟨h', tk, acc, c, as, rfl, rfl, a1, a2, a3, a4, a5⟩
  refine wpAny_mono key (fun fin s' x => ?_) fun e s' x => ?_
  · cases fin with
    | done f =>
      obtain ⟨h', tk, acc, c, as, e, rfl, a1, a2, a3, a4, a5⟩ := x
      cases e
      show wpAny _ A (load (N + 5) >>= _) _ _ _
      refine wpAny_bind (wpAny_load a2 ?_)
      refine wpAny_pure ?_
      show Q acc.toList _
      rw [a5]
      exact q h' tk as a1 a3 a4 (Heap.lt_size a2)
    | again c₁ =>
      refine ⟨x.1, codeAny_mono x.2 fun r s₂ y => ?_⟩
      obtain ⟨h', tk, acc, c, as, rfl, rfl, a1, a2, a3, a4, a5⟩ := y
      show wpAny _ A (load (N + 5) >>= _) _ _ _
      refine wpAny_bind (wpAny_load a2 ?_)
      refine wpAny_pure ?_
      show Q acc.toList _
      rw [a5]
      exact q h' tk as a1 a3 a4 (Heap.lt_size a2)
  · obtain ⟨_, _, _, _, _, e', _⟩ := x
    cases e'
theorem tuple_of_zip (S1 : Src prog w l1 xs o1 H1 St1) (S2 : Src prog w l2 ys o2 H2 St2) (hh : A.handled = none) (k1 : l1 < N) (k2 : l2 < N) (hn : min xs.size ys.size ≤ sizeLine) (Z : Zipped N s s St1 St2) {Q : Value → Shared → Prop}
    (q : ∀ h' tk as, (∀ b o, b < N → s.heap.get? b = some o → h'.get? b = some o) → as.length = min xs.size ys.size → PairsAt xs ys (N + 6) as h' → N + 5 < h'.objs.size → Q (.ref h'.objs.size) { s with heap := h'.push { cls := .type "tuple", data := .seq (as.map Value.ref).toArray }, toks := tk }) :
    wpAny (model prog w) A (call (.type "tuple") [.ref (N + 4)]) Q E s := by
  refine callType_codes (Q₁ := fun obj s₁ => s₁.TypeIs obj "tuple" ∧ Q obj s₁) F.called_tuple (F.typeCall_tuple_1 _) F.entry_object_init ?new fun obj s₁ h₁ => ?_
  case new =>
    refine codeAny_of_tree ?_
    show wpAny _ A.in1.in1 (do checkBuiltinCall "tuple.__new__" ⟨[.type "tuple", .ref (N + 4)], []⟩; again (.builtin "tuple.__new__" ⟨[.type "tuple", .ref (N + 4)], []⟩)) _ _ s
    refine wpAny_bind (wpAny_of_eq (F.newCall_tuple_1 _) (wpAny_pure ⟨plainId_quiet F.plain_tuple_new _, codeAny_builtin F.entry_tuple_new ?_⟩))
    rw [Around.under_plainId F.plain_tuple_new _]
    have hsub := sub_tuple_self
    have hinit := init_tuple_lookup
    have hmh := madeHere_tuple
    have isZ : s.TypeIs (.ref (N + 4)) "zip" := ⟨_, Z.z, rfl⟩
    have hh1 : A.in1.in1.handled = none := hh
    wp_walk using wpAny_typeOf isZ, collect_zip (A := A.in1.in1) S1 S2 hh1 k1 k2 hn Z
    intro h' tk as a1 a2 a3 a4
    show wpAny _ _ (Builtin.Tuple.tupleExact (as.map Value.ref).toArray >>= fun v => ret v) _ _ _
    unfold Builtin.Tuple.tupleExact
    refine wpAny_bind (wpAny_newObj_type ?_ (by show (as.map Value.ref).toArray.size ≤ sizeLine; rw [List.size_toArray, List.length_map, a2]; exact hn))
    refine wpAny_pure ?_
    exact ⟨⟨_, Heap.get?_push_size _ rfl, rfl⟩, q h' tk as a1 a2 a3 a4⟩
  exact ⟨h₁.1, F.args_object_init_2 obj _, object_init_meets F.called_tuple.init.lookup F.called_tuple.made (by decide) prog w A.in1 _ s₁ ⟨h₁.1, rfl, h₁.2⟩⟩
end
end BV

/-! enumerate of a tuple. -/
namespace BV
open PySem PySem.Spec PyProof PyProof.Rows L2 Evl
set_option maxHeartbeats 1000000 in
theorem meets_enumT {v : Value} {o : Obj} {H : Heap → Prop} (B : Begins v o H) :
    Meets (Builtin.«enumerate.__new__» ⟨[.type "enumerate", v], []⟩) (fun _ R s => H s.heap ∧
      R (.ok (.ret (.ref (s.heap.push o).objs.size))) { s with heap := (s.heap.push o).push { cls := .type "enumerate", data := .fields #[.none, .bool false, .ref s.heap.objs.size, rawInt 0, .none, .none] } }) :=
  .of_wp fun prog w A R s h => by
    obtain ⟨hp, g, d, tk, os⟩ := s; obtain ⟨h1, h⟩ := h
    have hsub := sub_enumerate
    have q1 : ∀ {A' : Around} {E : Value → Shared → Prop} {Q : Value → Shared → Prop}, Q (.ref hp.objs.size) ⟨hp.push o, g, d, tk, os⟩ → wpAny (model prog w) A' (pyIter v) Q E ⟨hp, g, d, tk, os⟩ :=
      fun q => B.iter prog w _ _ ⟨hp, g, d, tk, os⟩ _ h1 q
    wp_walk
    refine wpAny_stack_any fun st => wpAny_pure ?_
    split
    · rename_i c _ _ _ _ _
      cases (c == Value.type "enumerate")
      · wp_walk using q1
        exact ⟨_, rfl, h⟩
      · wp_walk using q1
        exact ⟨_, rfl, h⟩
    · wp_walk using q1
      exact ⟨_, rfl, h⟩
section
variable {prog : Program} {w : World} {A : Around} {E : Value → Shared → Prop} {s : Shared}
theorem call_enumT {v : Value} {o : Obj} {H : Heap → Prop} {Q : Value → Shared → Prop} (B : Begins v o H) (h1 : H s.heap)
    (h : ∀ h', IsEnum h' (s.heap.objs.size + 1) s.heap.objs.size 0 .none → h'.get? s.heap.objs.size = some o → h'.objs.size = s.heap.objs.size + 2 →
      (∀ b o, s.heap.get? b = some o → h'.get? b = some o) → Q (.ref (s.heap.objs.size + 1)) { s with heap := h' }) :
    wpAny (model prog w) A (call (.type "enumerate") [v]) Q E s := by
  refine callType_new F.called_enumerate (by decide) (F.typeCall_enumerate_1 _) (F.newCall_enumerate_1 _) (fun obj => F.args_object_init_2 obj _) F.entry_enumerate_new
    (meets_enumT B) ⟨h1, ?_⟩
  have hz : (s.heap.push o).objs.size = s.heap.objs.size + 1 := Heap.size_push ..
  show _ ∧ _
  rw [hz]
  have he : IsEnum ((s.heap.push o).push { cls := .type "enumerate", data := .fields #[.none, .bool false, .ref s.heap.objs.size, rawInt 0, .none, .none] }) (s.heap.objs.size + 1) s.heap.objs.size 0 .none := by
    have := Heap.get?_push_size (s.heap.push o) (o := { cls := .type "enumerate", data := .fields #[.none, .bool false, .ref s.heap.objs.size, rawInt 0, .none, .none] }) rfl
    rw [hz] at this; exact this
  refine ⟨⟨_, he, rfl⟩, h _ he (Heap.get?_push_of_some _ (Heap.get?_push_size _ B.free)) (by rw [Heap.size_push, hz]) fun b o x => Heap.get?_push_of_some _ (Heap.get?_push_of_some _ x)⟩
end
section
variable {prog : Program} {w : World} {A : Around} {E : Value → Shared → Prop} {s : Shared}
theorem pyNext_enumT_end {e it l : Addr} {i : Nat} {items : Array Value} {old : Value} {Q : Option Value → Shared → Prop} (hh : A.handled = none)
    (he : IsEnum s.heap e it i old) (hit : s.heap.IsTupleIter it l i) (hl : s.heap.IsTuple l items) (hx : items[i]? = none)
    (hQ : ∀ h', Heap.ExtBut it s.heap h' → Q none { s with heap := h' }) : wpAny (model prog w) A (pyNext (.ref e)) Q E s := by
  have hT : s.TypeIs (.ref e) "enumerate" := ⟨_, he, rfl⟩
  unfold pyNext
  refine wpAny_bind (wpAny_attempt (wpAny_callSpecial?_slot (name := Str.ofString "__next__") hT F.slot_enumerate_next
    (wpAny_call_entry F.slot_enumerate_next hT F.entry_enumerate_next ?_ (F.args_enumerate_next_1 _))))
  show wpAny _ _ (field (.ref e) 2 >>= _) _ _ _
  refine wpAny_bind (wpAny_field he rfl (x := .ref it) rfl ?_)
  refine wpAny_bind (wpAny_nextOf_tuple_end hh hit hl hx fun h' x he' hx' => ?_)
  obtain ⟨o, ho, hc⟩ := hx'
  refine wpAny_bind (wpAny_isInstance (T := "StopIteration") (b := true) ⟨o, ho, hc⟩ isSubtype_stop ?_)
  exact wpAny_pure (hQ _ he')
end
/-- the tuple at a, each item in a new pair -/
def ItT (K : PySem.W.Frag) (a : Addr) : It :=
  ⟨fun i H => ∃ (xs : List V) (x : V), SqT K H a xs ∧ xs[i]? = some x, fun i H v H' => ∃ T x, v = .ref T ∧ H T = none ∧ H' = upd H T (.tup [.int (i : Nat), x]) ∧ ∀ xs, SqT K H a xs → xs[i]? = some x, fun i H => ∃ xs : List V, SqT K H a xs ∧ xs.length ≤ i⟩
theorem apart_it {h : Heap} {a it : Addr} {its : Array Value} {i : Nat} (p : h.IsTuple a its) (q : h.IsTupleIter it a i) : a ≠ it := fun e => by
  subst e
  obtain ⟨o, ho, hc, _⟩ := p
  obtain ⟨o', ho', hc', _⟩ := q
  rw [ho] at ho'
  cases ho'
  rw [hc] at hc'
  exact absurd hc' (by simp)
theorem apart_en {h : Heap} {a e it : Addr} {its : Array Value} {i : Int} {old : Value} (p : h.IsTuple a its) (q : IsEnum h e it i old) : e ≠ a := fun e' => by
  subst e'
  obtain ⟨o, ho, hc, _⟩ := p
  have q : h.get? e = some _ := q
  rw [ho] at q
  cases q
  exact absurd hc (by simp)
theorem turn_enumT {P : Program} {w : World} {K : PySem.W.Frag} {elts : List Expr} {kk : Nat} {tpos : Pos} (a e it : Addr) :
    Turn P w K (.Tuple elts kk tpos) (ItT K a) [e, it] e (fun i h => (∃ old, IsEnum h e it ((i : Nat) : Int) old) ∧ h.IsTupleIter it a i ∧ e ≠ it) where
  mem := by simp
  obj := fun i h st b hb => by
    obtain ⟨⟨old, he⟩, ⟨o, ho, hc, hd⟩, _⟩ := st
    have e' : b = e ∨ b = it := by simpa using hb
    rcases e' with z | z
    · rw [z]; exact ⟨_, he, fun v q => nomatch q⟩
    · rw [z]; exact ⟨o, ho, fun v q => by rw [hd] at q; cases q⟩
  keep := fun i h h' st k => let ⟨⟨old, he⟩, hi, hne⟩ := st; ⟨⟨old, k e (by simp) _ he⟩, hi.at fun o q => k it (by simp) o q, hne⟩
  item := by
    intro X hP hw hK hc i pins s σ H E I hf st hg
    subst hP hw hK
    obtain ⟨⟨old, he⟩, hit, hne⟩ := st
    obtain ⟨xs, x, hq, hx⟩ := hg
    obtain ⟨its, rv, p, hz⟩ := I.tuple hq
    obtain ⟨u, hu, ru⟩ := rv.get hx
    have hel : e < s.heap.objs.size := Heap.lt_size he
    have hil : it < s.heap.objs.size := by obtain ⟨_, q, _⟩ := hit; exact Heap.lt_size q
    have pT : s.heap.IsTuple a its.toArray := p
    have hh : X.A.in1.handled = none := I.ok.hd hc
    refine wpAny_pyNext_enum_itemD (n := its.toArray.size) (Draws.tuple hh it a (apart_it pT hit) its.toArray) he ⟨hit, pT⟩ ?_ hne ?_ fun x' h' tk hP ho hst hT hsz hk => ?_
    · have := (List.getElem?_eq_some_iff.mp hu).1
      simpa using this
    · simp only [List.mem_cons, List.not_mem_nil, or_false, not_or]
      exact ⟨hne, apart_en pT he⟩
    have hxu : x' = u := by
      have h1 : its.toArray[i]? = some u := by simpa using hu
      rw [h1] at hP
      exact (Option.some.inj hP).symm
    subst hxu
    refine ⟨_, rfl, wpAny_letOwnedTupleGo_enum (s := { s with heap := h', toks := tk + 1 }) ho fun h'' he' sb => ?_⟩
    have hT2 : h''.get? s.heap.objs.size = some { cls := .type "tuple", data := .seq #[.int i tk, x'] } := (sb.2 _ (Nat.ne_of_gt hel)).trans hT
    have new : ObjOk X.prog X.w (upd H s.heap.objs.size (.tup [.int (i : Nat), x])) h'' s.heap.objs.size (.tup [.int (i : Nat), x]) :=
      ⟨by show 2 ≤ sizeLine; decide, [.int i tk, x'], .cons ⟨_, rfl⟩ (.cons ru .nil), ⟨_, hT2, rfl, _, rfl⟩⟩
    have I1 : Inv X pins σ (upd H s.heap.objs.size (.tup [.int (i : Nat), x])) { s with heap := h'', toks := tk + 1 } :=
      I.turnedNew (ch := [e, it]) (fun b ob hb q => (sb.2 b (fun z => hb (by simp [z]))).trans (hk b ob (fun z => hb (by simp [z])) (fun z => hb (by simp [z])) q)) hf (Nat.le_refl _) new
    refine ⟨.ref s.heap.objs.size, _, I1, rfl, ⟨_, x, rfl, I.hok.fresh (Nat.le_refl _), rfl, fun ys hy => by rw [I.tuple_inj hy hq]; exact hx⟩, ⟨⟨x', ?_⟩, hst.1.at fun o q => (sb.2 it (Ne.symm hne)).trans q, hne⟩, fun b hb => ?_⟩
    · have e1 : ((i + 1 : Nat) : Int) = (i : Int) + 1 := by omega
      rw [e1]; exact he'
    · have hb' : b < s.heap.objs.size := by
        have e' : b = e ∨ b = it := by simpa using hb
        rcases e' with z | z
        · rw [z]; exact hel
        · rw [z]; exact hil
      rw [upd_ne (Nat.ne_of_lt hb')]
      exact (hf b hb).1
  done := by
    intro X hP hw hK hc i pins s σ H E I hf st hg
    subst hP hw hK
    obtain ⟨⟨old, he⟩, hit, hne⟩ := st
    obtain ⟨xs, hq, hx⟩ := hg
    obtain ⟨its, rv, p, hz⟩ := I.tuple hq
    obtain ⟨f0, f1, f2, f3, f4, f5⟩ := hf it (by simp)
    have hl := rv.length
    exact pyNext_enumT_end (I.ok.hd hc) he hit (show s.heap.IsTuple a its.toArray from p) (by simp; omega) fun h' eb => ⟨rfl, I.turned (t' := s.toks) (fun b o hb q => eb b o hb q) f0 f1 f3 f4 f5⟩
  self := fun A i s Q E st h => let ⟨⟨_, he⟩, _⟩ := st; wpAny_pyIter_enum he h
def iEnumT (K : PySem.W.Frag) (ta : TA) : TI := fun σ H R => ta σ H fun vs H1 => ∃ a xs, vs = [.ref a] ∧ ((SqL K H1 a xs ∧ R (Ite K a) H1) ∨ (SqT K H1 a xs ∧ R (ItT K a) H1))
theorem pi_enumT {X : Cx} {e : Expr} {ta : TA} {p pos tpos : Pos} {elts : List Expr} {kk : Nat} (hg : Gl X "enumerate") (hm : X.mg "enumerate" = none) (ha : PA X [e] ta) (hs : starEach [e] X.env = [(false, eval e X.env)] := by rfl) :
    PI X (.Tuple elts kk tpos) (.Call (.Name "enumerate" p) [e] [] pos) (iEnumT X.K ta) := by
  refine ⟨fun pins s σ H R I h => ?_⟩
  refine Call_ (ld_blt I hg hm boot_enumerate (PyProof.Rows.callWith_type1 (thn (ha.run pos pins s σ H _ I h) fun us s1 ⟨vs, H1, I1, r1, q1⟩ => ?_) hs rfl))
  obtain ⟨a, xs, ex, hq⟩ := q1
  subst ex
  cases r1 with
  | cons r rr =>
    cases rr
    cases r
    rcases hq with ⟨hq, q⟩ | ⟨hq, q⟩
    · obtain ⟨its, rv, p', hz⟩ := I1.list hq
      refine call_enumerate_list p'.isList fun h' he hit hsz hk => wpAny_pyIter_enum he ?_
      have I2 : Inv X pins σ H1 { s1 with heap := h' } := I1.kept (t' := s1.toks) hk
      refine ⟨s1.heap.objs.size + 1, [s1.heap.objs.size + 1, s1.heap.objs.size], _, _, H1, rfl, I2, turn_enum a (s1.heap.objs.size + 1) s1.heap.objs.size, ⟨⟨.none, he⟩, hit, Nat.succ_ne_self _⟩, fun b hb => ?_, q⟩
      have e' : b = s1.heap.objs.size + 1 ∨ b = s1.heap.objs.size := by simpa using hb
      have hle : s1.heap.objs.size ≤ b := by
        rcases e' with z | z
        · rw [z]; exact Nat.le_add_right _ _
        · rw [z]; exact Nat.le_refl _
      exact I1.fpOk hle (I1.hok.fresh hle)
    · obtain ⟨its, rv, p', hz⟩ := I1.tuple hq
      refine call_enumT (begins_tuple a its.toArray) p' fun h' he hit hsz hk => wpAny_pyIter_enum he ?_
      have I2 : Inv X pins σ H1 { s1 with heap := h' } := I1.kept (t' := s1.toks) hk
      refine ⟨s1.heap.objs.size + 1, [s1.heap.objs.size + 1, s1.heap.objs.size], _, _, H1, rfl, I2, turn_enumT a (s1.heap.objs.size + 1) s1.heap.objs.size, ⟨⟨.none, he⟩, ⟨_, hit, rfl, rfl⟩, Nat.succ_ne_self _⟩, fun b hb => ?_, q⟩
      have e' : b = s1.heap.objs.size + 1 ∨ b = s1.heap.objs.size := by simpa using hb
      have hle : s1.heap.objs.size ≤ b := by
        rcases e' with z | z
        · rw [z]; exact Nat.le_add_right _ _
        · rw [z]; exact Nat.le_refl _
      exact I1.fpOk hle (I1.hok.fresh hle)
end BV

/-! enumerate of a list or a tuple, by value. -/
namespace BV
open PySem PySem.Spec PyProof.Rows L2 Evl

theorem walk_enumT {K : PySem.W.Frag} {a : Addr} {xs : List V} : Walk (ItT K a) xs.length (fun H => SqT K H a xs) (YPair (fun i => some (.int (i : Nat))) (fun i => xs[i]?)) := by
  refine ⟨fun i _ hi q => ⟨xs, xs[i], q, by simp [hi]⟩, fun _ q => ⟨xs, q, Nat.le_refl _⟩, fun i H v H' _ q y => ?_⟩
  obtain ⟨T, x, h1, h2, h3, h4⟩ := y
  exact ⟨T, .int (i : Nat), x, h1, h2, h3, rfl, h4 xs q⟩
section
variable {K : PySem.W.Frag} {C : Hp} {z : Pz}
theorem itd_enumT {a : Addr} {xs : List V} {ds : List D} (h : SqT K C a xs) (dn : Dns K C z.p ds xs) : ItD K z (ItT K a) (enumL ds) C :=
  ⟨_, _, by show Walk _ (ds.mapIdx _).length _ _; rw [List.length_mapIdx, ← dn.len]; exact walk_enumT, fun H' e => ex_t e h, fun i Ha v Hb hi y C1 e o => by
    obtain ⟨T, x, y, rfl, hT, rfl, h1, h2⟩ := y
    obtain ⟨d, h3, h4⟩ := dn.get' h2
    cases h1
    obtain ⟨t, q⟩ := tup_new (d := .int (i : Nat)) o hT (dn_int.mpr rfl) (h4.mono e)
    refine ⟨_, _, ?_, t, q⟩
    unfold enumL
    rw [List.getElem?_mapIdx, h3]
    rfl⟩
end
/-- the items of a list or a tuple -/
def seqD : D → Option (List D)
  | .lst ds => some ds
  | .tup ds => some ds
  | _ => none
def mEnumS (m : MA) : MI := fun env P => m env fun ds => ∃ d items, ds = [d] ∧ seqD d = some items ∧ P (enumL items)
theorem pdi_enumS {X : Cx} {e : Expr} {m : MA} {p pos tpos : Pos} {elts : List Expr} {kk : Nat} (hg : Gl X "enumerate") (hm : X.mg "enumerate" = none) (h : PDA X [e] m) (hs : starEach [e] X.env = [(false, eval e X.env)] := by rfl) :
    PDI X (.Tuple elts kk tpos) (.Call (.Name "enumerate" p) [e] [] pos) (mEnumS m) := by
  refine ⟨pi_imp (pi_enumT hg hm h.run hs) fun σ H R q => ?_, fun env Q Q' i q => h.mono env _ _ (fun d ⟨a, b, c, e, q⟩ => ⟨a, b, c, e, i _ q⟩) q⟩
  obtain ⟨z, C, env, o, r, q⟩ := q
  refine liftA_use h.mono o r q fun ds vs C' H' ⟨d, items, e, he, p⟩ t dn => ?_
  subst e
  obtain ⟨v, e1, e2⟩ := dns1 dn
  cases d with
  | lst ds =>
    cases he
    obtain ⟨a, xs, e3, e4, e5⟩ := dn_lst.mp e2
    rw [e3] at e1
    exact ⟨a, xs, e1, .inl ⟨ex_l t.ok.ex (sq_of e4), p _ C' H' t (itd_enum (sq_of e4) e5)⟩⟩
  | tup ds =>
    cases he
    obtain ⟨a, xs, e3, e4, e5⟩ := dn_tup e2
    rw [e3] at e1
    exact ⟨a, xs, e1, .inr ⟨ex_t t.ok.ex e4, p _ C' H' t (itd_enumT e4 e5)⟩⟩
  | _ => cases he
end BV

/-! tuple(zip(a, b)), list(zip(a, b)), by value. -/
namespace BV
open PySem PySem.Spec PyProof.Rows L2 Evl

/-- many new things are tracked at once -/
theorem Inv.many {X : Cx} {pins : List (Addr × Obj)} {σ : L2.St} {H H' : Hp} {s : Shared} {h' : Heap} {t' : Nat} (I : Inv X pins σ H s) (k : ∀ b u, s.heap.get? b = some u → h'.get? b = some u) (hH : ∀ b u, H b = some u → H' b = some u)
    (new : ∀ b u, H' b = some u → H b = some u ∨ (s.heap.objs.size ≤ b ∧ ObjOk X.prog X.w H' h' b u)) : Inv X pins σ H' { s with heap := h', toks := t' } := by
  refine Inv.un I ⟨fun b o e n _ _ => k b o e, fun b o e n _ _ => ⟨o.slots, k b o e⟩, fun b o e n _ => ?_, fun b o e _ => ⟨o, k b o e⟩, fun b xs e => hH _ _ e, fun b o u e => hH _ _ e, fun b ps e => ⟨#[], by rw [hH _ _ e]; simp⟩⟩ fun b u e => ?_
  · cases q : H' b with
    | none => rfl
    | some u =>
      rcases new b u q with z | ⟨z, _⟩
      · rw [n] at z; cases z
      · exact absurd (Heap.lt_size e) (Nat.not_lt.mpr z)
  · rcases new b u e with z | ⟨_, z⟩
    · exact (I.hok b u z).stay (fun c w _ q => k c w q) (fun c q => hH _ _ q) fun c xs q => hH _ _ q
    · exact z
def addO : List (Addr × HO) → Hp → Hp
  | [], H => H
  | p :: l, H => upd (addO l H) p.1 p.2
theorem addO_out {H : Hp} {b : Addr} : ∀ {l : List (Addr × HO)}, b ∉ l.map (·.1) → addO l H b = H b
  | [], _ => rfl
  | p :: l, h => by
    rw [List.map_cons, List.mem_cons, not_or] at h
    show upd (addO l H) p.1 p.2 b = H b
    rw [upd_ne h.1]
    exact addO_out h.2
theorem addO_in {H : Hp} {b : Addr} {u : HO} : ∀ {l : List (Addr × HO)}, (l.map (·.1)).Nodup → (b, u) ∈ l → addO l H b = some u
  | [], _, h => nomatch h
  | p :: l, nd, h => by
    rw [List.map_cons, List.nodup_cons] at nd
    show upd (addO l H) p.1 p.2 b = some u
    rcases List.mem_cons.mp h with e | h
    · rw [← e]; exact upd_same
    · have : b ≠ p.1 := fun e => nd.1 (by rw [← e]; exact List.mem_map.mpr ⟨_, h, rfl⟩)
      rw [upd_ne this]
      exact addO_in nd.2 h
theorem addO_some {H : Hp} {b : Addr} {u : HO} : ∀ {l : List (Addr × HO)}, addO l H b = some u → H b = some u ∨ (b, u) ∈ l
  | [], h => .inl h
  | p :: l, h => by
    by_cases e : b = p.1
    · subst e
      have : addO (p :: l) H p.1 = some p.2 := upd_same
      rw [this] at h
      cases h
      exact .inr (by simp)
    · have : addO (p :: l) H b = addO l H b := upd_ne e
      rw [this] at h
      rcases addO_some h with h | h
      · exact .inl h
      · exact .inr (by simp [h])
theorem Tr.adds {z : Pz} {C H : Hp} (o : Ok z C H) : ∀ {l : List (Addr × HO)}, (l.map (·.1)).Nodup → (∀ p ∈ l, H p.1 = none) → Tr z C H (addO l C) (addO l H)
  | [], _, _ => Tr.refl o
  | p :: l, nd, h => by
    rw [List.map_cons, List.nodup_cons] at nd
    have t := Tr.adds o nd.2 fun q hq => h q (by simp [hq])
    exact t.trans (Tr.put t.ok (by rw [addO_out nd.1]; exact h p (by simp)))
def pairsD (ds es : List D) : List D := List.zipWith (fun a b => .tup [a, b]) ds es
abbrev pairO (x y : Value) : Obj := { cls := .type "tuple", data := .seq #[x, y] }
def mkL : List Addr → List Value → List Value → List V → List V → List (Addr × HO)
  | a :: as, x :: xs, y :: ys, v :: vs, w :: ws => (a, .frz (pairO x y) (.tup [v, w])) :: mkL as xs ys vs ws
  | _, _, _, _, _ => []
def GotL (h : Heap) : List Addr → List Value → List Value → Prop
  | [], _, _ => True
  | a :: as, x :: xs, y :: ys => h.get? a = some (pairO x y) ∧ GotL h as xs ys
  | _ :: _, _, _ => False
theorem gotL_of {h : Heap} : ∀ {as : List Addr} {xs ys : List Value}, (∀ (j : Nat) (a : Addr), as[j]? = some a → ∃ x1 x2, xs[j]? = some x1 ∧ ys[j]? = some x2 ∧ IsTupOf2 h a x1 x2) → GotL h as xs ys
  | [], _, _, _ => trivial
  | a :: as, [], ys, g => by obtain ⟨_, _, e, _⟩ := g 0 a rfl; cases e
  | a :: as, x :: xs, [], g => by obtain ⟨_, _, _, e, _⟩ := g 0 a rfl; cases e
  | a :: as, x :: xs, y :: ys, g => by
    obtain ⟨x1, x2, e1, e2, q⟩ := g 0 a rfl
    cases e1
    cases e2
    exact ⟨q, gotL_of fun j b e => g (j + 1) b e⟩
theorem mkL_map {h : Heap} : ∀ {as : List Addr} {xs ys : List Value} {vs ws : List V}, GotL h as xs ys → xs.length = vs.length → ys.length = ws.length → (mkL as xs ys vs ws).map (·.1) = as
  | [], xs, ys, vs, ws, _, _, _ => by unfold mkL; rfl
  | a :: as, [], ys, vs, ws, g, _, _ => g.elim
  | a :: as, x :: xs, [], vs, ws, g, _, _ => g.elim
  | a :: as, x :: xs, y :: ys, [], ws, g, e, _ => by cases e
  | a :: as, x :: xs, y :: ys, v :: vs, [], g, _, e => by cases e
  | a :: as, x :: xs, y :: ys, v :: vs, w :: ws, g, e1, e2 => by
    show a :: (mkL as xs ys vs ws).map (·.1) = a :: as
    rw [mkL_map g.2 (by simpa using e1) (by simpa using e2)]
theorem mkL_ok {P : Program} {w0 : World} {H : Hp} {h : Heap} : ∀ {as : List Addr} {xs ys : List Value} {vs ws : List V}, GotL h as xs ys → Vals vs xs → Vals ws ys → ∀ p ∈ mkL as xs ys vs ws, ObjOk P w0 H h p.1 p.2
  | a :: as, x :: xs, y :: ys, v :: vs, w :: ws, g, .cons r1 q1, .cons r2 q2, p, hp => by
    rcases List.mem_cons.mp hp with e | hp
    · subst e
      exact ⟨g.1, by show (2 : Nat) ≤ sizeLine; decide, [x, y], .cons r1 (.cons r2 .nil), _, g.1, rfl, _, rfl⟩
    · exact mkL_ok g.2 q1 q2 p hp
  | [], _, _, _, _, _, _, _, p, hp => by unfold mkL at hp; cases hp
theorem mkL_dn {K : PySem.W.Frag} {C C' : Hp} {pu : Addr} {h : Heap} (ex : Ex C C') : ∀ {as : List Addr} {xs ys : List Value} {vs ws : List V} {ds es : List D}, GotL h as xs ys → Vals vs xs → Vals ws ys → Dns K C pu ds vs → Dns K C pu es ws → as.length = min xs.length ys.length →
    (∀ p ∈ mkL as xs ys vs ws, C' p.1 = some p.2) → Dns K C' pu (pairsD ds es) (as.map V.ref)
  | a :: as, x :: xs, y :: ys, v :: vs, w :: ws, [], es, g, .cons r1 q1, .cons r2 q2, d1, d2, hl, hc => by
    have := dns_nil.mp d1; cases this
  | a :: as, x :: xs, y :: ys, v :: vs, w :: ws, d :: ds, [], g, .cons r1 q1, .cons r2 q2, d1, d2, hl, hc => by
    have := dns_nil.mp d2; cases this
  | a :: as, x :: xs, y :: ys, v :: vs, w :: ws, d :: ds, e :: es, g, .cons r1 q1, .cons r2 q2, d1, d2, hl, hc => by
    obtain ⟨v', r', f1, f2, f3⟩ := dns_cons.mp d1
    obtain ⟨w', s', g1, g2, g3⟩ := dns_cons.mp d2
    cases f1
    cases g1
    refine dns_cons.mpr ⟨_, _, rfl, ?_, mkL_dn ex g.2 q1 q2 f3 g3 (by simp only [List.length_cons] at hl; omega) fun p hp => hc p (by unfold mkL; exact List.mem_cons_of_mem _ hp)⟩
    have h0 := hc (a, .frz (pairO x y) (.tup [v, w])) (by unfold mkL; exact List.mem_cons_self)
    exact dn_tupP.mpr ⟨a, [v, w], rfl, .inl ⟨_, h0, rfl⟩, dns_cons.mpr ⟨v, _, rfl, f2.mono ex, dns_cons.mpr ⟨w, _, rfl, g2.mono ex, dns_nil.mpr rfl⟩⟩⟩
  | [], xs, ys, vs, ws, ds, es, g, q1, q2, d1, d2, hl, hc => by
    have h1 := q1.length
    have h2 := q2.length
    have h3 := d1.len
    have h4 := d2.len
    have : pairsD ds es = [] := by
      unfold pairsD
      apply List.eq_nil_of_length_eq_zero
      rw [List.length_zipWith]
      simp only [List.length_nil] at hl
      omega
    rw [this]
    exact dns_nil.mpr rfl
/-- data that is a list or a tuple is a source -/
theorem src_of {X : Cx} {pins : List (Addr × Obj)} {σ : L2.St} {H C : Hp} {s : Shared} {z : Pz} (I : Inv X pins σ H s) (o : Ok z C H) {d : D} {v : V} {u : Value} {ds : List D} (hd : seqD d = some ds) (dn : Dn X.K C z.p d v) (r : RelV v u) :
    ∃ (l : Addr) (items : List Value) (vs : List V) (ob : Obj) (Hq : Heap → Prop) (St : Addr → Nat → Heap → Prop), u = .ref l ∧ Src X.prog X.w l items.toArray ob Hq St ∧ Hq s.heap ∧ l < s.heap.objs.size ∧ Vals vs items ∧ Dns X.K C z.p ds vs ∧ vs.length ≤ sizeLine := by
  cases d with
  | lst es =>
    cases hd
    obtain ⟨a, xs, rfl, ha, dns⟩ := dn_lst.mp dn
    obtain rfl : u = .ref a := r
    obtain ⟨its, rv, hl, hz⟩ := I.list (sq_of (K := X.K) (o.ex _ _ ha))
    exact ⟨a, its, xs, _, _, _, rfl, src_list a its.toArray, hl.isList, hl.lt, rv, dns, hz⟩
  | tup es =>
    cases hd
    obtain ⟨a, xs, rfl, ha, dns⟩ := dn_tup dn
    obtain rfl : u = .ref a := r
    obtain ⟨its, rv, hl, hz⟩ := I.tuple (ex_t o.ex ha)
    obtain ⟨ob, ho, _⟩ := id hl
    exact ⟨a, its, xs, _, _, _, rfl, src_tuple a its.toArray, hl, Heap.lt_size ho, rv, dns, hz⟩
  | _ => cases hd
section
variable {X : Cx} {e1 e2 : Expr} {m : MA} {p p2 pos pos2 : Pos} {x : Str}
/-- the evaluation of zip(e1, e2), a zip that is handed on -/
theorem eval_zip (hg : Gl X "zip" := by rfl) (hm : X.mg "zip" = none) (ha : PDA X [e1, e2] m) {pins : List (Addr × Obj)} {σ : L2.St} {H : Hp} {s : Shared} {E : Value → Shared → Prop} {Q : Value → Shared → Prop} (I : Inv X pins σ H s) (hE : X.xe = E)
    {z : Pz} {C : Hp} {env : Env} (o : Ok z C H) (r : EnvR X.K z C env σ) {T : List D → List D → Prop} (q : m env fun ds => ∃ d1 d2 xs ys, ds = [d1, d2] ∧ seqD d1 = some xs ∧ seqD d2 = some ys ∧ T xs ys)
    (k : ∀ (s1 s2 : Shared) (C' H' : Hp) (xs ys : List D) (l1 l2 : Addr) (its1 its2 : List Value) (vs ws : List V) (o1 o2 : Obj) (H1 H2 : Heap → Prop) (St1 St2 : Addr → Nat → Heap → Prop), T xs ys → Inv X pins σ H' s1 → Tr z C H C' H' → Src X.prog X.w l1 its1.toArray o1 H1 St1 → Src X.prog X.w l2 its2.toArray o2 H2 St2 →
      l1 < s1.heap.objs.size → l2 < s1.heap.objs.size → Zipped s1.heap.objs.size s1 s2 St1 St2 → (∃ h', s2 = { s1 with heap := h' }) → Vals vs its1 → Vals ws its2 → Dns X.K C' z.p xs vs → Dns X.K C' z.p ys ws → vs.length ≤ sizeLine → Q (.ref (s1.heap.objs.size + 4)) s2)
    (hs : starEach [e1, e2] X.env = (false, eval e1 X.env) :: starEach [e2] X.env := by rfl) (hpl : (backTo pos (starEach [e2] X.env)).any (·.1) = false := by rfl) :
    wpAny (model X.prog X.w) X.A (eval (.Call (.Name "zip" p) [e1, e2] [] pos) X.env) Q E s := by
  subst hE
  refine wpAny_Call_Name_kw (ld_blt I hg hm PyProof.Rows.boot_zip (PyProof.Rows.callWith_type1 (thn (ha.run.run pos pins s σ H (fun vs H' => ∃ C' d1 d2 xs ys, Tr z C H C' H' ∧ Dns X.K C' z.p [d1, d2] vs ∧ seqD d1 = some xs ∧ seqD d2 = some ys ∧ T xs ys) I ⟨z, C, env, o, r, ha.mono _ _ _ (fun ds ⟨d1, d2, xs, ys, e, h1, h2, h3⟩ vs C' H' t dn => ⟨C', d1, d2, xs, ys, t, by rw [← e]; exact dn, h1, h2, h3⟩) q⟩)
    fun us s1 ⟨vs, H1, I1, r1, C', d1, d2, xs, ys, t, dn, h1, h2, h3⟩ => ?_) hs hpl))
  obtain ⟨v, w, rfl, dv, dw⟩ := dns2 dn
  obtain ⟨u1, u2, rfl, q1, q2⟩ := vals2 r1
  obtain ⟨l1, its1, vs, o1, K1, St1, rfl, S1, k1, lt1, rv1, dn1, z1⟩ := src_of I1 t.ok h1 dv q1
  obtain ⟨l2, its2, ws, o2, K2, St2, rfl, S2, k2, lt2, rv2, dn2, z2⟩ := src_of I1 t.ok h2 dw q2
  exact call_zipS S1 S2 k1 k2 fun h' Z => k s1 _ C' H1 xs ys l1 l2 its1 its2 vs ws o1 o2 K1 K2 St1 St2 h3 I1 t S1 S2 lt1 lt2 Z ⟨h', rfl⟩ rv1 rv2 dn1 dn2 z1
end
end BV

/-! tuple(zip(a, b)), list(zip(a, b)) as expressions. -/
namespace BV
open PySem PySem.Spec PyProof.Rows L2 Evl

def mTupZip (m : MA) : ME := fun env Q => m env fun ds => ∃ d1 d2 xs ys, ds = [d1, d2] ∧ seqD d1 = some xs ∧ seqD d2 = some ys ∧ Q (.tup (pairsD xs ys))
def moLstZip (m : MA) : MA := fun env Q => m env fun ds => ∃ d1 d2 xs ys, ds = [d1, d2] ∧ seqD d1 = some xs ∧ seqD d2 = some ys ∧ Q (pairsD xs ys)
theorem vals_refs : ∀ as : List Addr, Vals (as.map V.ref) (as.map Value.ref)
  | [] => .nil
  | a :: as => .cons (show RelV (.ref a) (.ref a) from rfl) (vals_refs as)
theorem nodup_rise {as : List Addr} (h : as.Pairwise (· < ·)) : as.Nodup := h.imp fun e q => absurd e (by rw [q]; exact Nat.lt_irrefl _)
section
variable {X : Cx} {e1 e2 : Expr} {m : MA} {p p0 p2 pos pos2 : Pos} {x : Str}
theorem pd_tupZip (hc : X.calm = true) (hm0 : X.mg x = none) (hv : bootBuiltins x = some (.type "tuple")) (hm : X.mg "zip" = none) (ha : PDA X [e1, e2] m) (hg0 : Gl X x := by rfl) (hg : Gl X "zip" := by rfl) (hn : x ≠ "__name__" := by decide) (hdb : (x == ("__debug__" : Str)) = false := by decide)
    (hs : starEach [e1, e2] X.env = (false, eval e1 X.env) :: starEach [e2] X.env := by rfl) (hpl : (backTo pos2 (starEach [e2] X.env)).any (·.1) = false := by rfl)
    (he : starEach [.Call (.Name "zip" p) [e1, e2] [] pos2] X.env = (false, eval (.Call (.Name "zip" p) [e1, e2] [] pos2) X.env) :: starEach [] X.env := by rfl) (hpl0 : (backTo pos (starEach [] X.env)).any (·.1) = false := by rfl) :
    PD X (.Call (.Name x p0) [.Call (.Name "zip" p) [e1, e2] [] pos2] [] pos) (mTupZip m) := by
  refine ⟨⟨fun pins s σ H Q I q => ?_⟩, fun env Q Q' i q => ha.mono env _ _ (fun ds ⟨d1, d2, xs, ys, e, h1, h2, h3⟩ => ⟨d1, d2, xs, ys, e, h1, h2, i _ h3⟩) q⟩
  obtain ⟨z, C, env, o, r, q⟩ := q
  refine wpAny_Call_Name_kw (ld_blt I hg0 hm0 hv ?_ hn hdb)
  refine PyProof.Rows.callWith_type1 ?_ he hpl0
  rw [he]
  show wpAny _ _ (spliced ((false, eval (.Call (.Name "zip" p) [e1, e2] [] pos2) X.env) :: backTo pos (starEach [] X.env))) _ _ s
  refine Calls.spliced_cons (eval_zip hg hm ha I rfl o r q (fun s1 s2 C' H' xs ys l1 l2 its1 its2 vs ws o1 o2 H1 H2 St1 St2 hT I1 t S1 S2 k1 k2 Z hs2 rv1 rv2 dn1 dn2 hz => ?_) hs hpl)
  refine Calls.spliced_nil ?_
  obtain ⟨h2, rfl⟩ := hs2
  have hh : X.A.handled = none := I1.ok.hd hc
  have e1' := rv1.length
  have hmin : min its1.toArray.size its2.toArray.size ≤ sizeLine := Nat.le_trans (Nat.min_le_left _ _) (by rw [List.size_toArray, ← e1']; exact hz)
  have Z2 : Zipped s1.heap.objs.size { s1 with heap := h2 } { s1 with heap := h2 } St1 St2 := ⟨Z.z, Z.TI, Z.TO, Z.s1, Z.s2, Z.size, fun _ _ e => e⟩
  refine tuple_of_zip S1 S2 hh k1 k2 hmin Z2 fun h' tk as a1 a2 a3 a4 => ?_
  have keep : ∀ b u, s1.heap.get? b = some u → h'.get? b = some u := fun b u e => a1 b u (Heap.lt_size e) (Z.old b u e)
  have far : ∀ a ∈ as, s1.heap.objs.size ≤ a := fun a ha => Nat.le_trans (Nat.le_add_right _ 6) (a3.low a ha)
  have gl : GotL h' as its1 its2 := gotL_of fun j a e => by
    obtain ⟨x1, x2, g1, g2, g3⟩ := a3.at_ j a e
    exact ⟨x1, x2, by simpa using g1, by simpa using g2, g3⟩
  have e2' := rv2.length
  have lm : (mkL as its1 its2 vs ws).map (·.1) = as := mkL_map gl e1'.symm e2'.symm
  have nd : ((mkL as its1 its2 vs ws).map (·.1)).Nodup := by rw [lm]; exact nodup_rise a3.rise
  have fresh : ∀ b, s1.heap.objs.size ≤ b → H' b = none := fun b hb => I1.hok.fresh hb
  have hl : ∀ p ∈ mkL as its1 its2 vs ws, s1.heap.objs.size ≤ p.1 := fun p hp => far _ (by rw [← lm]; exact List.mem_map.mpr ⟨p, hp, rfl⟩)
  have tA := Tr.adds t.ok nd fun p hp => fresh _ (hl p hp)
  have hRz : s1.heap.objs.size ≤ h'.objs.size := Nat.le_trans (Nat.le_add_right _ 5) (Nat.le_of_lt a4)
  generalize hR : h'.objs.size = R at hRz
  have nR : R ∉ (mkL as its1 its2 vs ws).map (·.1) := by
    rw [lm]
    intro hm
    have := a3.there hm
    rw [hR] at this
    exact Nat.lt_irrefl _ this
  have hRn : addO (mkL as its1 its2 vs ws) H' R = none := by rw [addO_out nR]; exact fresh R hRz
  have alen : as.length = min its1.length its2.length := by simpa using a2
  have hlen : (as.map V.ref).length ≤ sizeLine := by rw [List.length_map, alen]; simpa using hmin
  have dns := mkL_dn (K := X.K) (pu := z.p) tA.cc gl rv1 rv2 dn1 dn2 alen fun p hp => addO_in nd hp
  have top : (h'.push { cls := .type "tuple", data := .seq (as.map Value.ref).toArray }).get? R = some { cls := .type "tuple", data := .seq (as.map Value.ref).toArray } := by rw [← hR]; exact Heap.get?_push_size _ rfl
  refine ⟨.ref R, upd (addO (mkL as its1 its2 vs ws) H') R (.frz { cls := .type "tuple", data := .seq (as.map Value.ref).toArray } (.tup (as.map V.ref))), ?_, rfl, ?_⟩
  · refine Inv.many (s := s1) (h' := h'.push { cls := .type "tuple", data := .seq (as.map Value.ref).toArray }) (t' := tk) I1 (fun b u e => Heap.get?_push_of_some _ (keep b u e)) (fun b u e => ?_) fun b u e => ?_
    · have hb : b < s1.heap.objs.size := I1.hok.lt e
      rw [upd_ne (Nat.ne_of_lt (Nat.lt_of_lt_of_le hb hRz)), addO_out fun hm => by
        obtain ⟨p, hp, rfl⟩ := List.mem_map.mp hm
        exact absurd (hl p hp) (Nat.not_le.mpr hb)]
      exact e
    · by_cases hb : b = R
      · subst hb
        rw [upd_same] at e
        cases e
        exact .inr ⟨hRz, top, hlen, as.map Value.ref, vals_refs as, _, top, rfl, _, rfl⟩
      · rw [upd_ne hb] at e
        rcases addO_some e with e | e
        · exact .inl e
        · refine .inr ⟨hl _ e, ?_⟩
          have gl2 : GotL (h'.push { cls := .type "tuple", data := .seq (as.map Value.ref).toArray }) as its1 its2 := gotL_of fun j a e => by
            obtain ⟨x1, x2, g1, g2, g3⟩ := a3.at_ j a e
            exact ⟨x1, x2, by simpa using g1, by simpa using g2, Heap.get?_push_of_some _ g3⟩
          exact mkL_ok gl2 rv1 rv2 _ e
  · exact hT (.ref R) _ _ (t.trans (tA.trans (Tr.put tA.ok hRn))) (dn_new_tup dns (fresh_back tA.ok.ex hRn) rfl)
theorem pdo_lstZip (hc : X.calm = true) (hm0 : X.mg x = none) (hv : bootBuiltins x = some (.type "list")) (hm : X.mg "zip" = none) (ha : PDA X [e1, e2] m) (hg0 : Gl X x := by rfl) (hg : Gl X "zip" := by rfl) (hn : x ≠ "__name__" := by decide) (hdb : (x == ("__debug__" : Str)) = false := by decide)
    (hs : starEach [e1, e2] X.env = (false, eval e1 X.env) :: starEach [e2] X.env := by rfl) (hpl : (backTo pos2 (starEach [e2] X.env)).any (·.1) = false := by rfl)
    (he : starEach [.Call (.Name "zip" p) [e1, e2] [] pos2] X.env = (false, eval (.Call (.Name "zip" p) [e1, e2] [] pos2) X.env) :: starEach [] X.env := by rfl) (hpl0 : (backTo pos (starEach [] X.env)).any (·.1) = false := by rfl) :
    PDO X (.Call (.Name x p0) [.Call (.Name "zip" p) [e1, e2] [] pos2] [] pos) (moLstZip m) := by
  refine ⟨⟨fun pins s σ H Q I q => ?_⟩, fun env Q Q' i q => ha.mono env _ _ (fun ds ⟨d1, d2, xs, ys, e, h1, h2, h3⟩ => ⟨d1, d2, xs, ys, e, h1, h2, i _ h3⟩) q⟩
  obtain ⟨z, C, env, o, r, q⟩ := q
  refine wpAny_Call_Name_kw (ld_blt I hg0 hm0 hv ?_ hn hdb)
  refine PyProof.Rows.callWith_type1 ?_ he hpl0
  rw [he]
  show wpAny _ _ (spliced ((false, eval (.Call (.Name "zip" p) [e1, e2] [] pos2) X.env) :: backTo pos (starEach [] X.env))) _ _ s
  refine Calls.spliced_cons (eval_zip hg hm ha I rfl o r q (fun s1 s2 C' H' xs ys l1 l2 its1 its2 vs ws o1 o2 H1 H2 St1 St2 hT I1 t S1 S2 k1 k2 Z hs2 rv1 rv2 dn1 dn2 hz => ?_) hs hpl)
  refine Calls.spliced_nil ?_
  obtain ⟨h2, rfl⟩ := hs2
  have hh : X.A.handled = none := I1.ok.hd hc
  have e1' := rv1.length
  have hmin : min its1.toArray.size its2.toArray.size ≤ sizeLine := Nat.le_trans (Nat.min_le_left _ _) (by rw [List.size_toArray, ← e1']; exact hz)
  have Z2 : Zipped s1.heap.objs.size { s1 with heap := h2 } { s1 with heap := h2 } St1 St2 := ⟨Z.z, Z.TI, Z.TO, Z.s1, Z.s2, Z.size, fun _ _ e => e⟩
  refine list_of_zip S1 S2 hh k1 k2 hmin Z2 fun h' tk acc c as a1 aL a2 a3 aa => ?_
  have keep : ∀ b u, s1.heap.get? b = some u → h'.get? b = some u := fun b u e => a1 b u (Heap.lt_size e) (Z.old b u e)
  have far : ∀ a ∈ as, s1.heap.objs.size ≤ a := fun a ha => Nat.le_trans (Nat.le_add_right _ 6) (a3.low a ha)
  have gl : GotL h' as its1 its2 := gotL_of fun j a e => by
    obtain ⟨x1, x2, g1, g2, g3⟩ := a3.at_ j a e
    exact ⟨x1, x2, by simpa using g1, by simpa using g2, g3⟩
  have e2' := rv2.length
  have lm : (mkL as its1 its2 vs ws).map (·.1) = as := mkL_map gl e1'.symm e2'.symm
  have nd : ((mkL as its1 its2 vs ws).map (·.1)).Nodup := by rw [lm]; exact nodup_rise a3.rise
  have fresh : ∀ b, s1.heap.objs.size ≤ b → H' b = none := fun b hb => I1.hok.fresh hb
  have hl : ∀ p ∈ mkL as its1 its2 vs ws, s1.heap.objs.size ≤ p.1 := fun p hp => far _ (by rw [← lm]; exact List.mem_map.mpr ⟨p, hp, rfl⟩)
  have tA := Tr.adds t.ok nd fun p hp => fresh _ (hl p hp)
  have hRz : s1.heap.objs.size ≤ s1.heap.objs.size + 5 := Nat.le_add_right _ 5
  have nR : s1.heap.objs.size + 5 ∉ (mkL as its1 its2 vs ws).map (·.1) := by
    rw [lm]
    intro hm
    exact Nat.not_succ_le_self _ (a3.low _ hm)
  generalize s1.heap.objs.size + 5 = R at hRz nR aL ⊢
  have hRn : H' R = none := fresh R hRz
  have hCn : C' R = none := fresh_back t.ok.ex hRn
  have alen : as.length = min its1.length its2.length := by simpa using a2
  have hlen : (as.map V.ref).length ≤ sizeLine := by rw [List.length_map, alen]; simpa using hmin
  have dns := mkL_dn (K := X.K) (pu := z.p) tA.cc gl rv1 rv2 dn1 dn2 alen fun p hp => addO_in nd hp
  have accR : h'.get? R = some { cls := .type "list", data := .seq (as.map Value.ref).toArray c } := by
    have e : acc = (as.map Value.ref).toArray := by apply Array.toList_inj.mp; rw [aa]
    rw [← e]; exact aL
  refine ⟨.ref R, upd (addO (mkL as its1 its2 vs ws) H') R (.lst (as.map V.ref)), ?_, rfl, ?_⟩
  · refine Inv.many (s := s1) (h' := h') (t' := tk) I1 keep (fun b u e => ?_) fun b u e => ?_
    · have hb : b < s1.heap.objs.size := I1.hok.lt e
      rw [upd_ne (Nat.ne_of_lt (Nat.lt_of_lt_of_le hb hRz)), addO_out fun hm => by
        obtain ⟨p, hp, rfl⟩ := List.mem_map.mp hm
        exact absurd (hl p hp) (Nat.not_le.mpr hb)]
      exact e
    · by_cases hb : b = R
      · subst hb
        rw [upd_same] at e
        cases e
        exact .inr ⟨hRz, hlen, as.map Value.ref, c, vals_refs as, accR⟩
      · rw [upd_ne hb] at e
        rcases addO_some e with e | e
        · exact .inl e
        · exact .inr ⟨hl _ e, mkL_ok gl rv1 rv2 _ e⟩
  · have hCa : addO (mkL as its1 its2 vs ws) C' R = none := by rw [addO_out nR]; exact hCn
    exact hT R _ _ _ (t.trans (Tr.mut t.ok tA hRn hCa)) (t.free hRn) hCa upd_same dns
end
end BV

/-! [e for x in xs for y in ys if t], by value. -/
namespace BV
open PySem PySem.Spec PyProof.Rows L2 Evl

def lcGo2 (t : Tgt) (mi1 : MI) (vs1 : List Nat) (t1 : Tgt) (mt1 : MT) (me : ME) (env : Env) : List D → List D → (List D → Prop) → Prop
  | [], acc, Q => Q acc
  | x :: xs, acc, Q => ∃ env1, t.put idD x env = some env1 ∧ mi1 env1 fun items => szOk (acc.length + items.length + 1) = true ∧ lcGo t1 mt1 me (wipeE env1 vs1) items acc fun acc' => lcGo2 t mi1 vs1 t1 mt1 me env xs acc' Q
def moLc2 (vs : List Nat) (mi : MI) (t : Tgt) (mi1 : MI) (vs1 : List Nat) (t1 : Tgt) (mt1 : MT) (me : ME) : MA := fun env Q => mi env fun items => lcGo2 t mi1 vs1 t1 mt1 me (wipeE env vs) items [] Q
theorem lcGo2_mono {t t1 : Tgt} {mi1 : MI} {vs1 : List Nat} {mt1 : MT} {me : ME} (h0 : MonoA mi1) (h1 : MonoT mt1) (h2 : Mono me) {env : Env} {Q Q' : List D → Prop} (i : ∀ ds, Q ds → Q' ds) : ∀ (xs acc : List D), lcGo2 t mi1 vs1 t1 mt1 me env xs acc Q → lcGo2 t mi1 vs1 t1 mt1 me env xs acc Q'
  | [], acc, h => i _ h
  | x :: xs, acc, ⟨env1, e, h⟩ => ⟨env1, e, h0 _ _ _ (fun items ⟨a, h⟩ => ⟨a, lcGo_mono h1 h2 (fun acc' h => lcGo2_mono h0 h1 h2 i xs acc' h) items acc h⟩) h⟩
section
variable {X : Cx} {elt tg iter tg1 iter1 : Expr} {ifs1 : List Expr} {scope : Scope} {own : List (Str × Nat)} {pos : Pos} {mi mi1 : MI} {t t1 : Tgt} {mt1 : MT} {me : ME} {vs1 : List Nat}
theorem lc2_data {K : PySem.W.Frag} {z : Pz} {C H : Hp} {env : Env} {σ : L2.St} {J : It} {items : List D} {vs : List Nat} {P : List D → Prop} {Q : VK} (o : Ok z C H) (r : EnvR K z C env σ) (it : ItD K z J items C) (h0 : MonoA mi1) (h1 : MonoT mt1) (h2 : Mono me) (ht : ∀ i ∈ t.sl, i ∈ vs) (ht1 : ∀ i ∈ t1.sl, i ∈ vs1)
    (q : lcGo2 t mi1 vs1 t1 mt1 me (wipeE env vs) items [] P) (k : ∀ ds xs a C' H', P ds → Tr z C H C' H' → H a = none → C' a = none → H' a = some (.lst xs) → Dns K C' z.p ds xs → Q (.ref a) H') :
    ∀ N, H N = none → ∃ W : Nat → Nat → Hp → Prop, (∃ m, W 0 m (upd H N (.lst []))) ∧ ∀ i m H, W i m H →
      (J.stop i H ∧ Q (.ref N) H) ∨ (J.go i H ∧ ∃ Nx : Hp → Prop, (∀ H', Nx H' → ∃ m', m' < m ∧ W (i + 1) m' H') ∧ ∀ x H', J.yld i H x H' → t.g K x (L2.wipe σ vs) H' fun σ2 H2 => L2.wipe σ2 vs = L2.wipe σ vs ∧ liftT K mYes σ2 H2 fun b H3 =>
        if b = true then liftI K mi1 σ2 H3 fun J1 H4 => ∃ W1 : Nat → Nat → Hp → Prop, (∃ m, W1 0 m H4) ∧ ∀ j k H, W1 j k H →
          (J1.stop j H ∧ Nx H) ∨ (J1.go j H ∧ ∃ Nx1 : Hp → Prop, (∀ H', Nx1 H' → ∃ k', k' < k ∧ W1 (j + 1) k' H') ∧ ∀ x H', J1.yld j H x H' → t1.g K x (L2.wipe σ2 vs1) H' fun σ3 H5 => L2.wipe σ3 vs1 = L2.wipe σ2 vs1 ∧ liftT K mt1 σ3 H5 fun b H6 =>
            if b = true then lift K me σ3 H6 fun y H7 => ∃ acc, H7 N = some (.lst acc) ∧ acc.length < sizeLine ∧ Nx1 (upd H7 N (.lst (acc ++ [y]))) else Nx1 H6)
        else Nx H3) := by
  intro N hN
  obtain ⟨G, Y, w, hG, hY⟩ := it.ex
  have hCN : C N = none := fresh_back o.ex hN
  have nNp : N ≠ z.p := fun e => o.pur.pn (by rw [← e]; exact hN)
  have nNg : N ≠ z.g := fun e => o.pur.gn (by rw [← e]; exact hN)
  let Pv : Nat → Hp → Prop := fun i Hc => ∃ C' acc xs, Tr z C H C' Hc ∧ C' N = none ∧ Hc N = some (.lst xs) ∧ Dns K C' z.p acc xs ∧ lcGo2 t mi1 vs1 t1 mt1 me (wipeE env vs) (items.drop i) acc P
  refine ⟨fun i m Hc => m = items.length - i ∧ i ≤ items.length ∧ Pv i Hc, ⟨items.length, by simp, Nat.zero_le _, C, [], [], Tr.ext o (Ex.new hN), hCN, upd_same, dns_nil.mpr rfl, q⟩, ?_⟩
  rintro i m Hc ⟨rfl, hi, C', acc, xs, t0, c1, c2, c3, q'⟩
  have hg := hG Hc (t0.cc.trans t0.ok.ex)
  by_cases hlt : i < items.length
  · refine .inr ⟨w.goes i Hc hlt hg, Pv (i + 1), fun H' p' => ⟨items.length - (i + 1), by omega, rfl, hlt, p'⟩, fun x Hd y => ?_⟩
    obtain ⟨d, C2, g1, g2, g3⟩ := hY i Hc x Hd hlt (w.yields i Hc x Hd hlt hg y) C' t0.cc t0.ok
    have hd : items.drop i = d :: items.drop (i + 1) := by
      rw [List.drop_eq_getElem_cons hlt]
      congr 1
      rw [List.getElem?_eq_getElem hlt] at g1
      exact Option.some.inj g1
    rw [hd] at q'
    obtain ⟨env1, e1, q1⟩ := q'
    have t2 := t0.trans g2
    have hnn : Hc N ≠ none := by rw [c2]; exact fun q => nomatch q
    refine EnvR.put ((r.mono t2.cc).wipe vs) g2.ok.ex ht g3 e1 fun σ2 s2 w2 => ⟨w2, z, C2, env1, g2.ok, s2, fun C3 H3 t3 => ?_⟩
    dsimp only
    rw [if_pos rfl]
    have t23 := g2.trans t3
    have hN3 : H3 N = some (.lst xs) := t23.keep N _ c2 nNp nNg
    have hC3 : C3 N = none := (t23.new N hnn).trans c1
    refine ⟨z, C3, env1, t3.ok, s2.mono t3.cc, h0 _ _ _ (fun its ⟨hz, q2⟩ J1 C4 H4 t4 it1 => ?_) q1⟩
    obtain ⟨G1, Y1, w1, hG1, hY1⟩ := it1.ex
    have t34 := t23.trans t4
    have hN4 : H4 N = some (.lst xs) := t34.keep N _ c2 nNp nNg
    have hC4 : C4 N = none := (t34.new N hnn).trans c1
    have r4 : EnvR K z C4 env1 σ2 := s2.mono (t3.cc.trans t4.cc)
    have hz' : acc.length + its.length + 1 ≤ 4000000 := by simpa [szOk] using hz
    refine ⟨fun j k Hc => k = its.length - j ∧ j ≤ its.length ∧ ∃ C' acc' xs', Tr z C H C' Hc ∧ Ex C4 C' ∧ C' N = none ∧ Hc N = some (.lst xs') ∧ Dns K C' z.p acc' xs' ∧ acc'.length ≤ acc.length + j ∧ lcGo t1 mt1 me (wipeE env1 vs1) (its.drop j) acc' fun acc' => lcGo2 t mi1 vs1 t1 mt1 me (wipeE env vs) (items.drop (i + 1)) acc' P,
      ⟨its.length, by simp, Nat.zero_le _, C4, acc, xs, t0.trans t34, Ex.refl _, hC4, hN4, c3.mono t34.cc, Nat.le_refl _, q2⟩, ?_⟩
    rintro j k Hj ⟨rfl, hj, C5, acc5, xs5, t5, e5, c51, c52, c53, c54, q5⟩
    have hg1 := hG1 Hj (e5.trans t5.ok.ex)
    by_cases hlt1 : j < its.length
    · refine .inr ⟨w1.goes j Hj hlt1 hg1, fun Hc => ∃ C' acc' xs', Tr z C H C' Hc ∧ Ex C4 C' ∧ C' N = none ∧ Hc N = some (.lst xs') ∧ Dns K C' z.p acc' xs' ∧ acc'.length ≤ acc.length + (j + 1) ∧ lcGo t1 mt1 me (wipeE env1 vs1) (its.drop (j + 1)) acc' fun acc' => lcGo2 t mi1 vs1 t1 mt1 me (wipeE env vs) (items.drop (i + 1)) acc' P,
        fun H' p' => ⟨its.length - (j + 1), by omega, rfl, hlt1, p'⟩, fun x1 Hk y1 => ?_⟩
      obtain ⟨d1, C6, k1, k2, k3⟩ := hY1 j Hj x1 Hk hlt1 (w1.yields j Hj x1 Hk hlt1 hg1 y1) C5 e5 t5.ok
      have hd1 : its.drop j = d1 :: its.drop (j + 1) := by
        rw [List.drop_eq_getElem_cons hlt1]
        congr 1
        rw [List.getElem?_eq_getElem hlt1] at k1
        exact Option.some.inj k1
      rw [hd1] at q5
      obtain ⟨env2, f1, q6⟩ := q5
      have nn5 : Hj N ≠ none := by rw [c52]; exact fun q => nomatch q
      refine EnvR.put ((r4.mono (e5.trans k2.cc)).wipe vs1) k2.ok.ex ht1 k3 f1 fun σ3 s3 w3 => ⟨w3, z, C6, env2, k2.ok, s3, h1 _ _ _ (fun b q7 C7 H7 t7 => ?_) q6⟩
      have t57 := k2.trans t7
      have hN7 : H7 N = some (.lst xs5) := t57.keep N _ c52 nNp nNg
      have hC7 : C7 N = none := (t57.new N nn5).trans c51
      cases b with
      | false => exact ⟨C7, acc5, xs5, t5.trans t57, e5.trans t57.cc, hC7, hN7, c53.mono t57.cc, Nat.le_succ_of_le c54, q7⟩
      | true =>
        show lift K me σ3 H7 _
        refine ⟨z, C7, env2, t7.ok, s3.mono t7.cc, h2 _ _ _ (fun d2 q8 v C8 H8 t8 dn8 => ?_) q7⟩
        have t58 := t57.trans t8
        have hN8 : H8 N = some (.lst xs5) := t58.keep N _ c52 nNp nNg
        have hC8 : C8 N = none := (t58.new N nn5).trans c51
        have hl := c53.len
        refine ⟨xs5, hN8, ?_, C8, acc5 ++ [d2], xs5 ++ [v], Tr.mut o (t5.trans t58) hN hC8, e5.trans t58.cc, hC8, upd_same, (c53.mono t58.cc).app (Dns.one dn8), by simp; omega, q8⟩
        refine sz_lt ?_
        simp only [szOk, decide_eq_true_eq]
        omega
    · have e : j = its.length := by omega
      subst e
      rw [List.drop_of_length_le (Nat.le_refl _)] at q5
      exact .inl ⟨w1.stops Hj hg1, C5, acc5, xs5, t5, c51, c52, c53, q5⟩
  · have e : i = items.length := by omega
    subst e
    rw [List.drop_of_length_le (Nat.le_refl _)] at q'
    exact .inl ⟨w.stops Hc hg, k acc xs N C' Hc q' t0 hN c1 c2 c3⟩
theorem pdo_lc2 (hc : X.calm = true) (hN : X.N.Nodup) (hi : PDI X tg iter mi) (ok : BlkOk X.N X.env.scope scope own) (ht : ∀ i ∈ t.sl, i ∈ own.map (·.2)) (ht1 : ∀ i ∈ t1.sl, i ∈ vs1) (hv : ∀ i ∈ vs1, i ∈ own.map (·.2))
    (hg : ∀ (s : Shared) (H : Hp) (C : Addr) (cl : List (Str × Addr)) (fp : List Addr), PG (X.blk s H scope (compEnvC scope cl C X.env) fp) tg (t.g X.K))
    (hi1 : ∀ (s : Shared) (H : Hp) (C : Addr) (cl : List (Str × Addr)) (fp : List Addr), PDI (X.blk s H scope (compEnvC scope cl C X.env) fp) tg1 iter1 mi1)
    (hg1 : ∀ (s : Shared) (H : Hp) (C : Addr) (cl : List (Str × Addr)) (fp : List Addr), PG (X.blk s H scope (compEnvC scope cl C X.env) fp) tg1 (t1.g X.K)) (hts : ∀ (s : Shared) (H : Hp) (C : Addr) (cl : List (Str × Addr)) (fp : List Addr), PDTs (X.blk s H scope (compEnvC scope cl C X.env) fp) ifs1 mt1)
    (he : ∀ (s : Shared) (H : Hp) (C : Addr) (cl : List (Str × Addr)) (fp : List Addr), PD (X.blk s H scope (compEnvC scope cl C X.env) fp) elt me) (hs : ∀ x, foldedSetIterable iter X.env x = pure x := by intro _; rfl) (hs1 : ∀ env x, foldedSetIterable iter1 env x = pure x := by intro _ _; rfl) :
    PDO X (.ListComp elt [⟨tg, iter, [], 0⟩, ⟨tg1, iter1, ifs1, 0⟩] scope pos) (moLc2 (own.map (·.2)) mi t mi1 vs1 t1 mt1 me) := by
  have h0 := (hi1 X.s_0 X.H_0 0 [] []).mono
  have h1 := (hts X.s_0 X.H_0 0 [] []).mono
  have h2 := (he X.s_0 X.H_0 0 [] []).mono
  refine ⟨pe_imp (pe_lc2 (tt := liftT X.K mYes) (tt1 := liftT X.K mt1) (te := lift X.K me) (wi1 := liftI X.K mi1) hc hN hi.run ok hv hg (fun s H C cl fp => pdts_nil.run) (fun s H C cl fp => (hi1 s H C cl fp).run) hg1 (fun s H C cl fp => (hts s H C cl fp).run) (fun s H C cl fp => (he s H C cl fp).run) hs hs1) fun σ H Q q => ?_,
    fun env Q Q' i q => hi.mono _ _ _ (fun items q => lcGo2_mono h0 h1 h2 i _ _ q) q⟩
  obtain ⟨z, C, env, o, r, q⟩ := q
  refine ⟨z, C, env, o, r, hi.mono _ _ _ (fun items q J C' H' t0 it => ?_) q⟩
  exact lc2_data t0.ok (r.mono t0.cc) it h0 h1 h2 ht ht1 q fun ds xs a C2 H2 p t2 g1 g2 g3 g4 => p a xs C2 H2 (t0.trans t2) (t0.free g1) g2 g3 g4
end
end BV

/-! Dicts whose keys are nested tuples: storing a key. -/
namespace BV
open PySem PySem.Spec PyProof.Rows L2 Evl

mutual
/-- data as a key -/
def nk : D → NestedKey
  | .int i => .num i
  | .str x => .text x
  | .tup ds => .tup (nks ds)
  | .non => .none
  | .bl _ => .none
  | .lst _ => .none
  | .pur => .none
  | .pr _ => .none
  | .dic _ _ => .none
def nks : List D → List NestedKey
  | [] => []
  | d :: ds => nk d :: nks ds
end
mutual
/-- numbers, words, tuples of such -/
def okN : D → Bool
  | .int _ => true
  | .str _ => true
  | .tup ds => okNs ds
  | .non => false
  | .bl _ => false
  | .lst _ => false
  | .pur => false
  | .pr _ => false
  | .dic _ _ => false
def okNs : List D → Bool
  | [] => true
  | d :: ds => okN d && okNs ds
end
mutual
theorem nest_of {h : Heap} : ∀ (d : D) (u : Value) (as : List Addr), okN d = true → Reads h u d.py as → NestedIs h (nk d) u
  | .int i, u, as, o, r => by simp only [D.py] at r; cases r; exact .int _ _
  | .str x, u, as, o, r => by simp only [D.py] at r; cases r; exact .text _ _
  | .tup ds, u, as, o, r => by
    simp only [D.py] at r
    cases r with
    | tuple h1 h2 h3 h4 => exact .tup h1 h2 h3 (nests_of ds _ _ (by simpa [okN] using o) h4)
  | .non, u, as, o, r => by cases o
  | .bl _, u, as, o, r => by cases o
  | .lst _, u, as, o, r => by cases o
  | .pur, u, as, o, r => by cases o
  | .pr _, u, as, o, r => by cases o
  | .dic _ _, u, as, o, r => by cases o
theorem nests_of {h : Heap} : ∀ (ds : List D) (us : List Value) (as : List Addr), okNs ds = true → ReadsAll h us (D.pys ds) as → NestedAll h (nks ds) us
  | [], us, as, o, r => by simp only [D.pys] at r; cases r; exact .nil
  | d :: ds, us, as, o, r => by
    simp only [D.pys] at r
    have o' : okN d = true ∧ okNs ds = true := by simpa [okNs] using o
    cases r with
    | cons h1 h2 => exact .cons (nest_of d _ _ o'.1 h1) (nests_of ds _ _ o'.2 h2)
end
mutual
theorem nk_inj : ∀ (d e : D), okN d = true → okN e = true → nk d = nk e → d = e
  | .int i, e, o, q, h => by
    cases e with
    | int j => simp only [nk, NestedKey.num.injEq] at h; rw [h]
    | str y => simp [nk] at h
    | tup es => simp [nk] at h
    | _ => cases q
  | .str x, e, o, q, h => by
    cases e with
    | int j => simp [nk] at h
    | str y => simp only [nk, NestedKey.text.injEq] at h; rw [h]
    | tup es => simp [nk] at h
    | _ => cases q
  | .tup ds, e, o, q, h => by
    cases e with
    | int j => simp [nk] at h
    | str y => simp [nk] at h
    | tup es =>
      simp only [nk, NestedKey.tup.injEq] at h
      rw [nks_inj ds es (by simpa [okN] using o) (by simpa [okN] using q) h]
    | _ => cases q
  | .non, e, o, q, h => by cases o
  | .bl _, e, o, q, h => by cases o
  | .lst _, e, o, q, h => by cases o
  | .pur, e, o, q, h => by cases o
  | .pr _, e, o, q, h => by cases o
  | .dic _ _, e, o, q, h => by cases o
theorem nks_inj : ∀ (ds es : List D), okNs ds = true → okNs es = true → nks ds = nks es → ds = es
  | [], [], _, _, _ => rfl
  | [], e :: es, _, _, h => by simp [nks] at h
  | d :: ds, [], _, _, h => by simp [nks] at h
  | d :: ds, e :: es, o, q, h => by
    simp only [nks, List.cons.injEq] at h
    have o' : okN d = true ∧ okNs ds = true := by simpa [okNs] using o
    have q' : okN e = true ∧ okNs es = true := by simpa [okNs] using q
    rw [nk_inj d e o'.1 q'.1 h.1, nks_inj ds es o'.2 q'.2 h.2]
end
/-- such a tuple may be a key -/
def okKeyN (d : D) : Bool := okN d && okEq d && decide ((nk d).depth ≤ 8) && (match d with | .tup _ => true | _ => false)
theorem okKeyN_of {d : D} (h : okKeyN d = true) : okN d = true ∧ okEq d = true ∧ (nk d).depth ≤ 8 ∧ ∃ ds, d = .tup ds := by
  simp only [okKeyN, Bool.and_eq_true, decide_eq_true_eq] at h
  refine ⟨h.1.1.1, h.1.1.2, h.1.2, ?_⟩
  cases d with
  | tup ds => exact ⟨ds, rfl⟩
  | _ => exact absurd h.2 (by simp)
abbrev Ent := NestedKey × Addr × Value
/-- at D a dict with these entries -/
def DictN (P : Program) (w : World) (h : Heap) (D : Addr) (xs : List Ent) : Prop :=
  (D == sysModules) = false ∧ xs.length ≤ sizeLine ∧ (xs.map (·.1)).Nodup ∧ ∃ o es ep, h.get? D = some o ∧ o.ExactDict ∧ o.data = .dict es ep ∧ es.toList = xs.map (entryOfKey (nestedKind P w))
def dN (P : Program) (w : World) (D : Addr) (xs : List Ent) : HO := .ext fun h => DictN P w h D xs
theorem dN_ok {P : Program} {w : World} {H : Hp} {h : Heap} {D : Addr} {xs : List Ent} (q : DictN P w h D xs) : ObjOk P w H h D (dN P w D xs) := by
  have ⟨_, _, _, o, es, ep, e, _⟩ := q
  exact ⟨q, ⟨_, e⟩, fun h1 h2 ⟨a, b, c, o, es, ep, e, r⟩ k => ⟨a, b, c, o, es, ep, k _ e, r⟩⟩
/-- what stands at a is the data that makes this key -/
def KeyAt (K : PySem.W.Frag) (H : Hp) (k : NestedKey) (a : Addr) : Prop := ∃ d, okKeyN d = true ∧ nk d = k ∧ Dp K H (.ref a) d.py
theorem KeyAt.is {X : Cx} {pins : List (Addr × Obj)} {σ : L2.St} {H : Hp} {s : Shared} {k : NestedKey} {a : Addr} (I : Inv X pins σ H s) (h : KeyAt X.K H k a) : (nestedKind X.prog X.w).is s.heap k a := by
  obtain ⟨d, h1, rfl, h3⟩ := h
  obtain ⟨o1, o2, o3, _⟩ := okKeyN_of h1
  obtain ⟨as, r⟩ := Dp.reads I _ _ (.ref a) h3 (show RelV (.ref a) (.ref a) from rfl)
  exact ⟨nest_of d _ _ o1 r, o3⟩
theorem storedH_len (xs : List Ent) (k : NestedKey) (a : Addr) (v : Value) : (storedH xs k a v).length ≤ xs.length + 1 := by
  unfold storedH
  split
  · rw [List.length_map]; omega
  · rw [List.length_append]; exact Nat.le_refl _
theorem set_key {X : Cx} {pins : List (Addr × Obj)} {σ : L2.St} {H : Hp} {s : Shared} {E : Value → Shared → Prop} {D a : Addr} {xs : List Ent} {k : NestedKey} {v : Value} {Q : Unit → Shared → Prop} (hu : X.A.units + 8 < cLine) (I : Inv X pins σ H s) (hD : H D = some (dN X.prog X.w D xs)) (room : xs.length < sizeLine)
    (hk : KeyAt X.K H k a) (hks : ∀ x ∈ xs, KeyAt X.K H x.1 x.2.1) (h : ∀ s', Inv X pins σ (upd H D (dN X.prog X.w D (storedH xs k a v))) s' → Q () s') : wpAny (model X.prog X.w) X.A (dictSet D (.ref a) v) Q E s := by
  obtain ⟨g1, g2, g3, o, es, ep, e, hc, hd, he⟩ := (I.hok D _ hD).1
  refine wpAny_dictSet_heap (knd := nestedKind X.prog X.w) (k := k) hu (hk.is I) ⟨o, es, ep, e, hc, hd, he, fun x hx => (hks x hx).is I, g3⟩ (fun h' m hs => h _ ?_) g2
  obtain ⟨o', es', ep', e', hc', hd', he', _, hn'⟩ := m
  exact I.write (e := D) (t' := _) (by rw [hD]; trivial) (.inl rfl) (fun b u hb q => (hs.2 b hb).trans q) ⟨_, e'⟩ (dN_ok ⟨g1, Nat.le_trans (storedH_len xs k a v) room, hn', o', es', ep', e', hc', hd', he'⟩)
theorem empty_dN {P : Program} {w : World} {h : Heap} {D : Addr} (hD : (D == sysModules) = false) (e : h.get? D = some { cls := .type "dict", data := .dict #[] }) : DictN P w h D [] :=
  ⟨hD, Nat.zero_le _, List.nodup_nil, _, #[], 0, e, ⟨rfl, rfl, rfl⟩, rfl, rfl⟩
end BV

/-! {key: a truth value for x in xs if t}, the keys nested tuples; list of such a dict. -/
namespace BV
open PySem PySem.Spec PyProof.Rows L2 Evl

section
variable {X : Cx}
/-- D the new dict -/
def tDn (P : Program) (w : World) (K : PySem.W.Frag) (wi : TI) (g : TG) (tt : TT) (tk tv : TE) (vs : List Nat) : TE := fun σ H Q => wi σ H fun J H1 => ∀ D, H1 D = none → ∃ W : Nat → Nat → Hp → Prop, (∃ m, W 0 m (upd H1 D (dN P w D []))) ∧ ∀ i m H, W i m H →
  (J.stop i H ∧ Q (.ref D) H) ∨ (J.go i H ∧ ∃ Nx : Hp → Prop, (∀ H', Nx H' → ∃ m', m' < m ∧ W (i + 1) m' H') ∧ ∀ x H', J.yld i H x H' → g x (L2.wipe σ vs) H' fun σ2 H2 => L2.wipe σ2 vs = L2.wipe σ vs ∧ tt σ2 H2 fun b H3 =>
    if b = true then tk σ2 H3 fun y H4 => tv σ2 H4 fun v H5 => ∃ (k : NestedKey) (a : Addr) (c : Bool) (xs : List Ent), y = .ref a ∧ v = .bl c ∧ H5 D = some (dN P w D xs) ∧ xs.length < sizeLine ∧ KeyAt K H5 k a ∧ (∀ x ∈ xs, KeyAt K H5 x.1 x.2.1) ∧ Nx (upd H5 D (dN P w D (storedH xs k a (.bool c)))) else Nx H3)
theorem pe_dn {kx vx tg iter : Expr} {ifs : List Expr} {scope : Scope} {own : List (Str × Nat)} {pos : Pos} {wi : TI} {g : TG} {tt : TT} {tk tv : TE} (hu : X.A.units + 8 < cLine) (calm : X.calm = true) (nodup : X.N.Nodup) (over : PI X tg iter wi) (blk : BlkOk X.N X.env.scope scope own)
    (tgt : ∀ (s : Shared) (H : Hp) (C : Addr) (cl : List (Str × Addr)) (fp : List Addr), PG (X.blk s H scope (compEnvC scope cl C X.env) fp) tg g) (tst : ∀ (s : Shared) (H : Hp) (C : Addr) (cl : List (Str × Addr)) (fp : List Addr), PTs (X.blk s H scope (compEnvC scope cl C X.env) fp) ifs tt)
    (key : ∀ (s : Shared) (H : Hp) (C : Addr) (cl : List (Str × Addr)) (fp : List Addr), PE (X.blk s H scope (compEnvC scope cl C X.env) fp) kx tk) (val : ∀ (s : Shared) (H : Hp) (C : Addr) (cl : List (Str × Addr)) (fp : List Addr), PE (X.blk s H scope (compEnvC scope cl C X.env) fp) vx tv)
    (plain : ∀ x, foldedSetIterable iter X.env x = pure x := by intro _; rfl) :
    PE X (.DictComp kx vx [⟨tg, iter, ifs, 0⟩] scope pos) (tDn X.prog X.w X.K wi g tt tk tv (own.map (·.2))) := by
  refine ⟨fun pins s0 σ H0 Q I0 start => ?_⟩
  rw [arm_eval_DictComp]
  have captured : ∀ y ∈ scope.names, y.2 = .free → ∃ c, X.env.cells.lookup y.1 = some c := fun y hy e => (blk.free y hy e).elim (fun k => I0.ok.has _ (.inl k)) fun k => I0.ok.has _ (.inr k)
  refine wpAny_comprehension_free (use := none) rfl plain (closure_ok captured) blk.kind (fun y hy e => by rw [blk.uniq y hy, e])
    (thn (over.run pins s0 σ H0 _ I0 start) fun xv s1 got => thn got fun itv s2 got2 => ?_)
  obtain ⟨it, fp, tn, J, H2, e, I2, T, at0, away, q⟩ := got2
  subst e
  refine wpAny_newObj_type (newEnv_comp ?_)
  -- the new dict at D
  generalize atD' : s2.heap.objs.size = D
  obtain ⟨W, ⟨m0, w0⟩, turn⟩ := q D (I2.hok.fresh (Nat.le_of_eq atD'))
  generalize made : ({ s2 with heap := s2.heap.push { cls := .type "dict", data := .dict #[] } } : Shared) = s3
  have heap3 : s3.heap = s2.heap.push { cls := .type "dict", data := .dict #[] } := by rw [← made]
  have I3 : Inv X pins σ (upd H2 D (dN X.prog X.w D [])) s3 := by
    rw [← made]
    refine I2.laid (t' := s2.toks) (fun b o z => Heap.get?_push_of_some _ z) (Nat.le_of_eq atD') (dN_ok (empty_dN ?_ ?_))
    · rw [← atD']
      exact beq_eq_false_iff_ne.mpr (Ne.symm (Nat.ne_of_lt I2.big))
    · rw [← atD']
      exact Heap.get?_push_size _ rfl
  have small : ∀ b ∈ fp, b < s2.heap.objs.size := fun b hb => let ⟨_, z, _⟩ := T.obj _ _ at0 b hb; Heap.lt_size z
  have away3 : ∀ b ∈ fp, FpOk X pins (upd H2 D (dN X.prog X.w D [])) b ∧ b < s3.heap.objs.size := fun b hb => by
    have lt := small b hb
    refine ⟨⟨?_, (away b hb).2⟩, by rw [heap3, Heap.size_push]; exact Nat.lt_succ_of_lt lt⟩
    rw [upd_ne (by rw [← atD']; exact Nat.ne_of_lt lt)]
    exact (away b hb).1
  have at3 : tn 0 s3.heap := T.keep _ _ _ at0 fun b _ o z => by rw [heap3]; exact Heap.get?_push_of_some _ z
  have I4 := block_start I3 blk nodup away3
  generalize cells : cellsFrom (s3.heap.objs.size + 1) scope.names (cloFrom X.env.cells scope.names []) = cl at I4 ⊢
  have tg' := tgt s3 (upd H2 D (dN X.prog X.w D [])) s3.heap.objs.size cl fp
  have ts' := tst s3 (upd H2 D (dN X.prog X.w D [])) s3.heap.objs.size cl fp
  have ke' := key s3 (upd H2 D (dN X.prog X.w D [])) s3.heap.objs.size cl fp
  have va' := val s3 (upd H2 D (dN X.prog X.w D [])) s3.heap.objs.size cl fp
  show codeAny _ _ (.compStart (.DictComp kx vx [⟨tg, iter, ifs, 0⟩] scope pos) 0 (.ref it) (.ref D) (compEnvC scope cl s3.heap.objs.size X.env)) (compPost (model X.prog X.w) X.A X.xe none (EP X pins σ Q) (.ref D) s3.heap.objs.size) { s3 with heap := pushCells (s3.heap.push { cls := .type "dict", data := .dict #[] }) scope.names }
  have none3 : ∀ b ∈ fp, (upd H2 D (dN X.prog X.w D [])) b = none := fun b hb => (away3 b hb).1.1
  generalize inner : compEnvC scope cl s3.heap.objs.size X.env = ce at I4 tg' ts' ke' va' ⊢
  have itsLoc : ce.locals = s3.heap.objs.size := by subst inner; rfl
  generalize upd H2 D (dN X.prog X.w D []) = H3 at I3 I4 tg' ts' ke' va' w0 none3 away3
  generalize opened : ({ s3 with heap := pushCells (s3.heap.push { cls := .type "dict", data := .dict #[] }) scope.names } : Shared) = s4 at I4 ⊢
  have at4 : tn 0 s4.heap := T.keep _ _ _ at3 fun b _ o z => by rw [← opened]; exact pushCells_keeps _ _ _ _ (Heap.get?_push_of_some _ z)
  have frames : ∀ {σ' : L2.St} {H' : Hp} {s' : Shared}, Inv (X.blk s3 H3 scope ce fp) [] σ' H' s' → (∀ b ∈ fp, H' b = none) → ∀ b ∈ fp, FpOk (X.blk s3 H3 scope ce fp) [] H' b := fun {σ' H' s'} J' hn b hb =>
    ⟨hn b hb, (J'.ok.exf b hb).1, J'.ok.exfs b hb, .inl hb, fun x c z => (J'.ok.exf b hb).2 x c z, fun p hp => absurd (show p ∈ ([] : List (Addr × Obj)) ++ [] from hp) (by simp)⟩
  have loop : codeAny (model X.prog X.w) X.A (.compLoop (.DictComp kx vx [⟨tg, iter, ifs, 0⟩] scope pos) 0 (.ref it) (.ref D) ce) (compPost (model X.prog X.w) X.A X.xe none (EP X pins σ Q) (.ref D) s3.heap.objs.size) s4 := by
    refine compLoop_anyD (fun n s' => ∃ i H', Inv (X.blk s3 H3 scope ce fp) [] (L2.wipe σ (own.map (·.2))) H' s' ∧ tn i s'.heap ∧ (∀ b ∈ fp, H' b = none) ∧ W i n H') (fun n s5 ⟨i, H5, I5, at5, none5, w5⟩ => ?_) m0 ⟨0, H3, I4, at4, none3, w0⟩
    rcases turn i n H5 w5 with ⟨stop, result⟩ | ⟨go, Nx, less, step⟩
    · -- the end: back in the def
      refine thnF (T.done (X.blk s3 H3 scope ce fp) rfl rfl rfl calm i [] s5 _ H5 (fun _ _ => False) I5 (frames I5 none5) at5 stop) fun r s6 ⟨hr, I6⟩ => ?_
      subst hr
      have back : Inv X pins σ H5 s6 := I3.call' (ch := fp) I6.os I6.base I6.hok I6.bare fun b hb => ⟨(away3 b hb).1.2.2.2.1, (away3 b hb).1.2.1, (away3 b hb).1.2.2.2.2.1, (away3 b hb).1.2.2.2.2.2⟩
      have noLoc : H5 s3.heap.objs.size = none := itsLoc ▸ I6.free
      obtain ⟨m, names, _⟩ := I6.loc
      have names : s6.heap.Ns s3.heap.objs.size m := itsLoc ▸ (show s6.heap.Ns ce.locals m from names)
      obtain ⟨f0, f1, f2, f3, f4, f5⟩ := I3.fpOk (Nat.le_refl _) noLoc
      exact ⟨m, names, fun h'' sb => ⟨.ref D, H5, back.turned (t' := s6.toks) (fun b o hb z => (sb.2 b hb).trans z) f0 f1 f3 f4 f5, rfl, result⟩⟩
    · refine thnF (T.item (X.blk s3 H3 scope ce fp) rfl rfl rfl calm i [] s5 _ H5 (fun _ _ => False) I5 (frames I5 none5) at5 go) fun r s6 ⟨u, hr, got6⟩ => ?_
      subst hr
      refine thnF got6 fun _ s7 ⟨x, H7, I7, r7, y7, at7, none7⟩ => ?_
      refine thnF (tg'.run _ s7 _ H7 x u _ (I7.pinned (frames I7 none7) (T.obj _ _ at7)) r7 (step x H7 y7)) fun _ s8 ⟨σ8, H8, I8, same8, q8⟩ => thnF (ts'.run _ s8 σ8 H8 _ I8 q8) fun b s9 ⟨H9, I9, q9⟩ => ?_
      have turned : ∀ {s' : Shared} {H' : Hp}, Inv (X.blk s3 H3 scope ce fp) ([] ++ pinsAt fp s7.heap) σ8 H' s' → Nx H' → ∃ m, m < n ∧ ∃ i H', Inv (X.blk s3 H3 scope ce fp) [] (L2.wipe σ (own.map (·.2))) H' s' ∧ tn i s'.heap ∧ (∀ b ∈ fp, H' b = none) ∧ W i m H' := fun {s' H'} J' nx => by
        obtain ⟨m', lt, w'⟩ := less H' nx
        have pinned : ∀ b ∈ fp, ∀ o, s7.heap.get? b = some o → s'.heap.get? b = some o ∧ H' b = none := fun b hb o z =>
          let k := J'.pin (b, o) (List.mem_append_right _ (List.mem_append_right _ (mem_pinsAt hb z)))
          ⟨k.1, k.2.1⟩
        refine ⟨m', lt, i + 1, H', (J'.unpinned (pins := [])).weak (by rw [← same8, wipe_length]) (fun j v z => (wipe_some (same8 ▸ z)).1), T.keep _ _ _ at7 fun b hb o z => (pinned b hb o z).1, fun b hb => ?_, w'⟩
        obtain ⟨o, z, _⟩ := T.obj _ _ at7 b hb
        exact (pinned b hb o z).2
      cases b with
      | false =>
        simp only [Bool.false_eq_true, if_false] at q9 ⊢
        exact turned I9 q9
      | true =>
        simp only [if_true] at q9 ⊢
        refine thnF (ke'.run _ s9 σ8 H9 _ I9 q9) fun z s10 ⟨yk, H10, I10, r10, q10⟩ => ?_
        refine thnF (va'.run _ s10 σ8 H10 _ I10 q10) fun z2 s11 ⟨yv, H11, I11, r11, k, a, c, xs, ek, ev, hD11, room, hk, hks, nx⟩ => ?_
        subst ek
        subst ev
        obtain rfl : z = Value.ref a := r10
        obtain rfl : z2 = Value.bool c := r11
        exact set_key (X := X.blk s3 H3 scope ce fp) hu I11 hD11 room hk hks fun s12 I12 => turned I12 nx
  exact codeAny_compStart_dict loop (T.self X.A 0 _ _ _ at4 loop)
/-- list(such a dict) -/
def rListN (P : Program) (w : World) : List V → Hp → VK → Prop := fun vs H Q => ∃ (D : Addr) (xs : List Ent), vs = [V.ref D] ∧ H D = some (dN P w D xs) ∧ ∀ p, H p = none → Q (.ref p) (upd H p (.lst (xs.map fun x => V.ref x.2.1)))
theorem cr_listN (hc : X.calm = true) : CallR X (.type "list") (rListN X.prog X.w) := by
  intro pins s σ H vs us Q I r h
  obtain ⟨D, xs, rfl, hD, q⟩ := h
  rw [Vals.ref1 r]
  obtain ⟨g1, g2, g3, o, es, ep, e, hcl, hd, he⟩ := (I.hok D _ hD).1
  have hsz : es.size = xs.length := by rw [← Array.length_toList, he, List.length_map]
  refine PySem.W.kdl_call (PySem.KdlSrc.rawDict (es := es) (ep := ep) g1) (I.ok.hd hc) (show s.heap.DictRaw D es ep from ⟨o, e, hcl, hd⟩) (by rw [hsz]; exact g2) fun h' tk acc c k hL hacc => ?_
  have fresh : H s.heap.objs.size = none := I.hok.fresh (Nat.le_refl _)
  have items : acc.toList = xs.map fun x => Value.ref x.2.1 := by
    apply List.ext_getElem?
    intro i
    by_cases hi : i < xs.length
    · have hia : i < acc.size := by rw [hacc.1, hsz]; exact hi
      obtain ⟨hie, ev⟩ := hacc.2 i acc[i] (by simp [hia])
      rw [Array.getElem?_toList, Array.getElem?_eq_getElem hia, ev, List.getElem?_map, List.getElem?_eq_getElem hi]
      have : es.toList[i]? = (xs.map (entryOfKey (nestedKind X.prog X.w)))[i]? := by rw [he]
      rw [Array.getElem?_toList, Array.getElem?_eq_getElem hie, List.getElem?_map, List.getElem?_eq_getElem hi] at this
      have := Option.some.inj this
      rw [this]
      rfl
    · rw [List.getElem?_eq_none (by rw [Array.length_toList, hacc.1, hsz]; omega), List.getElem?_eq_none (by rw [List.length_map]; omega)]
  have hv : ∀ l : List Ent, Vals (l.map fun x => V.ref x.2.1) (l.map fun x => Value.ref x.2.1) := fun l => by
    induction l with
    | nil => exact .nil
    | cons x l ih => exact .cons (show RelV (.ref _) (.ref _) from rfl) ih
  refine ⟨.ref s.heap.objs.size, upd H s.heap.objs.size (.lst (xs.map fun x => V.ref x.2.1)), I.laid (t' := tk) k (Nat.le_refl _) ⟨by rw [List.length_map]; exact g2, xs.map fun x => Value.ref x.2.1, c, hv xs, ?_⟩, rfl, q _ fresh⟩
  rw [hL]
  have : acc = (xs.map fun x => Value.ref x.2.1).toArray := by apply Array.toList_inj.mp; rw [items]
  rw [this]
end
end BV

/-! list({key: True for x in xs}), by value: each key once, in the order of coming. -/
namespace BV
open PySem PySem.Spec PyProof.Rows L2 Evl

def addU (acc : List D) (y : D) : List D := if nk y ∈ acc.map nk then acc else acc ++ [y]
def uqGo (t : Tgt) (mk : ME) (env : Env) : List D → List D → (List D → Prop) → Prop
  | [], acc, Q => Q acc
  | x :: xs, acc, Q => ∃ env1, t.put idD x env = some env1 ∧ mk env1 fun y => okKeyN y = true ∧ uqGo t mk env xs (addU acc y) Q
def moUniq (vs : List Nat) (mi : MI) (t : Tgt) (mk : ME) : MA := fun env Q => mi env fun items => szOk (items.length + 1) = true ∧ uqGo t mk (wipeE env vs) items [] Q
theorem uqGo_mono {t : Tgt} {mk : ME} (h : Mono mk) {env : Env} {Q Q' : List D → Prop} (i : ∀ ds, Q ds → Q' ds) : ∀ (xs acc : List D), uqGo t mk env xs acc Q → uqGo t mk env xs acc Q'
  | [], acc, q => i _ q
  | x :: xs, acc, ⟨env1, e, q⟩ => ⟨env1, e, h _ _ _ (fun y ⟨a, q⟩ => ⟨a, uqGo_mono h i xs _ q⟩) q⟩
theorem atKey_iff {xs : List Ent} {k : NestedKey} : (atKey xs k).isSome = true ↔ k ∈ xs.map (·.1) := by
  unfold atKey
  rw [Option.isSome_map, List.find?_isSome]
  constructor
  · rintro ⟨x, h1, h2⟩
    exact List.mem_map.mpr ⟨x, h1, of_decide_eq_true h2⟩
  · intro h
    obtain ⟨x, h1, h2⟩ := List.mem_map.mp h
    exact ⟨x, h1, decide_eq_true h2⟩
theorem stored_old {xs : List Ent} {k : NestedKey} {a : Addr} {v : Value} (h : k ∈ xs.map (·.1)) : (storedH xs k a v).map (·.1) = xs.map (·.1) ∧ ((storedH xs k a v).map fun x => V.ref x.2.1) = xs.map fun x => V.ref x.2.1 := by
  unfold storedH
  rw [if_pos (atKey_iff.mpr h)]
  refine ⟨?_, ?_⟩
  · rw [List.map_map]
    apply List.map_congr_left
    intro x _
    show (putAt k v x).1 = x.1
    unfold putAt
    split <;> rfl
  · rw [List.map_map]
    apply List.map_congr_left
    intro x _
    show V.ref (putAt k v x).2.1 = V.ref x.2.1
    unfold putAt
    split <;> rfl
theorem stored_new {xs : List Ent} {k : NestedKey} {a : Addr} {v : Value} (h : k ∉ xs.map (·.1)) : storedH xs k a v = xs ++ [(k, a, v)] := by
  unfold storedH
  rw [if_neg (fun q => h (atKey_iff.mp q))]
section
variable {X : Cx} {kx tg iter : Expr} {scope : Scope} {own : List (Str × Nat)} {pos : Pos} {mi : MI} {t : Tgt} {mk : ME}
theorem uq_data {P0 : Program} {w0 : World} {K : PySem.W.Frag} {z : Pz} {C H : Hp} {env : Env} {σ : L2.St} {J : It} {items : List D} {vs : List Nat} {P : List D → Prop} {Q : VK} (o : Ok z C H) (r : EnvR K z C env σ) (it : ItD K z J items C) (h2 : Mono mk) (ht : ∀ i ∈ t.sl, i ∈ vs)
    (hz : szOk (items.length + 1) = true) (q : uqGo t mk (wipeE env vs) items [] P)
    (k : ∀ ds xs N C' H', P ds → Tr z C H C' H' → H' N = some (dN P0 w0 N xs) → Dns K C' z.p ds (xs.map fun x => V.ref x.2.1) → Q (.ref N) H') :
    ∀ N, H N = none → ∃ W : Nat → Nat → Hp → Prop, (∃ m, W 0 m (upd H N (dN P0 w0 N []))) ∧ ∀ i m H, W i m H →
      (J.stop i H ∧ Q (.ref N) H) ∨ (J.go i H ∧ ∃ Nx : Hp → Prop, (∀ H', Nx H' → ∃ m', m' < m ∧ W (i + 1) m' H') ∧ ∀ x H', J.yld i H x H' → t.g K x (L2.wipe σ vs) H' fun σ2 H2 => L2.wipe σ2 vs = L2.wipe σ vs ∧ liftT K mYes σ2 H2 fun b H3 =>
        if b = true then lift K mk σ2 H3 fun y H4 => lift K (mC (.bl true)) σ2 H4 fun v H5 => ∃ (k : NestedKey) (a : Addr) (c : Bool) (xs : List Ent), y = .ref a ∧ v = .bl c ∧ H5 N = some (dN P0 w0 N xs) ∧ xs.length < sizeLine ∧ KeyAt K H5 k a ∧ (∀ x ∈ xs, KeyAt K H5 x.1 x.2.1) ∧ Nx (upd H5 N (dN P0 w0 N (storedH xs k a (.bool c)))) else Nx H3) := by
  intro N hN
  obtain ⟨G, Y, w, hG, hY⟩ := it.ex
  have hCN : C N = none := fresh_back o.ex hN
  have nNp : N ≠ z.p := fun e => o.pur.pn (by rw [← e]; exact hN)
  have nNg : N ≠ z.g := fun e => o.pur.gn (by rw [← e]; exact hN)
  let Pv : Nat → Hp → Prop := fun i Hc => ∃ C' acc xs, Tr z C H C' Hc ∧ C' N = none ∧ Hc N = some (dN P0 w0 N xs) ∧ xs.map (·.1) = acc.map nk ∧ Dns K C' z.p acc (xs.map fun x => V.ref x.2.1) ∧ (∀ d ∈ acc, okKeyN d = true) ∧ acc.length ≤ i ∧ uqGo t mk (wipeE env vs) (items.drop i) acc P
  refine ⟨fun i m Hc => m = items.length - i ∧ i ≤ items.length ∧ Pv i Hc, ⟨items.length, by simp, Nat.zero_le _, C, [], [], Tr.mut o (Tr.refl o) hN hCN, hCN, upd_same, rfl, dns_nil.mpr rfl, fun _ h => (nomatch h), Nat.le_refl _, q⟩, ?_⟩
  rintro i m Hc ⟨rfl, hi, C', acc, xs, t0, c1, c2, c3, c4, c5, c6, q'⟩
  have hg := hG Hc (t0.cc.trans t0.ok.ex)
  by_cases hlt : i < items.length
  · refine .inr ⟨w.goes i Hc hlt hg, Pv (i + 1), fun H' p' => ⟨items.length - (i + 1), by omega, rfl, hlt, p'⟩, fun x Hd y => ?_⟩
    obtain ⟨d, C2, g1, g2, g3⟩ := hY i Hc x Hd hlt (w.yields i Hc x Hd hlt hg y) C' t0.cc t0.ok
    have hd : items.drop i = d :: items.drop (i + 1) := by
      rw [List.drop_eq_getElem_cons hlt]
      congr 1
      rw [List.getElem?_eq_getElem hlt] at g1
      exact Option.some.inj g1
    rw [hd] at q'
    obtain ⟨env1, e1, q1⟩ := q'
    have t2 := t0.trans g2
    have hnn : Hc N ≠ none := by rw [c2]; exact fun q => nomatch q
    refine EnvR.put ((r.mono t2.cc).wipe vs) g2.ok.ex ht g3 e1 fun σ2 s2 w2 => ⟨w2, z, C2, env1, g2.ok, s2, fun C3 H3 t3 => ?_⟩
    dsimp only
    rw [if_pos rfl]
    refine ⟨z, C3, env1, t3.ok, s2.mono t3.cc, h2 _ _ _ (fun d2 ⟨okd, q3⟩ v C4 H4 t4 dn4 => ?_) q1⟩
    refine ⟨z, C4, env1, t4.ok, s2.mono (t3.cc.trans t4.cc), fun v5 C5 H5 t5 dn5 => ?_⟩
    obtain rfl := dn_bl.mp dn5
    have t25 := g2.trans (t3.trans (t4.trans t5))
    have hN5 : H5 N = some (dN P0 w0 N xs) := t25.keep N _ c2 nNp nNg
    have hC5 : C5 N = none := (t25.new N hnn).trans c1
    obtain ⟨o1, o2, o3, ds2, rfl⟩ := okKeyN_of okd
    have dnk := dn4.mono t5.cc
    obtain ⟨a, xs2, rfl, _, _⟩ := dn_tup dnk
    have c4' := c4.mono t25.cc
    have hl := c4.len
    rw [List.length_map] at hl
    have keyA : ∀ (d : D) (a : Addr), okKeyN d = true → Dn K C5 z.p d (.ref a) → KeyAt K H5 (nk d) a := fun d a h1 h2 => ⟨d, h1, rfl, h2.dp t5.ok.ex d _ (okEq_of (okKeyN_of h1).2.1).1⟩
    have keys : ∀ x ∈ xs, KeyAt K H5 x.1 x.2.1 := fun x hx => by
      obtain ⟨j, hj⟩ := List.mem_iff_getElem?.mp hx
      have h1 : (xs.map fun x => V.ref x.2.1)[j]? = some (V.ref x.2.1) := by rw [List.getElem?_map, hj]; rfl
      obtain ⟨dj, h3, h4⟩ := c4'.get' h1
      have h5 : (xs.map (·.1))[j]? = some x.1 := by rw [List.getElem?_map, hj]; rfl
      rw [c3, List.getElem?_map, h3] at h5
      have h6 : nk dj = x.1 := Option.some.inj h5
      rw [← h6]
      exact keyA dj _ (c5 dj (List.mem_of_getElem? h3)) h4
    have room : xs.length < sizeLine := by
      rw [hl]
      refine sz_lt ?_
      simp only [szOk, decide_eq_true_eq] at hz ⊢
      omega
    refine ⟨nk (.tup ds2), a, true, xs, rfl, rfl, hN5, room, keyA _ a okd dnk, keys, C5, addU acc (.tup ds2), storedH xs (nk (.tup ds2)) a (.bool true), Tr.mut o (t0.trans t25) hN hC5, hC5, upd_same, ?_, ?_, ?_, ?_, q3⟩
    · by_cases hk : nk (.tup ds2) ∈ acc.map nk
      · rw [(stored_old (by rw [c3]; exact hk)).1, c3, addU, if_pos hk]
      · rw [stored_new (by rw [c3]; exact hk), addU, if_neg hk, List.map_append, List.map_append, c3]
        rfl
    · by_cases hk : nk (.tup ds2) ∈ acc.map nk
      · rw [(stored_old (by rw [c3]; exact hk)).2, addU, if_pos hk]
        exact c4'
      · rw [stored_new (by rw [c3]; exact hk), addU, if_neg hk, List.map_append]
        exact c4'.app (Dns.one dnk)
    · intro e he
      unfold addU at he
      split at he
      · exact c5 e he
      · rcases List.mem_append.mp he with he | he
        · exact c5 e he
        · rw [List.mem_singleton.mp he]; exact okd
    · unfold addU
      split
      · omega
      · rw [List.length_append, List.length_singleton]; omega
  · have e : i = items.length := by omega
    subst e
    rw [List.drop_of_length_le (Nat.le_refl _)] at q'
    exact .inl ⟨w.stops Hc hg, k acc xs N C' Hc q' t0 c2 c4⟩
theorem pdo_uniq {x : Str} {p : Pos} {j : Nat} {bpos cpos : Pos} (hu : X.A.units + 64 < cLine) (hc : X.calm = true) (hN : X.N.Nodup) (hm : X.mg x = none) (hv : bootBuiltins x = some (.type "list")) (hi : PDI X tg iter mi) (ok : BlkOk X.N X.env.scope scope own) (ht : ∀ i ∈ t.sl, i ∈ own.map (·.2))
    (hg : ∀ (s : Shared) (H : Hp) (C : Addr) (cl : List (Str × Addr)) (fp : List Addr), PG (X.blk s H scope (compEnvC scope cl C X.env) fp) tg (t.g X.K))
    (he : ∀ (s : Shared) (H : Hp) (C : Addr) (cl : List (Str × Addr)) (fp : List Addr), PD (X.blk s H scope (compEnvC scope cl C X.env) fp) kx mk) (hgl : Gl X x := by rfl) (hn : x ≠ "__name__" := by decide) (hdb : (x == ("__debug__" : Str)) = false := by decide) (hs : ∀ x, foldedSetIterable iter X.env x = pure x := by intro _; rfl)
    (hst : starEach [.DictComp kx (.Constant (.bool true) j bpos) [⟨tg, iter, [], 0⟩] scope cpos] X.env = (false, eval (.DictComp kx (.Constant (.bool true) j bpos) [⟨tg, iter, [], 0⟩] scope cpos) X.env) :: starEach [] X.env := by rfl) (hpl : (backTo pos (starEach [] X.env)).any (·.1) = false := by rfl) :
    PDO X (.Call (.Name x p) [.DictComp kx (.Constant (.bool true) j bpos) [⟨tg, iter, [], 0⟩] scope cpos] [] pos) (moUniq (own.map (·.2)) mi t mk) := by
  have h2 := (he X.s_0 X.H_0 0 [] []).mono
  refine ⟨pe_imp (pe_callTy (cr_listN hc) hgl hm hv (pa_cons (pe_dn (tt := liftT X.K mYes) (tk := lift X.K mk) (tv := lift X.K (mC (.bl true))) (by omega) hc hN hi.run ok hg (fun s H C cl fp => pdts_nil.run) (fun s H C cl fp => (he s H C cl fp).run) (fun s H C cl fp => pd_bl.run) hs) pa_nil hst) hn hdb hst hpl) fun σ H Q q => ?_,
    fun env Q Q' i q => hi.mono _ _ _ (fun items ⟨a, q⟩ => ⟨a, uqGo_mono h2 i _ _ q⟩) q⟩
  obtain ⟨z, C, env, o, r, q⟩ := q
  refine ⟨z, C, env, o, r, hi.mono _ _ _ (fun items ⟨hz, q⟩ J C' H' t0 it => ?_) q⟩
  exact uq_data (P0 := X.prog) (w0 := X.w) (Q := fun x H1 => tNil σ H1 fun xs H2 => rListN X.prog X.w (x :: xs) H2 Q) t0.ok (r.mono t0.cc) it h2 ht hz q fun ds xs N C2 H2 p t2 g1 g2 => ⟨N, xs, rfl, g1, fun p' hp => p p' _ C2 _ ((t0.trans t2).trans (Tr.ext t2.ok (Ex.new hp))) ((t0.trans t2).free hp) (fresh_back t2.ok.ex hp) upd_same g2⟩
end
end BV

/-! set(a list of words). -/
namespace BV
open PySem PySem.Spec PyProof.Rows

def addW (l : List Str) (x : Str) : List Str := if x ∈ l then l else x :: l
def wordsOf (xs : List Str) : List Str := xs.foldl addW []
section
variable {P : Program} {w : World} {A : Around} {E : Value → Shared → Prop} {s : Shared} {a : Addr} {l : List Str}
theorem addW_len (l : List Str) (x : Str) : (addW l x).length ≤ l.length + 1 := by
  unfold addW
  split
  · omega
  · exact Nat.le_refl _
theorem set_word {x : Str} {tk : Tok} {Q : Bool → Shared → Prop} (R : SetS P w s.heap a l) (room : l.length + 1 < scanBound)
    (hQ : ∀ b h', (∀ c o, c ≠ a → s.heap.get? c = some o → h'.get? c = some o) → SetS P w h' a (addW l x) → Q b { s with heap := h', toks := s.toks + 1 }) : wpAny (model P w) A (setAdd a (.str x tk)) Q E s := by
  obtain ⟨⟨es, ep, t⟩, ho, F, nd, hb, r, hl⟩ := R
  have isX := Froz.is_str (P := P) (w := w) x tk
  unfold setAdd
  refine wpAny_holding (wpAny_bind ((strKind P w).pyHash isX ?_))
  by_cases hx : x ∈ l
  · obtain ⟨e, he, his⟩ := (F.mem x).mp hx
    unfold setAddHashed setAddHashedIn
    refine wpAny_holding (wpAny_bind (wpAny_setState_of (s := { s with toks := s.toks + 1 }) ho rfl F.fit ?_))
    dsimp only
    rw [byScan_of rfl (by have hs : es.size = l.length := F.sz; rw [hs]; exact hb) F.el]
    simp only [↓reduceIte]
    unfold setAddByScan
    refine wpAny_bind (wpAny_bind (wpAny_rule (wpAny_bind (wpAny_setScan_of (knd := strKind P w) (k := x) isX ho rfl F.fit F.el ?_))))
    cases hf : List.findIdx? (fun e => (strKind P w).is x e.2) es.toList with
    | none => exact absurd his (by have := List.findIdx?_eq_none_iff.mp hf e he; simpa using this)
    | some j =>
      dsimp only
      refine wpAny_pure (wpAny_pure ?_)
      exact hQ _ s.heap (fun _ _ _ z => z) (by unfold addW; rw [if_pos hx]; exact ⟨(es, ep, t), ho, F, nd, hb, r, hl⟩)
  · show wpAny _ _ (setAddHashed a (.str x tk) (hashStr w x)) _ _ _
    refine Froz.add_x (s := { s with toks := s.toks + 1 }) ho F hx room ?_
    obtain ⟨r2, l2⟩ := add_walks (h := hashStr w x) (v := .str x tk) r hl
    exact hQ _ (s.heap.update a fun _ => Froz.sObj "set" (Froz.addTx (hashStr w x) (.str x tk) (es, ep, t))) (fun b o hb z => by exact PySem.Heap.get?_update_of_ne _ (Ne.symm hb) z) (by
      unfold addW
      rw [if_neg hx]
      exact ⟨_, Froz.get_upd _ ho rfl, Froz.add_ok tk F, List.nodup_cons.mpr ⟨hx, nd⟩, room, r2, l2⟩)
theorem words_loop {I : Addr} {fp wr : List Addr} {G : Array GenState → Array GenState → Prop} {n : Nat} {Pv : Nat → Value → Prop} {St : Nat → Shared → Prop} {R : Result → Shared → Prop}
    (W : WalksS P w A.in1 I fp wr G n Pv St) (S : Addr) (hSf : S ∉ fp) (xs : List Str) (hn : n = xs.length) (hb : xs.length + 1 < scanBound) (hval : ∀ i v, Pv i v → ∃ x t, xs[i]? = some x ∧ v = .str x t) :
    ∀ (k i : Nat) (s : Shared) (l : List Str), n - i = k → i ≤ n → St i s → SetS P w s.heap S l → l.length ≤ i → (xs.drop i).foldl addW l = wordsOf xs →
      (∀ s', Moved (S :: wr) G s s' → SetS P w s'.heap S (wordsOf xs) → R (.ok (.ret .none)) s') →
      codeAny (model P w) A (.builtin "set.update.loop" ⟨[.ref S, .ref I], []⟩) R s := by
  have hSw : S ∉ wr := fun h => hSf (W.sub _ h)
  have more : ∀ b ∈ wr, b ∈ S :: wr := fun b hb => List.mem_cons_of_mem _ hb
  intro k
  induction k with
  | zero =>
    intro i s l hk hi st hS hl hf hR
    have hin : i = n := by omega
    subst hin
    refine codeAny_builtin F.entry_set_update_loop ?_
    rw [Around.under_plainId F.plain_set_update_loop _]
    show wpAny _ A.in1 (pyNext (.ref I) >>= _) _ _ s
    refine wpAny_bind (W.done s _ _ st fun s' hm => ?_)
    show wpAny _ A.in1 (ret Value.none) _ _ s'
    rw [List.drop_of_length_le (by omega)] at hf
    have hf : l = wordsOf xs := hf
    rw [hf] at hS
    exact wpAny_pure (hR s' (hm.mono more) (hS.at fun o e => hm.heap S o hSw e))
  | succ k ih =>
    intro i s l hk hi st hS hl hf hR
    have hlt : i < n := by omega
    refine codeAny_builtin F.entry_set_update_loop ?_
    rw [Around.under_plainId F.plain_set_update_loop _]
    show wpAny _ A.in1 (pyNext (.ref I) >>= _) _ _ s
    refine wpAny_bind (W.item i s _ _ hlt st fun v s' hP st' hm => ?_)
    obtain ⟨x, t, hx, rfl⟩ := hval i v hP
    have hS' : SetS P w s'.heap S l := hS.at fun o e => hm.heap S o hSw e
    have hd : xs.drop i = x :: xs.drop (i + 1) := by
      rw [List.drop_eq_getElem_cons (by omega)]
      congr 1
      rw [List.getElem?_eq_getElem (by omega)] at hx
      exact Option.some.inj hx
    rw [hd] at hf
    show wpAny _ A.in1 (holding [Value.str x t] (setAdd S (.str x t)) >>= _) _ _ s'
    refine wpAny_bind (wpAny_holding (set_word hS' (by omega) fun b h' kp new => ?_))
    refine wpAny_pure ⟨plainId_quiet F.plain_set_update_loop _, ih (i + 1) _ (addW l x) (by omega) hlt (W.frame _ s' _ _ st' (Nat.le_succ _) fun c hc o e => kp c o (fun q : c = S => hSf (by rw [← q]; exact hc)) e) new (by have := addW_len l x; omega) hf fun s'' hm'' new'' => ?_⟩
    exact hR s'' (Moved.trans W.gtrans ((hm.mono more).then_heap (Nat.le_succ _) fun c o hc e => kp c o (fun q : c = S => hc (by rw [q]; exact List.mem_cons_self)) e) hm'') new''
/-- set(a list of words) -/
theorem call_set_words {L : Addr} {items : Array Value} (xs : List Str) {Q : Value → Shared → Prop} (hh : A.handled = none) (hl : s.heap.IsList L items) (hit : StrsAre items.toList xs) (hb : xs.length + 1 < scanBound)
    (h : ∀ (h' : Heap) (tk : Nat), SetS P w h' s.heap.objs.size (wordsOf xs) → (∀ b o, s.heap.get? b = some o → h'.get? b = some o) → Q (.ref s.heap.objs.size) { s with heap := h', toks := tk }) :
    wpAny (model P w) A (call (.type "set") [.ref L]) Q E s := by
  have hisz : items.size = xs.length := by
    have q := StrsAre.length hit
    rw [Array.length_toList] at q
    exact q
  obtain ⟨c, tl, hmro⟩ := F.called_set.mro
  have hmade := F.called_set.made
  have hsub := F.called_set.sub
  refine wpAny_call (codeAny_of_tree ?_)
  show wpAny _ _ (callAny (.type "set") _) _ _ _
  refine wpAny_pure ⟨Code.quiet_builtin _ (by decide +kernel), codeAny_builtin F.entry_type_call ?_⟩
  rw [Around.under_plain (weight_type_call_type "set" [.ref L] []) rfl]
  have h1 := F.called_set.notType
  have h2 := F.called_set.canCreate
  have hct := F.typeCall_set_1 (.ref L)
  repeat (any_goals (first | assumption | wp_step))
  generalize hnew : ({ cls := .type "set", dict := none, data := .set #[] 0 (.fresh 0 0 (!w.params.followText "set-order")) } : Obj) = new
  refine codeAny_mono (L2.code_set_led1 (.ref L) (E := E) (Q₁ := fun obj s₁ => obj = .ref s.heap.objs.size ∧ s₁ = { s with heap := s.heap.push new }) ⟨rfl, by rw [hnew]⟩) fun r s₁ hr => ?_
  cases r with
  | error e => exact hr
  | ok fl =>
    cases fl with
    | ret obj =>
      obtain ⟨rfl, rfl⟩ := hr
      have hS : (s.heap.push new).get? s.heap.objs.size = some new := Heap.get?_push_size _ (by rw [← hnew]; rfl)
      have hT : Shared.TypeIs { s with heap := s.heap.push new } (.ref s.heap.objs.size) "set" := ⟨_, hS, by rw [← hnew]⟩
      have hli := F.called_set.init.lookup
      have hbi := F.called_set.init.bind (.ref s.heap.objs.size)
      repeat (any_goals (first | assumption | wp_step))
      refine codeAny_mono (codeAny_call_builtin (R := wants (fun r s₂ => r = .none ∧ ∃ h' tk, s₂ = { s with heap := h', toks := tk } ∧ SetS P w h' s.heap.objs.size (wordsOf xs) ∧ (∀ b o, s.heap.get? b = some o → h'.get? b = some o)) E) F.called_set.init.plain F.entry_set_init (check_set_init_1 hT ?_)) fun r₂ s₂ hr₂ => ?_
      · obtain ⟨ol, hol, hcl, nl, hdl⟩ := hl
        obtain ⟨ocls, odict, odata, oslots⟩ := ol
        simp only at hcl hdl
        subst hcl; subst hdl
        have hol' : (s.heap.push new).get? L = some { cls := .type "list", dict := odict, data := .seq items nl, slots := oslots } := Heap.get?_push_of_some _ hol
        have hsls := F.sub_list_set
        have hslf := F.sub_list_frozenset
        have hne : (Value.type "list" == Value.type "dict") = false := by decide
        have hl1 : (s.heap.push new).IsList L items := ⟨_, hol', rfl, nl, rfl⟩
        have hsz : s.heap.objs.size < (s.heap.push new).objs.size := by rw [Heap.size_push]; exact Nat.lt_succ_self _
        subst hnew
        unfold Builtin.«set.__init__» noKeywords Builtin.Frozenset.updateFrom
        generalize hPI : pyIter = PI
        wp_walk
        subst hPI
        refine wpAny_pyIter_list hl1 ?_
        refine wpAny_bind (wpAny_runValue ?_)
        have hlS : L < s.heap.objs.size := Heap.lt_size hol
        have hh3 : A.in1.in1.in1.handled = none := by simp [hh]
        have hneI : L ≠ (s.heap.push { cls := .type "set", dict := none, data := .set #[] 0 (.fresh 0 0 (!w.params.followText "set-order")) }).objs.size := by
          rw [Heap.size_push]; exact Nat.ne_of_lt (Nat.lt_succ_of_lt hlS)
        have hSf : s.heap.objs.size ∉ [(s.heap.push { cls := .type "set", dict := none, data := .set #[] 0 (.fresh 0 0 (!w.params.followText "set-order")) }).objs.size, L] := by
          rw [Heap.size_push]; simp only [List.mem_cons, List.mem_singleton, List.not_mem_nil, or_false, not_or]
          exact ⟨Nat.ne_of_lt (Nat.lt_succ_self _), Nat.ne_of_gt hlS⟩
        have hval : ∀ (i : Nat) (v : Value), items[i]? = some v → ∃ x t, xs[i]? = some x ∧ v = .str x t := fun i v hv => by
          have key : ∀ (l : List Value) (ys : List Str), StrsAre l ys → ∀ (i : Nat) (v : Value), l[i]? = some v → ∃ x t, ys[i]? = some x ∧ v = .str x t := by
            intro l ys q
            induction q with
            | nil => intro i v e; simp at e
            | cons x t q ih =>
              intro i v e
              cases i with
              | zero => exact ⟨x, t, rfl, by simpa using e.symm⟩
              | succ i => exact ih i v (by simpa using e)
          exact key _ _ hit i v (by rw [Array.getElem?_toList]; exact hv)
        refine words_loop ((Walks.list hh3 _ L hneI items).toS) s.heap.objs.size hSf xs hisz hb hval (items.size - 0) 0 _ [] (by omega) (Nat.zero_le _) ⟨⟨_, Heap.get?_push_size _ rfl, rfl, rfl⟩, (hl1.push _)⟩ ?_ (Nat.le_refl _) rfl ?_
        · exact empty_set (Heap.get?_push_of_some _ hS)
        · intro s' hm hS'
          obtain ⟨h', g2, d', tk', os'⟩ := s'
          have eg : g2 = s.gens := hm.gens
          have ed : d' = s.drawn := hm.drawn
          have eo : os' = s.os := hm.os
          subst eg; subst ed; subst eo
          show wpAny _ _ _ _ _ _
          refine wpAny_pure ?_
          show wpAny _ _ (ret Value.none) _ _ _
          refine wpAny_pure ⟨rfl, h', tk', rfl, hS', fun b o e => ?_⟩
          have hb0 : b < s.heap.objs.size := Heap.lt_size e
          have hb1 : b ≠ s.heap.objs.size := Nat.ne_of_lt hb0
          have hb2 : b ≠ (s.heap.push { cls := .type "set", dict := none, data := .set #[] 0 (.fresh 0 0 (!w.params.followText "set-order")) }).objs.size := by rw [Heap.size_push]; exact Nat.ne_of_lt (Nat.lt_succ_of_lt hb0)
          exact hm.heap b o (by simp only [List.mem_cons, List.mem_singleton, List.not_mem_nil, or_false, not_or]; exact ⟨hb1, hb2⟩) (Heap.get?_push_of_some _ (Heap.get?_push_of_some _ e))
      · cases r₂ with
        | error e => exact hr₂
        | ok fl₂ =>
          cases fl₂ with
          | ret r =>
            obtain ⟨rfl, h', tk, rfl, hS', hk'⟩ := hr₂
            repeat (any_goals (first | assumption | wp_step))
            exact h _ _ hS' hk'
          | _ => exact hr₂.elim
    | _ => exact hr.elim
end
end BV

/-! sorted(set(a list of words)), by value. -/
namespace BV
open PySem PySem.Spec PyProof.Rows L2 Evl

theorem addW_mem {l : List Str} {x y : Str} : y ∈ addW l x ↔ y ∈ l ∨ y = x := by
  unfold addW
  split
  · rename_i h
    exact ⟨.inl, fun q => q.elim id fun e => by rw [e]; exact h⟩
  · rw [List.mem_cons]
    exact Or.comm
theorem addW_nodup {l : List Str} {x : Str} (h : l.Nodup) : (addW l x).Nodup := by
  unfold addW
  split
  · exact h
  · exact List.nodup_cons.mpr ⟨by assumption, h⟩
theorem words_fold {P : List Str → Prop} (step : ∀ l x, P l → P (addW l x)) : ∀ (xs l : List Str), P l → P (xs.foldl addW l)
  | [], l, h => h
  | x :: xs, l, h => words_fold step xs _ (step l x h)
theorem words_mem : ∀ {xs l : List Str} {y : Str}, y ∈ xs.foldl addW l ↔ y ∈ l ∨ y ∈ xs
  | [], l, y => by simp
  | x :: xs, l, y => by
    rw [List.foldl_cons, words_mem, addW_mem, List.mem_cons, or_assoc]
theorem words_len : ∀ {xs l : List Str}, (xs.foldl addW l).length ≤ l.length + xs.length
  | [], l => by simp
  | x :: xs, l => by
    rw [List.foldl_cons]
    have h1 := words_len (xs := xs) (l := addW l x)
    have h2 := addW_len l x
    simp only [List.length_cons]
    omega
section
variable {X : Cx}
def rSetW (P : Program) (w : World) (K : PySem.W.Frag) : List V → Hp → VK → Prop := fun vs H Q => ∃ (a : Addr) (xs : List Str), vs = [V.ref a] ∧ SqL K H a (xs.map V.str) ∧ xs.length + 1 < scanBound ∧ ∀ p, H p = none → Q (.ref p) (upd H p (SetSO P w p (wordsOf xs)))
theorem cr_setW (hc : X.calm = true) : CallR X (.type "set") (rSetW X.prog X.w X.K) := by
  intro pins s σ H vs us Q I r h
  obtain ⟨a, xs, rfl, ha, hb, q⟩ := h
  rw [Vals.ref1 r]
  obtain ⟨its, rv, hl, _⟩ := I.list ha
  refine call_set_words xs (I.ok.hd hc) hl.isList rv.strs hb fun h' tk new k => ?_
  have fresh : H s.heap.objs.size = none := I.hok.fresh (Nat.le_refl _)
  exact ⟨.ref s.heap.objs.size, _, I.laid (t' := tk) k (Nat.le_refl _) (setSO_new new), rfl, q _ fresh⟩
/-- sorted(set(e)), e a list of words -/
def moSortedSet (me : ME) : MA := fun env Q => me env fun d => ∃ xs : List Str, d = .lst (xs.map D.str) ∧ xs.length < 60 ∧ ∀ ys : List Str, ys.Nodup → (∀ y, y ∈ ys ↔ y ∈ xs) → sortedS ys = true → Q (ys.map D.str)
theorem pdo_sortedSet {x y : Str} {e : Expr} {p p2 pos pos2 : Pos} {me : ME} (hc : X.calm = true) (hm : X.mg x = none) (hv : bootBuiltins x = some (.builtin "sorted")) (hm2 : X.mg y = none) (hv2 : bootBuiltins y = some (.type "set")) (h : PD X e me)
    (hg : Gl X x := by rfl) (hg2 : Gl X y := by rfl) (hn : x ≠ "__name__" := by decide) (hdb : (x == ("__debug__" : Str)) = false := by decide) (hn2 : y ≠ "__name__" := by decide) (hdb2 : (y == ("__debug__" : Str)) = false := by decide)
    (he : starEach [e] X.env = (false, eval e X.env) :: starEach [] X.env := by rfl) (hpl : (backTo pos2 (starEach [] X.env)).any (·.1) = false := by rfl)
    (he2 : starEach [.Call (.Name y p2) [e] [] pos2] X.env = (false, eval (.Call (.Name y p2) [e] [] pos2) X.env) :: starEach [] X.env := by rfl) (hpl2 : (backTo pos (starEach [] X.env)).any (·.1) = false := by rfl) :
    PDO X (.Call (.Name x p) [.Call (.Name y p2) [e] [] pos2] [] pos) (moSortedSet me) := by
  refine ⟨pe_imp (pe_callB (cr_sortedSS hc) hg hm hv (pa_cons (pe_callTy (cr_setW hc) hg2 hm2 hv2 (pa_cons h.run pa_nil he) hn2 hdb2 he hpl) pa_nil he2) hn hdb he2 hpl2) fun σ H Q q => ?_,
    fun env Q Q' i q => h.mono env _ _ (fun d ⟨xs, a, b, k⟩ => ⟨xs, a, b, fun ys n m s => i _ (k ys n m s)⟩) q⟩
  obtain ⟨z, C, env, o, r, q⟩ := q
  refine lift_use h.mono o r q fun d v C' H' ⟨xs, e1, e2, k⟩ t dn => ?_
  subst e1
  obtain ⟨a, vs, rfl, ha, dns⟩ := dn_lst.mp dn
  obtain rfl := dns_strs dns
  refine ⟨a, xs, rfl, sq_of (t.ok.ex _ _ ha), ?_, fun p' hp => ?_⟩
  · have : (1000 : Nat) < scanBound := by decide
    omega
  · have hl : (wordsOf xs).length ≤ xs.length := by have := words_len (xs := xs) (l := []); simpa [wordsOf] using this
    refine ⟨p', wordsOf xs, rfl, upd_same, by omega, fun ys q2 pm so hq2 => ?_⟩
    have nd : (wordsOf xs).Nodup := words_fold (P := List.Nodup) (fun l x h => addW_nodup h) xs [] List.nodup_nil
    have hne : q2 ≠ p' := fun e => by rw [e, upd_same] at hq2; cases hq2
    rw [upd_ne hne] at hq2
    have hcp : C' p' = none := fresh_back t.ok.ex hp
    have tA : Tr z C' H' C' (upd H' p' (SetSO X.prog X.w p' (wordsOf xs))) := Tr.ext t.ok (Ex.new hp)
    refine k ys (pm.nodup_iff.mpr nd) (fun y => ?_) so q2 _ C' _ (t.trans (tA.trans (Tr.ext tA.ok (Ex.new (by rw [upd_ne hne]; exact hq2))))) (t.free hq2) (fresh_back t.ok.ex hq2) upd_same (dns_words ys)
    rw [pm.mem_iff]
    show y ∈ List.foldl addW [] xs ↔ y ∈ xs
    rw [words_mem]
    simp
end
end BV

/-! x, y = e1, [..]: x shared, y a list of one's own. -/
namespace BV
open PySem PySem.Spec PyProof.Rows L2 Evl
section
variable {X : Cx} {pos : Pos}
def mPar2VO (rs : List Nat) (i j : Nat) (m1 : ME) (m2 : MA) : MS := fun E env => m1 (view rs 0 env) fun d => m2 (view rs 0 env) fun es => D.lfs ([d] ++ es) = true ∧ E.nx ((env.set i (some (false, d))).set j (some (true, .lst es)))
theorem pds_par2VO (rs : List Nat) {i j : Nat} {st : Stmt} {m1 : ME} {m2 : MA} {e1 e2 : Expr} (h1 : PD X e1 m1) (h2 : PDO X e2 m2) (hp : PS X st (tPar i j (tCons (lift X.K m1) (tCons (liftO X.K m2) tNil)))) : PDS X st (mPar2VO rs i j m1 m2) := by
  refine ⟨fun z C0 H0 Cb => ps_imp hp fun N σ H ⟨C, env, s, q⟩ => ?_, fun E E' env l q => h1.mono _ _ _ (fun d q => h2.mono _ _ _ (fun es ⟨a, q⟩ => ⟨a, l.nx _ q⟩) q) q⟩
  refine ⟨z, _, _, s.okP rs, s.envP rs, h1.mono _ _ _ (fun d q v C1 H1 t1 dn => ⟨z, C1, _, t1.ok, (s.envP rs).mono t1.cc, h2.mono _ _ _ (fun es ⟨hlf, p⟩ b ys C2 H2 t2 k1 k2 k3 dn2 => ?_) q⟩) q⟩
  have hb : H b = none := t1.free k1
  obtain ⟨C3, s3, dns, hc⟩ := s.after rs (t1.trans t2) ((Dns.one (dn.mono t2.cc)).app dn2)
  rw [aftL_lf' hlf] at s3
  obtain ⟨d1, d2⟩ := Dns.split (xs := [v]) rfl dns
  obtain ⟨v', f1, f2⟩ := dns1 d1
  cases f1
  refine ⟨v, .ref b, rfl, p _ C3 H2 ((s3.set i f2).setOwn j (hc b k2) k3 d2 (s.tr.free hb) fun l e h1 h2 => ?_)⟩
  by_cases hl : l = i
  · subst hl
    have hlen := (List.getElem?_eq_some_iff.mp h1).1
    rw [List.length_set] at hlen
    rw [List.getElem?_set_self hlen] at h1
    cases h1
  · rw [List.getElem?_set_ne (Ne.symm hl)] at h1 h2
    exact s.fresh hb l e h1 h2
theorem pds_p2VO (rs : List Nat) (i j : Nat) {x y : Str} {a b : Expr} {m1 : ME} {m2 : MA} {px py pt pt2 : Pos} {kt k2 : Nat} (hc : X.calm = true) (hN : X.N.Nodup) (h1 : PD X a m1) (h2 : PDO X b m2) (hi : X.N[i]? = some x := by rfl) (hj : X.N[j]? = some y := by rfl) (hij : i ≠ j := by decide)
    (hx : X.env.scope.names.lookup x = some .local := by rfl) (hy : X.env.scope.names.lookup y = some .local := by rfl) (hw : swappedStores [.Tuple [.Name x px, .Name y py] kt pt] (.Tuple [a, b] k2 pt2) X.env = pure (some [x, y]) := by rfl)
    (hs : swapsWithSole [.Tuple [.Name x px, .Name y py] kt pt] (.Tuple [a, b] k2 pt2) pos.line X.env = pure false := by rfl) (sa : starEach [a, b] X.env = (false, eval a X.env) :: starEach [b] X.env := by rfl) (sb : starEach [b] X.env = (false, eval b X.env) :: starEach [] X.env := by rfl) :
    PDS X (.Assign [.Tuple [.Name x px, .Name y py] kt pt] (.Tuple [a, b] k2 pt2) pos) (mPar2VO rs i j m1 m2) :=
  pds_par2VO rs h1 h2 (ps_par hc hN hi hj hij hx hy (pa_cons h1.run (pa_cons h2.run pa_nil sb) sa) hw hs)
end
end BV

/-! A comprehension inside a comprehension: its block. x not in a tuple. -/
namespace BV
open PySem PySem.Spec PyProof.Rows L2 Evl
def relD (scope sc : Scope) : Scope :=
  { scope with names := scope.names.map fun (n, k) => if (k == .free && sc.kind == .function && sc.names.lookup n == some .cell) then (n, .cell) else (n, k) }
theorem blkOk_in {N : List Str} {scope0 sc scope : Scope} {own : List (Str × Nat)} {cl : List (Str × Addr)} {C : Addr} {env : PySem.Env} (he : env.scope = sc) (h : blkC N (relD scope0 sc) scope own = true) : BlkOk N (compEnvC scope0 cl C env).scope scope own := by
  subst he
  exact blkOk_by h
section
variable {X : Cx}
def rInT (K : PySem.W.Frag) : R2 := fun x y H Q => ∃ d ds, Dp K H x d ∧ Dp K H y (.tuple ds) ∧ SeqAt.shaped d = true ∧ SeqAt.shaped (.tuple ds) = true ∧ Q (.bl (ds.any fun z => PyData.eqv z d)) H
def rNotInT (K : PySem.W.Frag) : R2 := fun x y H Q => ∃ d ds, Dp K H x d ∧ Dp K H y (.tuple ds) ∧ SeqAt.shaped d = true ∧ SeqAt.shaped (.tuple ds) = true ∧ Q (.bl (!ds.any fun z => PyData.eqv z d)) H
theorem op_inT (hu : X.A.units + 65 < cLine) : OpR X (compareOp .In) (rInT X.K) := by
  intro pins s σ H x y v u Q I rx ry h
  obtain ⟨d, ds, hd, he, sd, se, q⟩ := h
  obtain ⟨as, r1⟩ := Dp.reads I d x v hd rx
  obtain ⟨bs, r2⟩ := Dp.reads I (.tuple ds) y u he ry
  exact SeqAt.in_tuple_reads r2 r1 (SeqAt.canLay_of_shaped se) (SeqAt.canLay_of_shaped sd) (room_in_shaped sd hu) ⟨.bl _, H, I, rfl, q⟩
theorem op_notInT (hu : X.A.units + 65 < cLine) : OpR X (compareOp .NotIn) (rNotInT X.K) := by
  intro pins s σ H x y v u Q I rx ry h
  obtain ⟨d, ds, hd, he, sd, se, q⟩ := h
  obtain ⟨as, r1⟩ := Dp.reads I d x v hd rx
  obtain ⟨bs, r2⟩ := Dp.reads I (.tuple ds) y u he ry
  exact SeqAt.notIn_tuple_reads r2 r1 (SeqAt.canLay_of_shaped se) (SeqAt.canLay_of_shaped sd) (room_in_shaped sd hu) ⟨.bl _, H, I, rfl, q⟩
def inT (neg : Bool) : D → D → Option D
  | d, .tup es => if okEq d = true ∧ okEq (.tup es) = true then some (.bl (if neg then !((D.pys es).any fun z => PyData.eqv z d.py) else (D.pys es).any fun z => PyData.eqv z d.py)) else none
  | _, _ => none
theorem opd_inT (hu : X.A.units + 65 < cLine) : OpD X (compareOp .In) (inT false) := by
  refine OpD.of _ (op_inT hu) fun z C H d e u x y Q o dx dy g k => ?_
  cases e with
  | tup es =>
    obtain ⟨⟨h1, h2⟩, rfl⟩ := ite_of g
    exact ⟨d.py, D.pys es, dx.dp o.ex d x (okEq_of h1).1, dy.dp o.ex (.tup es) y (okEq_of h2).1, (okEq_of h1).2, (okEq_of h2).2, k _ C H (Tr.refl o) (dn_bl.mpr rfl)⟩
  | _ => cases g
theorem opd_notinT (hu : X.A.units + 65 < cLine) : OpD X (compareOp .NotIn) (inT true) := by
  refine OpD.of _ (op_notInT hu) fun z C H d e u x y Q o dx dy g k => ?_
  cases e with
  | tup es =>
    obtain ⟨⟨h1, h2⟩, rfl⟩ := ite_of g
    exact ⟨d.py, D.pys es, dx.dp o.ex d x (okEq_of h1).1, dy.dp o.ex (.tup es) y (okEq_of h2).1, (okEq_of h1).2, (okEq_of h2).2, k _ C H (Tr.refl o) (dn_bl.mpr rfl)⟩
  | _ => cases g
end
end BV

/-! x is None; for a, b in zip of two tuples; xs[i] = v and xs.pop(i) of one's own list; x = d.setdefault(k, v) if c else e. -/
namespace BV
open PySem PySem.Spec PyProof.Rows L2 Evl

def isNo : D → Bool
  | .non => true
  | _ => false
theorem non_dn {K : PySem.W.Frag} {C : Hp} {pu : Addr} {d : D} {v : V} (dn : Dn K C pu d v) : decide (v = .non) = isNo d := by
  cases d with
  | non => rw [dn_non.mp dn]; rfl
  | bl b => rw [dn_bl.mp dn]; rfl
  | int i => rw [dn_int.mp dn]; rfl
  | str s => rw [dn_str.mp dn]; rfl
  | tup ds => obtain ⟨a, xs, rfl, _⟩ := dn_tupP.mp dn; rfl
  | pr ds => obtain ⟨a, xs, rfl, _⟩ := dn_pr.mp dn; rfl
  | dic ks vs => obtain ⟨a, xs, rfl, _⟩ := dn_dic.mp dn; rfl
  | lst ds => obtain ⟨a, xs, rfl, _⟩ := dn_lst.mp dn; rfl
  | pur => rw [dn_pur.mp dn]; rfl
def isD (neg : Bool) : D → D → Option D
  | d, .non => some (.bl (if neg then !isNo d else isNo d))
  | _, _ => none
section
variable {X : Cx}
theorem opd_is : OpD X (compareOp .Is) (isD false) := by
  refine OpD.of _ op_isN fun z C H d e u x y Q o dx dy g k => ?_
  cases e with
  | non =>
    cases g
    exact ⟨dn_non.mp dy, k _ C H (Tr.refl o) (dn_bl.mpr (by rw [non_dn dx]; rfl))⟩
  | _ => cases g
theorem opd_isnot : OpD X (compareOp .IsNot) (isD true) := by
  refine OpD.of _ op_notN fun z C H d e u x y Q o dx dy g k => ?_
  cases e with
  | non =>
    cases g
    exact ⟨dn_non.mp dy, k _ C H (Tr.refl o) (dn_bl.mpr (by rw [non_dn dx]; rfl))⟩
  | _ => cases g
/-! ### zip of tuples -/
def mZipA (m : MA) : MI := fun env P => m env fun ds => ∃ as bs, (ds = [.lst as, .lst bs] ∨ ds = [.tup as, .tup bs]) ∧ P (zipL as bs)
theorem walk_zipT {K : PySem.W.Frag} {a b : Addr} {xs ys : List V} {n : Nat} (hn : n = min xs.length ys.length) : Walk (RZ.ItzT K a b) n (fun H => SqT K H a xs ∧ SqT K H b ys) (YPair (fun i => xs[i]?) (fun i => ys[i]?)) := by
  subst hn
  refine ⟨fun i _ hi q => ?_, fun _ q => ⟨xs, ys, q.1, q.2, by omega⟩, fun i H v H' _ q y => ?_⟩
  · have h1 : i < xs.length := by omega
    have h2 : i < ys.length := by omega
    exact ⟨xs, ys, xs[i], ys[i], q.1, q.2, by simp [h1], by simp [h2]⟩
  · obtain ⟨T, x, z, h1, h2, h3, h4, h5⟩ := y
    exact ⟨T, x, z, h1, h2, h3, h4 xs q.1, h5 ys q.2⟩
theorem itd_zipT {K : PySem.W.Frag} {z : Pz} {C : Hp} {a b : Addr} {xs ys : List V} {ds es : List D} (h : SqT K C a xs) (h' : SqT K C b ys) (dn : Dns K C z.p ds xs) (dn' : Dns K C z.p es ys) : ItD K z (RZ.ItzT K a b) (zipL ds es) C :=
  ⟨_, _, walk_zipT (by rw [zipL_len, dn.len, dn'.len]), fun H' e => ⟨ex_t e h, ex_t e h'⟩, fun i Ha v Hb hi y C1 e o => by
    obtain ⟨T, x, y, rfl, hT, rfl, h1, h2⟩ := y
    obtain ⟨d, h3, h4⟩ := dn.get' h1
    obtain ⟨d', h3', h4'⟩ := dn'.get' h2
    obtain ⟨t, q⟩ := tup_new o hT (h4.mono e) (h4'.mono e)
    exact ⟨_, _, zipL_get _ _ _ _ _ h3 h3', t, q⟩⟩
theorem pdi_zipA {e e2 : Expr} {m : MA} {p pos tpos : Pos} {elts : List Expr} {kk : Nat} (hg : Gl X "zip") (hm : X.mg "zip" = none) (h : PDA X [e, e2] m)
    (hs : starEach [e, e2] X.env = (false, eval e X.env) :: starEach [e2] X.env := by rfl) (hpl : (backTo pos (starEach [e2] X.env)).any (·.1) = false := by rfl) : PDI X (.Tuple elts kk tpos) (.Call (.Name "zip" p) [e, e2] [] pos) (mZipA m) := by
  refine ⟨pi_imp (RZ.pi_zipA hg hm h.run hs hpl) fun σ H R q => ?_, fun env Q Q' i q => h.mono env _ _ (fun d ⟨a, b, c, q⟩ => ⟨a, b, c, i _ q⟩) q⟩
  obtain ⟨z, C, env, o, r, q⟩ := q
  refine liftA_use h.mono o r q fun ds vs C' H' ⟨as, bs, e, p⟩ t dn => ?_
  rcases e with e | e
  · subst e
    obtain ⟨v, w, e1, e2, e3⟩ := dns2 dn
    obtain ⟨a, xs, f1, f2, f3⟩ := dn_lst.mp e2
    obtain ⟨b, ys, g1, g2, g3⟩ := dn_lst.mp e3
    rw [f1, g1] at e1
    exact ⟨a, b, xs, ys, e1, .inl ⟨ex_l t.ok.ex (sq_of f2), ex_l t.ok.ex (sq_of g2), p _ C' H' t (itd_zip (sq_of f2) (sq_of g2) f3 g3)⟩⟩
  · subst e
    obtain ⟨v, w, e1, e2, e3⟩ := dns2 dn
    obtain ⟨a, xs, f1, f2, f3⟩ := dn_tup e2
    obtain ⟨b, ys, g1, g2, g3⟩ := dn_tup e3
    rw [f1, g1] at e1
    exact ⟨a, b, xs, ys, e1, .inr ⟨ex_t t.ok.ex f2, ex_t t.ok.ex g2, p _ C' H' t (itd_zipT f2 g2 f3 g3)⟩⟩
/-! ### one's own list changed at a place -/
theorem Dns.set {K : PySem.W.Frag} {C : Hp} {pu : Addr} {d : D} {v : V} (h : Dn K C pu d v) : ∀ {ds : List D} {xs : List V} (n : Nat), Dns K C pu ds xs → Dns K C pu (ds.set n d) (xs.set n v)
  | [], xs, n, g => by rw [dns_nil.mp g]; exact dns_nil.mpr rfl
  | e :: ds, xs, 0, g => by
    obtain ⟨w, r, e1, h1, h2⟩ := dns_cons.mp g
    rw [e1]
    exact dns_cons.mpr ⟨v, r, rfl, h, h2⟩
  | e :: ds, xs, n + 1, g => by
    obtain ⟨w, r, e1, h1, h2⟩ := dns_cons.mp g
    rw [e1]
    exact dns_cons.mpr ⟨w, r.set n v, rfl, h1, Dns.set h n h2⟩
/-- xs[i] = v -/
def mSetAt (rs : List Nat) (i : Nat) (mv mk : ME) : MS := fun E env => (∃ ds0, env[i]? = some (some (true, .lst ds0))) ∧ mv (view rs 0 env) fun d => mk (view rs 0 env) fun y => ∃ ds n, (aftL rs [d, y] env)[i]? = some (some (true, .lst ds)) ∧ y = .int n ∧ 0 ≤ n ∧ n.toNat < ds.length ∧
  E.nx ((aftL rs [d, y] env).set i (some (true, .lst (ds.set n.toNat d))))
theorem pds_setAt (rs : List Nat) {i : Nat} {o k v : Expr} {pos pos' : Pos} {mv mk : ME} (ho : PE X o (tVar i)) (hk : PD X k mk) (hv : PD X v mv) (hs : swapsWithSole [.Subscript o k pos'] v pos.line X.env = pure false := by rfl) (hw : swappedStores [.Subscript o k pos'] v X.env = pure none := by rfl)
    (h1 : (assignEach [.Subscript o k pos'] X.env).map (·.2) = [assign (.Subscript o k pos') X.env] := by rfl)
    (ha : ∀ v, assign (.Subscript o k pos') X.env v = (do
      let ov ← holding [v] (eval o X.env)
      let iv ← holding [v, ov] (eval k X.env)
      standAt pos'
      holding [v, ov, iv] (setItem ov iv v)
      release [v, ov, iv] []) := by intro _; rfl) :
    PDS X (.Assign [.Subscript o k pos'] v pos) (mSetAt rs i mv mk) := by
  refine ⟨fun z C0 H0 Cb => ps_imp (ps_asg hv.run (pg_sub ho hk.run set_list ha) hs hw h1) fun N σ H ⟨C, env, s, ⟨ds0, h0⟩, q⟩ => ?_, fun E E' env l ⟨q0, q⟩ => ⟨q0, hv.mono _ _ _ (fun d q => hk.mono _ _ _ (fun y ⟨ds, n, a, b, c, e, q⟩ => ⟨ds, n, a, b, c, e, l.nx _ q⟩) q) q⟩⟩
  obtain ⟨a, _, xs0, _, ea, _, eH, _, _⟩ := s.ownL i _ h0
  have key := s.use2 (Q := fun v y H3 => rSetL (.ref a) y v H3 fun H4 => N.nx σ H4) rs hv.mono hk.mono q fun d y v w C' H' ⟨ds, n, e1, e2, e3, e4, p⟩ s' d1 d2 => ?_
  · exact lift_imp hv.mono key fun v H1 h => ⟨.ref a, ea, h⟩
  · subst e2
    obtain ⟨b, ds', xs, f1, f2, f3, f4, f5, f6⟩ := s'.ownL i _ e1
    rw [ea] at f2
    cases f2
    cases f1
    have hl := f5.len
    refine ⟨a, xs, n, n.toNat, rfl, dn_int.mp d2, f4, ?_, p σ C' _ (s'.write e1 ea (Dns.set d1 n.toNat f5))⟩
    have := ixN_nat (n := xs.length) (j := n.toNat) (by omega)
    rwa [Int.toNat_of_nonneg e3] at this
/-- xs.pop(e), the item dropped -/
def mPopS (rs : List Nat) (j : Nat) (me : ME) : MS := fun E env => (∃ ds1, env[j]? = some (some (true, .lst ds1))) ∧ me (view rs 0 env) fun d => ∃ n es y, d = .int n ∧ (aft rs d env)[j]? = some (some (true, .lst es)) ∧
  0 ≤ n ∧ n ≤ 4000000 ∧ es[n.toNat]? = some y ∧ E.nx ((aft rs d env).set j (some (true, .lst (es.eraseIdx n.toNat))))
theorem pds_popS (rs : List Nat) {j : Nat} {y e : Expr} {bpos dpos pos : Pos} {me : ME} (hy : PE X y (tVar j)) (h : PD X e me)
    (g1 : attributeBase y "pop" X.env (eval y X.env) = eval y X.env := by rfl)
    (g2 : ((((backTo dpos (starEach [e] X.env)).all fun x => !x.1) && ((backToKw dpos (keywordEach [] X.env)).all fun x => x.1.isSome) && decide (([e] : List Expr).length + ([] : List Keyword).length + (if ([] : List Keyword).isEmpty = true then 0 else 1) < 30)) = true) := by rfl)
    (g3 : (bpos.endLine == dpos.line) = true := by rfl) (g4 : starEach [e] X.env = (false, eval e X.env) :: starEach [] X.env := by rfl) (g5 : ((backTo dpos (starEach [] X.env)).any fun x => x.1) = false := by rfl)
    (hs : swapsWith (.Call (.Attribute y "pop" bpos) [e] [] dpos) none pos.line X.env = pure false := by rfl) : PDS X (.Expr (.Call (.Attribute y "pop" bpos) [e] [] dpos) pos) (mPopS rs j me) := by
  refine ⟨fun z C0 H0 Cb => ps_imp (ps_expr (pe_bm PySem.F.plainAttrs_list PySem.F.slot_list_pop PySem.F.type_list_pop mt_popAt hy (pa_cons h.run pa_nil g4) g1 g2 g3 g4 g5) hs) fun N σ H ⟨C, env, s, q⟩ => ?_,
    fun E E' env l ⟨q1, q⟩ => ⟨q1, h.mono _ _ _ (fun d ⟨n, es, y, e1, e2, e4, e5, e6, q⟩ => ⟨n, es, y, e1, e2, e4, e5, e6, l.nx _ q⟩) q⟩⟩
  obtain ⟨⟨ds1, j0⟩, q⟩ := q
  obtain ⟨b, _, ys, _, eb, _, eB, _⟩ := s.ownL j _ j0
  refine ⟨.ref b, eb, .inl ⟨rfl, ys, sq_of eB⟩, ?_⟩
  refine s.use rs h.mono q fun d v C' H' ⟨n, es, w, e1, e2, e4, e5, e6, p⟩ s' dn => ?_
  subst e1
  obtain ⟨b', es', zs, f1, f2, f3, f4, f5, f6⟩ := s'.ownL j _ e2
  rw [eb] at f2
  cases f2
  cases f1
  obtain ⟨w', k1, k2⟩ := f5.get e6
  have hw := (List.getElem?_eq_some_iff.mp k1).1
  refine ⟨b, zs, n, n.toNat, w', rfl, by rw [dn_int.mp dn], f4, by omega, by omega, ?_, k1, ?_⟩
  · unfold seqIndex?
    rw [if_neg (show ¬ n < 0 by omega)]
    simp only [Bool.and_eq_true, decide_eq_true_eq]
    rw [if_pos ⟨e4, by omega⟩]
  · exact p σ C' _ (s'.write e2 eb (f5.erase n.toNat))
end
end BV

/-! x = d.setdefault(k, v) if c else e, d an own dict; x, y = [..], v. -/
namespace BV
open PySem PySem.Spec PyProof.Rows L2 Evl
section
variable {X : Cx} {pos : Pos}
def mSetdIf (rs : List Nat) (i j : Nat) (mt : MT) (mk mv me : ME) : MS := fun E env => (∃ kd0, env[j]? = some (some (true, dicOf kd0))) ∧ mt (view rs 0 env) fun b => if b = true then mk (view rs 0 env) fun y => mv (view rs 0 env) fun d => ∃ kd k, (aftL rs [y, d] env)[j]? = some (some (true, dicOf kd)) ∧ keyOf y = some k ∧ szOk (kd.length + 1) = true ∧
    (∀ w, valD kd k = some w → E.nx ((aftL rs [y, d] env).set i (some (false, w)))) ∧ (valD kd k = none → E.nx (((aftL rs [y, d] env).set j (some (true, dicOf (putD kd k d)))).set i (some (false, d))))
  else me (view rs 0 env) fun d => E.nx ((aft rs d env).set i (some (false, d)))
theorem pds_setdIf (rs : List Nat) (i j : Nat) {x : Str} {py apos cpos ipos : Pos} {c o k v e : Expr} {mt : MT} {mk mv me : ME} (hN : X.N.Nodup) (hc : PDT X c mt) (ho : PE X o (tVar j)) (hk : PD X k mk) (hv : PD X v mv) (he : PD X e me) (hi : X.N[i]? = some x := by rfl) (hx : Loc X.env.scope x := by first | exact Or.inl rfl | exact Or.inr rfl)
    (m : M2 X o "setdefault" apos k v cpos := by exact ⟨rfl, rfl, rfl, rfl⟩) (hs : swapsWith (.IfExp c (.Call (.Attribute o "setdefault" apos) [k, v] [] cpos) e ipos) (some (.Name x py)) pos.line X.env = pure false := by rfl)
    (hf : X.fn x = true ∨ X.env.scope.names.lookup x = some .local := by first | exact .inl rfl | exact .inr rfl) :
    PDS X (.Assign [.Name x py] (.IfExp c (.Call (.Attribute o "setdefault" apos) [k, v] [] cpos) e ipos) pos) (mSetdIf rs i j mt mk mv me) := by
  refine ⟨fun z C0 H0 Cb => ps_imp (ps_set hN hi hx (pe_ifExp hc.run (pe_dsetd ho hk.run hv.run m) he.run) hs hf) fun N σ H ⟨C, env, s, ⟨kd0, h0⟩, q⟩ => ?_, fun E E' env l ⟨q0, q⟩ => ⟨q0, hc.mono _ _ _ (fun b q => ?_) q⟩⟩
  · refine s.useT rs hc.mono q fun b C' H' p s' => ?_
    cases b with
    | true =>
      obtain ⟨a, kvs0, ea, _, eH, _, _⟩ := s'.ownD j h0
      refine ⟨.ref a, ea, a, rfl, .inl ⟨kvs0, .inl eH⟩, ?_⟩
      refine s'.use2 rs hk.mono hv.mono p fun y d w u C2 H2 ⟨kd, k, e1, e2, e3, p1, p2⟩ s2 d1 d2 => ?_
      obtain ⟨b, kvs, f1, f2, f3, f4, f5⟩ := s2.ownD j e1
      rw [ea] at f1
      cases f1
      have hl := f4.len
      refine ⟨kvs, k, f3, key_dn e2 d1, by rw [hl]; exact sz_lt (by unfold szOk at e3 ⊢; simp at e3 ⊢; omega), fun v' hv' => ?_, fun hn => ?_⟩
      · cases hq : valD kd k with
        | none => rw [(f4.val k).2 hq] at hv'; cases hv'
        | some w' =>
          obtain ⟨v2, h1, h2⟩ := (f4.val k).1 w' hq
          rw [h1] at hv'
          cases hv'
          exact p1 w' hq _ C2 H2 (s2.set i h2)
      · have hq : valD kd k = none := by
          cases hq : valD kd k with
          | none => rfl
          | some w' =>
            obtain ⟨v2, h1, h2⟩ := (f4.val k).1 w' hq
            rw [h1] at hn
            cases hn
        have s3 := s2.writeU e1 ea (hl_dicOf.mpr ⟨_, rfl, f4.put k d2⟩)
        exact p2 hq _ C2 _ (s3.set i d2)
    | false => exact s'.use rs he.mono p fun d v C2 H2 p s2 dn => p _ C2 _ (s2.set i dn)
  · cases b with
    | true => exact hk.mono _ _ _ (fun y q => hv.mono _ _ _ (fun d ⟨kd, k, a, b, c, q1, q2⟩ => ⟨kd, k, a, b, c, fun w h => l.nx _ (q1 w h), fun h => l.nx _ (q2 h)⟩) q) q
    | false => exact he.mono _ _ _ (fun d q => l.nx _ q) q
end
end BV

/-! sorted(a list of tuples whose first items are words). -/
namespace BV
open PySem PySem.Spec PyProof.Rows L2 Evl
section
variable {X : Cx}
def rSortG (K : PySem.W.Frag) : List V → Hp → VK → Prop := fun xs H Q => ∃ z C a vs ds, ∃ (ltf : D → D → Bool) (bb : Bool), xs = [V.ref a] ∧ Ok z C H ∧ C a = some (.lst vs) ∧ Dns K C z.p ds vs ∧ (∀ d ∈ ds, okKey bb d = true) ∧ SrtO.Swo ltf ∧ (∀ d ∈ ds, ∀ e ∈ ds, ltO d e = some (ltf d e)) ∧
  ∀ out outv p, SrtO.Srtd ltf out → SrtO.Stb ltf out ds → Dns K C z.p out outv → H p = none → Q (.ref p) (upd H p (.lst outv))
theorem call_sortG (hu : X.A.units + 70 < cLine) : CallR X (.builtin "sorted") (rSortG X.K) := by
  intro pins s σ H xs us Q I r h
  obtain ⟨z, C, a, vs, ds, ltf, bb, rfl, o, ha, dn, hok, O, hlt, q⟩ := h
  obtain ⟨u, rfl, ru⟩ := vals1 r
  obtain rfl : u = Value.ref a := ru
  obtain ⟨its, rv, hl, hz⟩ := I.list (sq_of (K := X.K) (o.ex _ _ ha))
  have e1 := rv.length
  have e2 := dn.len
  -- what a value of the list is
  have known : ∀ i u, its[i]? = some u → ∃ d v, ds[i]? = some d ∧ vs[i]? = some v ∧ RelV v u ∧ Dn X.K C z.p d v := fun i u hi => by
    have hlt' := (List.getElem?_eq_some_iff.mp hi).1
    have hv : vs[i]? = some (vs[i]'(by omega)) := List.getElem?_eq_getElem (by omega)
    obtain ⟨d, h1, h2⟩ := dn.get' hv
    obtain ⟨u', h3, h4⟩ := rv.get hv
    rw [hi] at h3
    cases h3
    exact ⟨d, _, h1, hv, h4, h2⟩
  classical
  let dec : Value → D := fun u => if h : ∃ d v, d ∈ ds ∧ RelV v u ∧ Dn X.K C z.p d v then h.choose else .non
  have decOk : ∀ u, (∃ d v, d ∈ ds ∧ RelV v u ∧ Dn X.K C z.p d v) → ∃ v, dec u ∈ ds ∧ RelV v u ∧ Dn X.K C z.p (dec u) v := fun u h => by
    have := h.choose_spec
    obtain ⟨v, h1, h2, h3⟩ := this
    have e : dec u = h.choose := dif_pos h
    rw [e]
    exact ⟨v, h1, h2, h3⟩
  have okn : ∀ d ∈ ds, d.np = true := fun d hd => by
    exact (okKey_of (hok d hd)).2.2.2
  have decAt : ∀ i u d, its[i]? = some u → ds[i]? = some d → dec u = d := fun i u d hi hd => by
    obtain ⟨d', v, h1, h2, h3, h4⟩ := known i u hi
    rw [hd] at h1
    cases h1
    obtain ⟨v', g1', g2, g3⟩ := decOk u ⟨d, v, List.mem_of_getElem? hd, h3, h4⟩
    rw [h3.inj g2] at h4
    exact Dn.inj I o _ _ _ (okn _ g1') (okn _ (List.mem_of_getElem? hd)) g3 h4
  have decMap : its.map dec = ds := by
    apply List.ext_getElem?
    intro i
    rw [List.getElem?_map]
    cases hi : its[i]? with
    | none =>
      have : ds[i]? = none := by
        rw [List.getElem?_eq_none_iff] at hi ⊢
        omega
      rw [this]
      rfl
    | some u =>
      obtain ⟨d, v, h1, _⟩ := known i u hi
      rw [h1]
      show some (dec u) = some d
      rw [decAt i u d hi h1]
  have mem : ∀ u ∈ its, dec u ∈ ds ∧ ∃ v, RelV v u ∧ Dn X.K C z.p (dec u) v := fun u hu => by
    obtain ⟨i, hi⟩ := List.mem_iff_getElem?.mp hu
    obtain ⟨d, v, h1, h2, h3, h4⟩ := known i u hi
    obtain ⟨v', g1, g2, g3⟩ := decOk u ⟨d, v, List.mem_of_getElem? h1, h3, h4⟩
    exact ⟨g1, v', g2, g3⟩
  have okp : ∀ d ∈ ds, keyFirst bb d = true ∧ okEq d = true ∧ d.py.depth ≤ 50 := fun d hd => ⟨(okKey_of (hok d hd)).1, (okKey_of (hok d hd)).2.1, (okKey_of (hok d hd)).2.2.1⟩
  have reads : ∀ u ∈ its, ∃ as, Reads s.heap u (dec u).py as := fun u hu => by
    obtain ⟨h1, v, h2, h3⟩ := mem u hu
    exact Dp.reads I _ v u (h3.dp o.ex _ v (okEq_of (okp _ h1).2.1).1) h2
  have isref : ∀ u ∈ its, ∃ t, u = Value.ref t := fun u hu => by
    obtain ⟨h1, v, h2, h3⟩ := mem u hu
    have ht := (okp _ h1).1
    cases hd : dec u with
    | tup es =>
      rw [hd] at h3
      obtain ⟨t, _, e, _⟩ := dn_tup h3
      subst e
      exact ⟨t, h2⟩
    | _ => rw [hd] at ht; cases ht
  have Ov : SrtO.Swo fun u w => ltf (dec u) (dec w) := ⟨fun x y => O.asym _ _, fun x y z => O.tr _ _ _⟩
  refine SrtO.sorted_ord (ltv := fun u w => ltf (dec u) (dec w)) Ov hl.isList (by rw [← e1]; exact hz) (fun h2 h₁ a' ha' kk => ?_) fun out hs hb => ?_
  · intro h' keep
    have kp : ∀ b ob, s.heap.get? b = some ob → h'.get? b = some ob := fun b ob e => keep b ob (kk b ob e).1 (kk b ob e).2
    have reads' : ∀ u ∈ its, ∃ as, Reads h' u (dec u).py as := fun u hu => let ⟨as, r⟩ := reads u hu; ⟨as, Reads.keeps kp r⟩
    have pr : Paired (fun u d => (∃ as, Reads h' u (D.py d) as) ∧ keyFirst bb d = true) its ds := paired_get (by omega) fun i u d h1 h2 => by
      rw [← decAt i u d h1 h2]
      have hm := List.mem_of_getElem? h1
      exact ⟨reads' u hm, (okp _ (mem u hm).1).1⟩
    refine ⟨tuples' bb, fun Q' E' hq => ?_, fun p q' hp hq' => ?_⟩
    · exact kind_at (s := { s with heap := h' }) pr (by omega) hq
    · have hp1 : p.1 ∈ its := hp
      have hq1 : q'.1 ∈ its := hq'
      obtain ⟨as, r1⟩ := reads' _ hp1
      obtain ⟨bs, r2⟩ := reads' _ hq1
      exact keys_lt (s := { s with heap := h' }) (A := X.A.in1) (Q := fun r s' => s' = { s with heap := h' } ∧ r = ltf (dec p.1) (dec q'.1)) (by show X.A.units + 1 + 64 < _; omega) (hok _ (mem _ hp1).1) (hok _ (mem _ hq1).1) r1 r2 (hlt _ (mem _ hp1).1 _ (mem _ hq1).1) ⟨rfl, rfl⟩
  · have memo : ∀ u ∈ out, u ∈ its := fun u hu => hb.perm.mem_iff.mp hu
    have hbm : SrtO.Stb ltf (out.map dec) ds := by
      have := SrtO.Stb.map O dec hb
      rwa [decMap] at this
    obtain ⟨ep, he'⟩ := PyProof.Rows.sortedAll_at s.heap its out.toArray
    have dno : Dns X.K C z.p (out.map dec) (out.map backV) := by
      have : ∀ l : List Value, (∀ u ∈ l, u ∈ its) → Dns X.K C z.p (l.map dec) (l.map backV) := by
        intro l
        induction l with
        | nil => intro _; exact dns_nil.mpr rfl
        | cons u l ih =>
          intro hl'
          have hu' := hl' u (by simp)
          obtain ⟨h1, v, h2, h3⟩ := mem u hu'
          obtain ⟨t, rfl⟩ := isref u hu'
          have : v = .ref t := h2.inj (show RelV (.ref t) (.ref t) from rfl)
          subst this
          exact dns_cons.mpr ⟨_, _, rfl, h3, ih fun w hw => hl' w (by simp [hw])⟩
      exact this out memo
    have hlen : (out.map backV).length ≤ sizeLine := by
      rw [List.length_map, hb.len, ← e1]
      exact hz
    refine ⟨.ref _, upd H (s.heap.objs.size + 1) (.lst (out.map backV)), I.laid (t' := s.toks) (fun _ _ => PyProof.Rows.sortedAll_old) (Nat.le_succ _) ⟨hlen, out, ep, vals_back fun u hu => isref u (memo u hu), he'⟩, rfl, ?_⟩
    exact q _ _ _ (SrtO.srtd_map hs) hbm dno (I.hok.fresh (Nat.le_succ _))
def sortedG (ds : List D) (T : D → Prop) : Prop := ∃ xs, ∃ (ltf : D → D → Bool) (bb : Bool), ds = [.lst xs] ∧ (∀ d ∈ xs, okKey bb d = true) ∧ SrtO.Swo ltf ∧ (∀ d ∈ xs, ∀ e ∈ xs, ltO d e = some (ltf d e)) ∧ ∀ out, SrtO.Srtd ltf out → SrtO.Stb ltf out xs → T (.lst out)
theorem cp_sortedG (hu : X.A.units + 70 < cLine) : CallP X (.builtin "sorted") sortedG := by
  refine ⟨⟨_, call_sortG hu, fun z C H ds T xs Q o dn ⟨ys, ltf, bb, e, h1, O, h2, h3⟩ k => ?_⟩, fun ds T T' i ⟨ys, ltf, bb, e, h1, O, h2, h3⟩ => ⟨ys, ltf, bb, e, h1, O, h2, fun out a b => i _ (h3 out a b)⟩⟩
  subst e
  obtain ⟨v, rfl, e2⟩ := dns1 dn
  obtain ⟨a, vs, rfl, ha, dns⟩ := dn_lst.mp e2
  exact ⟨z, C, a, vs, ys, ltf, bb, rfl, o, ha, dns, h1, O, h2, fun out outv p s1 s2 d hp => k _ _ _ _ (h3 out s1 s2) (Tr.put o hp) (dn_new_lst d (fresh_back o.ex hp))⟩
end
end BV

/-! sorted(d.items()), list(d.items()), by value. -/
namespace BV
open PySem PySem.Spec PyProof.Rows L2 Evl L2.DX

def keyDat : L2.Key → D
  | .inl i => .int i
  | .inr s => .str s
/-- the pairs of a dict, in its order -/
def itemsK (kd : KL) : List D := pairsD (kd.map fun p => keyDat p.1) (kd.map (·.2))
theorem key_val {k : L2.Key} {v : Value} (h : keyIs k v = true) : RelV (kV k) v := by
  rcases keyIs_shape h with ⟨i, t, rfl, rfl⟩ | ⟨x, t, rfl, rfl⟩
  · exact ⟨t, rfl⟩
  · exact ⟨t, rfl⟩
theorem dn_key {K : PySem.W.Frag} {C : Hp} {pu : Addr} : ∀ {kd : KL} {kvs : List (L2.Key × V)}, KD K C pu kd kvs → Dns K C pu (kd.map fun p => keyDat p.1) (kvs.map fun p => kV p.1) ∧ Dns K C pu (kd.map (·.2)) (kvs.map (·.2)) := fun {kd kvs} h => by
  obtain ⟨h1, h2⟩ := KD.iff.mp h
  refine ⟨?_, h2⟩
  have key : ∀ ks : List L2.Key, Dns K C pu (ks.map keyDat) (ks.map kV) := by
    intro ks
    induction ks with
    | nil => exact dns_nil.mpr rfl
    | cons k ks ih =>
      refine dns_cons.mpr ⟨kV k, _, rfl, ?_, ih⟩
      cases k with
      | inl i => exact dn_int.mpr rfl
      | inr s => exact dn_str.mpr rfl
  have e1 : kvs.map (fun p => kV p.1) = (kd.map (·.1)).map kV := by rw [← h1, List.map_map]; rfl
  have e2 : kd.map (fun p => keyDat p.1) = (kd.map (·.1)).map keyDat := by rw [List.map_map]; rfl
  rw [e1, e2]
  exact key _
theorem vals_of {prog : Program} {w : World} : ∀ {kvs : List (L2.Key × V)} {vs : List (L2.Key × Value)} {es : List DictEntry}, KV kvs vs → Pairs (mixKind prog w) es vs → Vals (kvs.map fun p => kV p.1) (es.map (·.key)) ∧ Vals (kvs.map (·.2)) (es.map (·.val))
  | _, _, _, .nil, .nil => ⟨.nil, .nil⟩
  | _, _, _, .cons h t, .cons k v r => by
    obtain ⟨q1, q2⟩ := vals_of t r
    refine ⟨.cons ?_ q1, .cons ?_ q2⟩
    · dsimp only; rw [h.1]; exact key_val k
    · dsimp only; rw [v]; exact h.2
theorem made_got {es : Array DictEntry} {lo : Addr} {h : Heap} {as : List Addr} (g : DT.Made es lo h as) : GotL h as (es.toList.map (·.key)) (es.toList.map (·.val)) := gotL_of fun j a e => by
  obtain ⟨en, h1, h2⟩ := g.pairs j a e
  have h1' : es.toList[j]? = some en := by rw [Array.getElem?_toList]; exact h1
  exact ⟨en.key, en.val, by rw [List.getElem?_map, h1']; rfl, by rw [List.getElem?_map, h1']; rfl, h2⟩
section
variable {X : Cx} {pins : List (Addr × Obj)} {σ : L2.St} {H C : Hp} {s : Shared} {z : Pz}
/-- the pairs that were made are tracked -/
theorem gather (I : Inv X pins σ H s) (o : Ok z C H) {kd : KL} {kvs : List (L2.Key × V)} (kdv : KD X.K C z.p kd kvs) {ks vals : List Value} (r1 : Vals (kvs.map fun p => kV p.1) ks) (r2 : Vals (kvs.map (·.2)) vals) {h' : Heap} {tk : Nat} {as : List Addr} (rise : as.Pairwise (· < ·))
    (low : ∀ a ∈ as, s.heap.objs.size ≤ a) (len : as.length = kvs.length) (keep : ∀ b u, s.heap.get? b = some u → h'.get? b = some u) (got : GotL h' as ks vals) :
    ∃ C' H', Inv X pins σ H' { s with heap := h', toks := tk } ∧ Tr z C H C' H' ∧ Dns X.K C' z.p (itemsK kd) (as.map V.ref) := by
  obtain ⟨d1, d2⟩ := dn_key kdv
  have l1 := r1.length
  have l2 := r2.length
  rw [List.length_map] at l1 l2
  have lm : (mkL as ks vals (kvs.map fun p => kV p.1) (kvs.map (·.2))).map (·.1) = as := mkL_map got r1.length.symm r2.length.symm
  have nd : ((mkL as ks vals (kvs.map fun p => kV p.1) (kvs.map (·.2))).map (·.1)).Nodup := by rw [lm]; exact nodup_rise rise
  have hl : ∀ p ∈ mkL as ks vals (kvs.map fun p => kV p.1) (kvs.map (·.2)), s.heap.objs.size ≤ p.1 := fun p hp => low _ (by rw [← lm]; exact List.mem_map.mpr ⟨p, hp, rfl⟩)
  have tA := Tr.adds o nd fun p hp => I.hok.fresh (hl p hp)
  refine ⟨_, _, ?_, tA, mkL_dn (K := X.K) (pu := z.p) tA.cc got r1 r2 d1 d2 (by omega) fun p hp => addO_in nd hp⟩
  refine Inv.many (s := s) (h' := h') (t' := tk) I keep (fun b u e => ?_) fun b u e => ?_
  · have hb : b < s.heap.objs.size := I.hok.lt e
    rw [addO_out fun hm => by
      obtain ⟨p, hp, rfl⟩ := List.mem_map.mp hm
      exact absurd (hl p hp) (Nat.not_le.mpr hb)]
    exact e
  · rcases addO_some e with e | e
    · exact .inl e
    · exact .inr ⟨hl _ e, mkL_ok got r1 r2 _ e⟩
end
section
variable {X : Cx}
def rItemsK : V → List V → Hp → VK → Prop := fun x xs H Q => ∃ (a : Addr) (kvs : List (L2.Key × V)), x = .ref a ∧ xs = [] ∧ H a = some (.dK kvs) ∧ ∀ p, H p = none → Q (.ref p) (upd H p (itemsO p a))
theorem mt_itemsK : MtR X "dict.items" rItemsK := by
  intro pins s σ H x xs v us Q I rx rxs h
  obtain ⟨a, kvs, rfl, rfl, ha, q⟩ := h
  cases rx
  cases rxs
  obtain ⟨z, hd, vs, rel, o, es, ep, ho, hx, hdat, _⟩ := dk_of I.hok ha
  refine DT.callItems (es := es) (ep := ep) hd ⟨o, ho, hx, hdat⟩ ?_
  have hf : H s.heap.objs.size = none := I.hok.fresh (Nat.le_refl _)
  exact ⟨.ref s.heap.objs.size, upd H s.heap.objs.size (itemsO s.heap.objs.size a), I.laid (t' := s.toks) (fun b u e => Heap.get?_push_of_some _ e) (Nat.le_refl _) (itemsO_ok (Heap.get?_push_size _ rfl)), rfl, q _ hf⟩
/-- what sorted(a view of a dict's items) leaves -/
def rSortItK (K : PySem.W.Frag) : List V → Hp → VK → Prop := fun vs H Q => ∃ (z : Pz) (C : Hp) (p a : Addr) (kvs : List (L2.Key × V)) (kd : KL) (ltf : D → D → Bool) (bb : Bool), vs = [V.ref p] ∧ Ok z C H ∧ H p = some (itemsO p a) ∧ H a = some (.dK kvs) ∧ KD K C z.p kd kvs ∧
  (∀ d ∈ itemsK kd, okKey bb d = true) ∧ SrtO.Swo ltf ∧ (∀ d ∈ itemsK kd, ∀ e ∈ itemsK kd, ltO d e = some (ltf d e)) ∧
  ∀ (out : List D) (outv : List V) (l : Addr) (C' H' : Hp), SrtO.Srtd ltf out → SrtO.Stb ltf out (itemsK kd) → Tr z C H C' H' → H' l = none → H l = none → Dns K C' z.p out outv → Q (.ref l) (upd H' l (.lst outv))
theorem cr_sortItK (hc : X.calm = true) (hu : X.A.units + 70 < cLine) : CallR X (.builtin "sorted") (rSortItK X.K) := by
  intro pins s σ H xs us Q I r h
  obtain ⟨z, C, p, a, kvs, kd, ltf, bb, rfl, o, hp, ha, kdv, hok, O, hlt, q⟩ := h
  obtain rfl := Vals.ref1 r
  have view : s.heap.IsItemsView p a := (show ObjOk X.prog X.w H s.heap p (itemsO p a) from I.hok p _ hp).1
  obtain ⟨hz, hd, vs, rel, ob, es, ep, ho, hx, hdat, _, hpr, _⟩ := dk_of I.hok ha
  obtain ⟨r1, r2⟩ := vals_of rel hpr
  have hh : X.A.handled = none := I.ok.hd hc
  have les : es.size = kvs.length := by
    have := r2.length
    rw [List.length_map, List.length_map, Array.length_toList] at this
    exact this.symm
  refine DT.sortedI (es := es) (ep := ep) hh view ⟨ob, ho, hx, hdat⟩ (by rw [les]; exact hz) fun h' tk as hk hlt' hl hG => ?_
  obtain ⟨C', H', I1, t, dns⟩ := gather (tk := tk) I o kdv r1 r2 hG.rise (fun a ha => Nat.le_of_lt (hG.above a ha)) (by omega) hk (made_got hG)
  have o1 := t.ok
  have lit := dns.len
  rw [List.length_map] at lit
  -- what a value of the list is
  have known : ∀ i u, (as.map Value.ref)[i]? = some u → ∃ d v, (itemsK kd)[i]? = some d ∧ RelV v u ∧ Dn X.K C' z.p d v := fun i u hi => by
    rw [List.getElem?_map] at hi
    obtain ⟨b, hb, rfl⟩ := Option.map_eq_some_iff.mp hi
    have hv : (as.map V.ref)[i]? = some (V.ref b) := by rw [List.getElem?_map, hb]; rfl
    obtain ⟨d, h1, h2⟩ := dns.get' hv
    exact ⟨d, _, h1, (show RelV (.ref b) (.ref b) from rfl), h2⟩
  classical
  let dec : Value → D := fun u => if h : ∃ d v, d ∈ itemsK kd ∧ RelV v u ∧ Dn X.K C' z.p d v then h.choose else .non
  have decOk : ∀ u, (∃ d v, d ∈ itemsK kd ∧ RelV v u ∧ Dn X.K C' z.p d v) → ∃ v, dec u ∈ itemsK kd ∧ RelV v u ∧ Dn X.K C' z.p (dec u) v := fun u h => by
    obtain ⟨v, h1, h2, h3⟩ := h.choose_spec
    have e : dec u = h.choose := dif_pos h
    rw [e]
    exact ⟨v, h1, h2, h3⟩
  have okp : ∀ d ∈ itemsK kd, keyFirst bb d = true ∧ okEq d = true ∧ d.py.depth ≤ 50 ∧ d.np = true := fun d hd => okKey_of (hok d hd)
  have decAt : ∀ i u d, (as.map Value.ref)[i]? = some u → (itemsK kd)[i]? = some d → dec u = d := fun i u d hi hd => by
    obtain ⟨d', v, h1, h3, h4⟩ := known i u hi
    rw [hd] at h1
    cases h1
    obtain ⟨v', g1', g2, g3⟩ := decOk u ⟨d, v, List.mem_of_getElem? hd, h3, h4⟩
    rw [h3.inj g2] at h4
    exact Dn.inj I1 o1 _ _ _ (okp _ g1').2.2.2 (okp _ (List.mem_of_getElem? hd)).2.2.2 g3 h4
  have decMap : (as.map Value.ref).map dec = itemsK kd := by
    apply List.ext_getElem?
    intro i
    rw [List.getElem?_map]
    cases hi : (as.map Value.ref)[i]? with
    | none =>
      have : (itemsK kd)[i]? = none := by
        rw [List.getElem?_eq_none_iff] at hi ⊢
        rw [List.length_map] at hi
        omega
      rw [this]
      rfl
    | some u =>
      obtain ⟨d, v, h1, _⟩ := known i u hi
      rw [h1]
      show some (dec u) = some d
      rw [decAt i u d hi h1]
  have mem : ∀ u ∈ as.map Value.ref, dec u ∈ itemsK kd ∧ ∃ v, RelV v u ∧ Dn X.K C' z.p (dec u) v := fun u hu => by
    obtain ⟨i, hi⟩ := List.mem_iff_getElem?.mp hu
    obtain ⟨d, v, h1, h3, h4⟩ := known i u hi
    obtain ⟨v', g1, g2, g3⟩ := decOk u ⟨d, v, List.mem_of_getElem? h1, h3, h4⟩
    exact ⟨g1, v', g2, g3⟩
  have reads : ∀ u ∈ as.map Value.ref, ∃ bs, Reads h' u (dec u).py bs := fun u hu => by
    obtain ⟨h1, v, h2, h3⟩ := mem u hu
    exact Dp.reads I1 _ v u (h3.dp o1.ex _ v (okEq_of (okp _ h1).2.1).1) h2
  have Ov : SrtO.Swo fun u w => ltf (dec u) (dec w) := ⟨fun x y => O.asym _ _, fun x y z => O.tr _ _ _⟩
  have lsz : (as.map Value.ref).length ≤ sizeLine := by rw [List.length_map, hl, les]; exact hz
  have hob : (h'.push (seqObj "list" (as.map Value.ref).toArray 0)).get? h'.objs.size = some (seqObj "list" (as.map Value.ref).toArray 0) := Heap.get?_push_size _ rfl
  have ka : ∀ b u, h'.get? b = some u → (h'.push (seqObj "list" (as.map Value.ref).toArray 0)).get? b = some u := fun b u e => Heap.get?_push_of_some _ e
  have ne0 : ∀ b u, h'.get? b = some u → b ≠ h'.objs.size := fun b u e => Nat.ne_of_lt (Heap.lt_size e)
  have hsz2 : ∀ b u, h'.get? b = some u → b < (h'.push (seqObj "list" (as.map Value.ref).toArray 0)).objs.size := fun b u e => Heap.lt_size (ka b u e)
  show wpAny (model X.prog X.w) X.A.in1 (call (.builtin "list.sort") [.ref h'.objs.size]) (fun _ s' => EP X pins σ Q (.ref h'.objs.size) s') _ { s with heap := h'.push (seqObj "list" (as.map Value.ref).toArray 0), toks := tk }
  generalize hh2 : h'.push (seqObj "list" (as.map Value.ref).toArray 0) = h2 at hob ka hsz2 ⊢
  refine wpAny_call_entry PyProof.Rows.slot_list_sort ⟨_, hob, rfl⟩ PyProof.Rows.entry_list_sort (SrtO.list_sort_ord (s := { s with heap := h2, toks := tk }) (ltv := fun u w => ltf (dec u) (dec w)) Ov hob lsz (fun hlen => ?_) fun out hs hb => ⟨.none, rfl, ?_⟩) (PyProof.Rows.args_list_sort _)
  · intro h3 keep
    have kp : ∀ b u, h'.get? b = some u → h3.get? b = some u := fun b u e => keep b u (ne0 b u e) (ka b u e)
    have reads' : ∀ u ∈ as.map Value.ref, ∃ bs, Reads h3 u (dec u).py bs := fun u hu => let ⟨bs, r⟩ := reads u hu; ⟨bs, Reads.keeps kp r⟩
    have pr : Paired (fun u d => (∃ bs, Reads h3 u (D.py d) bs) ∧ keyFirst bb d = true) (as.map Value.ref) (itemsK kd) := paired_get (by rw [List.length_map]; omega) fun i u d h1 h2 => by
      rw [← decAt i u d h1 h2]
      have hm := List.mem_of_getElem? h1
      exact ⟨reads' u hm, (okp _ (mem u hm).1).1⟩
    refine ⟨tuples' bb, fun Q' E' hq => ?_, fun p q' hp hq' => ?_⟩
    · exact kind_at (s := { s with heap := h3, toks := tk }) pr (by omega) hq
    · have hp1 : p.1 ∈ as.map Value.ref := hp
      have hq1 : q'.1 ∈ as.map Value.ref := hq'
      obtain ⟨bs, r1⟩ := reads' _ hp1
      obtain ⟨cs, r2⟩ := reads' _ hq1
      exact keys_lt (s := { s with heap := h3, toks := tk }) (A := X.A.in1) (Q := fun r s' => s' = { s with heap := h3, toks := tk } ∧ r = ltf (dec p.1) (dec q'.1)) (by show X.A.units + 1 + 64 < _; omega) (hok _ (mem _ hp1).1) (hok _ (mem _ hq1).1) r1 r2 (hlt _ (mem _ hp1).1 _ (mem _ hq1).1) ⟨rfl, rfl⟩
  · have memo : ∀ u ∈ out, u ∈ as.map Value.ref := fun u hu => hb.perm.mem_iff.mp hu
    have hbm : SrtO.Stb ltf (out.map dec) (itemsK kd) := by
      have := SrtO.Stb.map O dec hb
      rwa [decMap] at this
    have isref : ∀ u ∈ as.map Value.ref, ∃ t, u = Value.ref t := fun u hu => by obtain ⟨b, _, rfl⟩ := List.mem_map.mp hu; exact ⟨b, rfl⟩
    have dno : Dns X.K C' z.p (out.map dec) (out.map backV) := by
      have : ∀ l : List Value, (∀ u ∈ l, u ∈ as.map Value.ref) → Dns X.K C' z.p (l.map dec) (l.map backV) := by
        intro l
        induction l with
        | nil => intro _; exact dns_nil.mpr rfl
        | cons u l ih =>
          intro hl'
          have hu' := hl' u (by simp)
          obtain ⟨h1, v, h2, h3⟩ := mem u hu'
          obtain ⟨t, rfl⟩ := isref u hu'
          have : v = .ref t := h2.inj (show RelV (.ref t) (.ref t) from rfl)
          subst this
          exact dns_cons.mpr ⟨_, _, rfl, h3, ih fun w hw => hl' w (by simp [hw])⟩
      exact this out memo
    have hlen2 : (out.map backV).length ≤ sizeLine := by
      rw [List.length_map, hb.len]
      exact lsz
    obtain ⟨e9, h9⟩ := PyProof.Rows.sortedHeap_at (out := out.toArray) hob
    have I2 : Inv X pins σ (upd H' h'.objs.size (.lst (out.map backV))) { s with heap := PyProof.Rows.sortedHeap h2 h'.objs.size (as.map Value.ref) out.toArray, toks := tk } :=
      Inv.laid (s := { s with heap := h', toks := tk }) (t' := tk) I1 (fun b u e => by rw [PyProof.Rows.sortedHeap_old (ne0 b u e) (hsz2 b u e)]; exact ka b u e) (Nat.le_refl _) ⟨hlen2, out, e9, vals_back fun u hu => isref u (memo u hu), h9⟩
    have hn : H' h'.objs.size = none := I1.hok.fresh (Nat.le_refl _)
    exact ⟨.ref h'.objs.size, _, I2, rfl, q _ _ _ C' H' (SrtO.srtd_map hs) hbm t hn (t.free hn) dno⟩
end
end BV

/-! sorted(d.items()), list(d.items()), by value. -/
namespace BV
open PySem PySem.Spec PyProof.Rows L2 Evl L2.DX
section
variable {prog : Program} {w : World} {A : Around} {E : Value → Shared → Prop} {s : Shared} {r d : Addr} {es : Array DictEntry} {ep : Nat}
theorem list_of_items (hh : A.handled = none) (hv : s.heap.IsItemsView r d) (hm : DT.Raw s.heap d es ep) (hn : es.size ≤ sizeLine) {Q : Value → Shared → Prop}
    (q : ∀ h' tk acc c as, (∀ b o, s.heap.get? b = some o → h'.get? b = some o) → h'.get? s.heap.objs.size = some (lstO acc c) → as.length = es.size → DT.Made es s.heap.objs.size h' as → acc.toList = as.map Value.ref → Q (.ref s.heap.objs.size) { s with heap := h', toks := tk }) :
    wpAny (model prog w) A (call (.type "list") [.ref r]) Q E s := by
  have hr : r < s.heap.objs.size := let ⟨_, ho, _⟩ := hv; Heap.lt_size ho
  have hd : d < s.heap.objs.size := hm.lt
  refine callType_codes (Q₁ := fun obj s₁ => obj = .ref s.heap.objs.size ∧ s₁ = { s with heap := s.heap.push { cls := .type "list", data := .seq #[] } }) PySem.F.called_list (PySem.F.typeCall_list_1 _) PySem.F.entry_list_init
    (code_list_new _ ⟨rfl, rfl⟩) fun obj s₁ h₁ => ?_
  obtain ⟨rfl, rfl⟩ := h₁
  have hL : (s.heap.push { cls := .type "list", data := .seq #[] }).get? s.heap.objs.size = some (lstO #[] 0) := Heap.get?_push_size _ rfl
  refine ⟨⟨_, hL, rfl⟩, PySem.F.args_list_init_2 _ _, ?_⟩
  show wpAny _ _ (do let old ← Builtin.List.listItems (.ref s.heap.objs.size); Builtin.List.listUpdate (.ref s.heap.objs.size) (fun _ => #[]); letGo old.toList.reverse; Builtin.List.listExtendWith (.ref s.heap.objs.size) (.ref r) .none) _ _ _
  refine wpAny_bind ?_
  unfold Builtin.List.listItems
  refine wpAny_bind (wpAny_seqItems hL rfl (wpAny_pure ?_))
  show wpAny _ _ (updateSeq s.heap.objs.size (fun _ => #[]) >>= fun _ => letGo (#[] : Array Value).toList.reverse >>= fun _ => Builtin.List.listExtendWith (.ref s.heap.objs.size) (.ref r) .none) _ _ _
  refine wpAny_bind (wpAny_updateSeq hL rfl ?_)
  refine wpAny_bind (wpAny_letGo ?_)
  have hL2 := Heap.get?_update_self (Obj.mapSeq (fun _ => (#[] : Array Value))) hL rfl
  have up : ∀ b o, s.heap.get? b = some o → ((s.heap.push { cls := .type "list", data := .seq #[] }).update s.heap.objs.size (Obj.mapSeq (fun _ => (#[] : Array Value)))).get? b = some o := fun b o e =>
    (Heap.get?_update_other _ _ (Nat.ne_of_gt (Heap.lt_size e))).trans (Heap.get?_push_of_some _ e)
  refine DT.extI (s := { s with heap := (s.heap.push { cls := .type "list", data := .seq #[] }).update s.heap.objs.size (Obj.mapSeq (fun _ => (#[] : Array Value))) }) (A := A.in1) hh (let ⟨o, ho, x⟩ := hv; ⟨o, up _ _ ho, x⟩) (hm.at' fun o e => up _ _ e) s.heap.objs.size (Nat.ne_of_gt hr) (Nat.ne_of_lt hd) .none _ hL2
    (fun h' tk acc c as a1 a2 a3 a4 a5 => ⟨rfl, q h' tk acc c as (fun b o e => a1 b o (Nat.ne_of_lt (Heap.lt_size e)) (up b o e)) a2 a3 (a4.low ?_) a5⟩) hn
  show s.heap.objs.size ≤ ((s.heap.push { cls := .type "list", data := .seq #[] }).update s.heap.objs.size (Obj.mapSeq (fun _ => (#[] : Array Value)))).objs.size
  rw [Heap.size_update, Heap.size_push]
  exact Nat.le_succ _
end
section
variable {X : Cx} {pins : List (Addr × Obj)} {σ : L2.St} {H C : Hp} {s : Shared} {z : Pz}
/-- the pairs that were made, and a list of them -/
theorem gatherL (I : Inv X pins σ H s) (o : Ok z C H) {kd : KL} {kvs : List (L2.Key × V)} (kdv : KD X.K C z.p kd kvs) {ks vals : List Value} (r1 : Vals (kvs.map fun p => kV p.1) ks) (r2 : Vals (kvs.map (·.2)) vals) {h' : Heap} {tk : Nat} {as : List Addr} (rise : as.Pairwise (· < ·))
    (low : ∀ a ∈ as, s.heap.objs.size ≤ a) (len : as.length = kvs.length) (keep : ∀ b u, s.heap.get? b = some u → h'.get? b = some u) (got : GotL h' as ks vals) {l : Addr} (hl0 : s.heap.objs.size ≤ l) (nl : l ∉ as) {outv : List V} (ok : ∀ H', ObjOk X.prog X.w H' h' l (.lst outv)) :
    ∃ C' H', Inv X pins σ (upd H' l (.lst outv)) { s with heap := h', toks := tk } ∧ Tr z C H C' H' ∧ H' l = none ∧ Dns X.K C' z.p (itemsK kd) (as.map V.ref) := by
  obtain ⟨d1, d2⟩ := dn_key kdv
  have l1 := r1.length
  have l2 := r2.length
  rw [List.length_map] at l1 l2
  have lm : (mkL as ks vals (kvs.map fun p => kV p.1) (kvs.map (·.2))).map (·.1) = as := mkL_map got r1.length.symm r2.length.symm
  have nd : ((mkL as ks vals (kvs.map fun p => kV p.1) (kvs.map (·.2))).map (·.1)).Nodup := by rw [lm]; exact nodup_rise rise
  have hl : ∀ p ∈ mkL as ks vals (kvs.map fun p => kV p.1) (kvs.map (·.2)), s.heap.objs.size ≤ p.1 := fun p hp => low _ (by rw [← lm]; exact List.mem_map.mpr ⟨p, hp, rfl⟩)
  have tA := Tr.adds o nd fun p hp => I.hok.fresh (hl p hp)
  have hn : addO (mkL as ks vals (kvs.map fun p => kV p.1) (kvs.map (·.2))) H l = none := by rw [addO_out (by rw [lm]; exact nl)]; exact I.hok.fresh hl0
  refine ⟨_, _, ?_, tA, hn, mkL_dn (K := X.K) (pu := z.p) tA.cc got r1 r2 d1 d2 (by omega) fun p hp => addO_in nd hp⟩
  refine Inv.many (s := s) (h' := h') (t' := tk) I keep (fun b u e => ?_) fun b u e => ?_
  · have hb : b < s.heap.objs.size := I.hok.lt e
    rw [upd_ne (Nat.ne_of_lt (Nat.lt_of_lt_of_le hb hl0)), addO_out fun hm => by
      obtain ⟨p, hp, rfl⟩ := List.mem_map.mp hm
      exact absurd (hl p hp) (Nat.not_le.mpr hb)]
    exact e
  · by_cases hb : b = l
    · subst hb
      rw [upd_same] at e
      cases e
      exact .inr ⟨hl0, ok _⟩
    · rw [upd_ne hb] at e
      rcases addO_some e with e | e
      · exact .inl e
      · exact .inr ⟨hl _ e, mkL_ok got r1 r2 _ e⟩
end
section
variable {X : Cx}
def rListItK (K : PySem.W.Frag) : List V → Hp → VK → Prop := fun vs H Q => ∃ (z : Pz) (C : Hp) (p a : Addr) (kvs : List (L2.Key × V)) (kd : KL), vs = [V.ref p] ∧ Ok z C H ∧ H p = some (itemsO p a) ∧ H a = some (.dK kvs) ∧ KD K C z.p kd kvs ∧
  ∀ (outv : List V) (l : Addr) (C' H' : Hp), Tr z C H C' H' → H' l = none → H l = none → Dns K C' z.p (itemsK kd) outv → Q (.ref l) (upd H' l (.lst outv))
theorem cr_listItK (hc : X.calm = true) : CallR X (.type "list") (rListItK X.K) := by
  intro pins s σ H xs us Q I r h
  obtain ⟨z, C, p, a, kvs, kd, rfl, o, hp, ha, kdv, q⟩ := h
  obtain rfl := Vals.ref1 r
  have view : s.heap.IsItemsView p a := (show ObjOk X.prog X.w H s.heap p (itemsO p a) from I.hok p _ hp).1
  obtain ⟨hz, hd, vs, rel, ob, es, ep, ho, hx, hdat, _, hpr, _⟩ := dk_of I.hok ha
  obtain ⟨r1, r2⟩ := vals_of rel hpr
  have hh : X.A.handled = none := I.ok.hd hc
  have les : es.size = kvs.length := by
    have := r2.length
    rw [List.length_map, List.length_map, Array.length_toList] at this
    exact this.symm
  refine list_of_items (es := es) (ep := ep) hh view ⟨ob, ho, hx, hdat⟩ (by rw [les]; exact hz) fun h' tk acc c as hk aL hl hG aa => ?_
  have lsz : (as.map V.ref).length ≤ sizeLine := by rw [List.length_map, hl, les]; exact hz
  have aL' : h'.get? s.heap.objs.size = some (seqObj "list" (as.map Value.ref).toArray c) := by
    rw [aL, ← aa]
  obtain ⟨C', H', I1, t, hn, dns⟩ := gatherL (tk := tk) I o kdv r1 r2 hG.rise (fun a ha => Nat.le_of_lt (hG.above a ha)) (by omega) hk (made_got hG) (l := s.heap.objs.size) (Nat.le_refl _) (fun hm => Nat.lt_irrefl _ (hG.above _ hm)) (outv := as.map V.ref) fun H' => ⟨lsz, as.map Value.ref, c, vals_refs as, aL'⟩
  exact ⟨.ref s.heap.objs.size, _, I1, rfl, q _ _ C' H' t hn (t.free hn) dns⟩
/-! ### by value -/
def moListIt (me : ME) : MA := fun env Q => me env fun d => ∃ kd, d = dicOf kd ∧ Q (itemsK kd)
def moSortIt (me : ME) : MA := fun env Q => me env fun d => ∃ (kd : KL) (ltf : D → D → Bool) (bb : Bool), d = dicOf kd ∧ (∀ x ∈ itemsK kd, okKey bb x = true) ∧ SrtO.Swo ltf ∧ (∀ x ∈ itemsK kd, ∀ y ∈ itemsK kd, ltO x y = some (ltf x y)) ∧
  ∀ out, SrtO.Srtd ltf out → SrtO.Stb ltf out (itemsK kd) → Q out
theorem pdo_listIt {x : Str} {e : Expr} {p apos pos2 pos : Pos} {me : ME} (hc : X.calm = true) (hm : X.mg x = none) (hv : bootBuiltins x = some (.type "list")) (h : PD X e me) (hg : Gl X x := by rfl) (hn : x ≠ "__name__" := by decide) (hdb : (x == ("__debug__" : Str)) = false := by decide)
    (hbase : attributeBase e "items" X.env (eval e X.env) = eval e X.env := by rfl) (hline : (apos.endLine == pos2.line) = true := by rfl)
    (he : starEach [.Call (.Attribute e "items" apos) [] [] pos2] X.env = (false, eval (.Call (.Attribute e "items" apos) [] [] pos2) X.env) :: starEach [] X.env := by rfl) (hpl : (backTo pos (starEach [] X.env)).any (·.1) = false := by rfl) :
    PDO X (.Call (.Name x p) [.Call (.Attribute e "items" apos) [] [] pos2] [] pos) (moListIt me) := by
  refine ⟨pe_imp (pe_callTy (cr_listItK hc) hg hm hv (pa_cons (pe_bm0 PySem.F.plainAttrs_dict PySem.F.slot_dict_items PySem.F.type_dict_items mt_itemsK h.run hbase hline) pa_nil he) hn hdb he hpl) fun σ H Q q => ?_,
    fun env Q Q' i q => h.mono env _ _ (fun d ⟨kd, a, q⟩ => ⟨kd, a, i _ q⟩) q⟩
  obtain ⟨z, C, env, o, r, q⟩ := q
  refine lift_use h.mono o r q fun d v C' H' ⟨kd, e1, k⟩ t dn => ?_
  subst e1
  obtain ⟨a, kvs, rfl, ha, kdv⟩ := dn_dicOf.mp dn
  have haH := t.ok.ex _ _ ha
  refine ⟨.inr (.inr (.inl ⟨rfl, .inl ⟨kvs, haH⟩⟩)), a, kvs, rfl, rfl, haH, fun p' hp => ?_⟩
  have hne : a ≠ p' := fun e => by rw [e, hp] at haH; cases haH
  have t2 : Tr z C' H' C' (upd H' p' (itemsO p' a)) := Tr.ext t.ok (Ex.new hp)
  exact ⟨z, C', p', a, kvs, kd, rfl, t2.ok, upd_same, by rw [upd_ne hne]; exact haH, kdv, fun outv l C2 H2 t3 h1 h2 dno => k l outv C2 _ (t.trans (t2.trans (t3.trans (Tr.ext t3.ok (Ex.new h1))))) ((t.trans t2).free h2) (fresh_back t3.ok.ex h1) upd_same dno⟩
theorem pdo_sortIt {x : Str} {e : Expr} {p apos pos2 pos : Pos} {me : ME} (hu : X.A.units + 70 < cLine) (hc : X.calm = true) (hm : X.mg x = none) (hv : bootBuiltins x = some (.builtin "sorted")) (h : PD X e me) (hg : Gl X x := by rfl) (hn : x ≠ "__name__" := by decide) (hdb : (x == ("__debug__" : Str)) = false := by decide)
    (hbase : attributeBase e "items" X.env (eval e X.env) = eval e X.env := by rfl) (hline : (apos.endLine == pos2.line) = true := by rfl)
    (he : starEach [.Call (.Attribute e "items" apos) [] [] pos2] X.env = (false, eval (.Call (.Attribute e "items" apos) [] [] pos2) X.env) :: starEach [] X.env := by rfl) (hpl : (backTo pos (starEach [] X.env)).any (·.1) = false := by rfl) :
    PDO X (.Call (.Name x p) [.Call (.Attribute e "items" apos) [] [] pos2] [] pos) (moSortIt me) := by
  refine ⟨pe_imp (pe_callB (cr_sortItK hc hu) hg hm hv (pa_cons (pe_bm0 PySem.F.plainAttrs_dict PySem.F.slot_dict_items PySem.F.type_dict_items mt_itemsK h.run hbase hline) pa_nil he) hn hdb he hpl) fun σ H Q q => ?_,
    fun env Q Q' i q => h.mono env _ _ (fun d ⟨kd, ltf, bb, a, b, c, e, q⟩ => ⟨kd, ltf, bb, a, b, c, e, fun out g1 g2 => i _ (q out g1 g2)⟩) q⟩
  obtain ⟨z, C, env, o, r, q⟩ := q
  refine lift_use h.mono o r q fun d v C' H' ⟨kd, ltf, bb, e1, g1, g2, g3, k⟩ t dn => ?_
  subst e1
  obtain ⟨a, kvs, rfl, ha, kdv⟩ := dn_dicOf.mp dn
  have haH := t.ok.ex _ _ ha
  refine ⟨.inr (.inr (.inl ⟨rfl, .inl ⟨kvs, haH⟩⟩)), a, kvs, rfl, rfl, haH, fun p' hp => ?_⟩
  have hne : a ≠ p' := fun e => by rw [e, hp] at haH; cases haH
  have t2 : Tr z C' H' C' (upd H' p' (itemsO p' a)) := Tr.ext t.ok (Ex.new hp)
  exact ⟨z, C', p', a, kvs, kd, ltf, bb, rfl, t2.ok, upd_same, by rw [upd_ne hne]; exact haH, kdv, g1, g2, g3, fun out outv l C2 H2 s1 s2 t3 h1 h2 dno => k out s1 s2 l outv C2 _ (t.trans (t2.trans (t3.trans (Tr.ext t3.ok (Ex.new h1))))) ((t.trans t2).free h2) (fresh_back t3.ok.ex h1) upd_same dno⟩
end
end BV

/-! One's own dict made of pairs; a list unpacked; several own things at once; list(range(n)). -/
namespace BV
open PySem PySem.Spec PyProof.Rows L2 Evl
section
variable {X : Cx} {pos : Pos}
/-- x = dict(pairs), one's own -/
def mOwnD (rs : List Nat) (i : Nat) (me : ME) : MS := fun E env => me (view rs 0 env) fun d => ∃ kd, dictD [d] = some (dicOf kd) ∧ E.nx ((aft rs d env).set i (some (true, dicOf kd)))
theorem pds_ownD (rs : List Nat) (i : Nat) {x : Str} {py p2 cpos : Pos} {e : Expr} {me : ME} (hN : X.N.Nodup) (hc : X.calm = true) (hm : X.mg "dict" = none) (h : PD X e me) (hi : X.N[i]? = some x := by rfl) (hx : Loc X.env.scope x := by first | exact Or.inl rfl | exact Or.inr rfl)
    (hg : Gl X "dict" := by rfl) (he : starEach [e] X.env = (false, eval e X.env) :: starEach [] X.env := by rfl) (hpl : (backTo cpos (starEach [] X.env)).any (·.1) = false := by rfl)
    (hs : swapsWith (.Call (.Name "dict" p2) [e] [] cpos) (some (.Name x py)) pos.line X.env = pure false := by rfl)
    (hf : X.fn x = true ∨ X.env.scope.names.lookup x = some .local := by first | exact .inl rfl | exact .inr rfl) : PDS X (.Assign [.Name x py] (.Call (.Name "dict" p2) [e] [] cpos) pos) (mOwnD rs i me) := by
  refine ⟨fun z C0 H0 Cb => ps_imp (ps_set hN hi hx (pe_callTy ((call_dictT hc).or (call_dictP hc)) hg hm (by rfl) (pa_cons h.run pa_nil he) (by decide) (by decide) he hpl) hs hf) fun N σ H ⟨C, env, s, q⟩ => ?_, fun E E' env l q => h.mono _ _ _ (fun d ⟨kd, a, q⟩ => ⟨kd, a, l.nx _ q⟩) q⟩
  refine s.use rs h.mono q fun d v C' H' ⟨kd, g, p⟩ s' dn => ?_
  have o := s'.tr.ok
  have fin : ∀ (ms : List (L2.Key × V)), KD X.K C' z.p kd (mergeK [] ms) → ∀ p', H' p' = none → N.nx (σ.set i (some (.ref p'))) (upd H' p' (.dK (mergeK [] ms))) := fun ms kdv p' hp => by
    have t : Tr z C' H' C' (upd H' p' (.dK (mergeK [] ms))) := Tr.ext o (Ex.new hp)
    exact p _ C' _ ((s'.next t).setOwnU i (fresh_back o.ex hp) upd_same (hl_dicOf.mpr ⟨_, rfl, kdv⟩) (s'.tr.free hp) (s'.fresh hp))
  unfold dictD at g
  split at g
  · rename_i ds e1
    cases e1
    obtain ⟨more, hm', e2⟩ := Option.map_eq_some_iff.mp g
    have ek : mergeD [] more = kd := by
      have h1 := congrArg (fun d => match d with | D.dic ks vs => ks.zip vs | _ => []) e2
      simpa [dicOf, List.zip_map', List.map_id''] using h1
    obtain ⟨a, ys, f1, f2, f3⟩ := dn_tupP.mp dn
    obtain ⟨ps, ms, g1, g2, g3⟩ := pairs_dn hm' f3
    subst g1
    subst f1
    exact .inl ⟨a, ps, ms, rfl, ex_p o.ex f2, Paired.imp' (fun _ _ h => ex_t o.ex h) g2, fin ms (ek ▸ KD.merge g3 (kd := []) (kvs := []) rfl)⟩
  · rename_i ds e1
    cases e1
    obtain ⟨more, hm', e2⟩ := Option.map_eq_some_iff.mp g
    have ek : mergeD [] more = kd := by
      have h1 := congrArg (fun d => match d with | D.dic ks vs => ks.zip vs | _ => []) e2
      simpa [dicOf, List.zip_map', List.map_id''] using h1
    obtain ⟨a, ys, f1, f2, f3⟩ := dn_lst.mp dn
    obtain ⟨ps, ms, g1, g2, g3⟩ := pairs_dn hm' f3
    subst g1
    subst f1
    exact .inr ⟨a, ps, ms, rfl, ex_l o.ex (sq_of f2), Paired.imp' (fun _ _ h => ex_t o.ex h) g2, fin ms (ek ▸ KD.merge g3 (kd := []) (kvs := []) rfl)⟩
  · cases g
/-- a, b, .. = a list -/
def mAsgTL (rs : List Nat) (is : List Nat) (me : ME) : MS := fun E env => me (view rs 0 env) fun d => ∃ ds env', d = .lst ds ∧ ds.length = is.length ∧ setsE shd is ds (aft rs d env) = some env' ∧ E.nx env'
theorem pds_asgTL (rs : List Nat) {is : List Nat} {es : List Expr} {kt : Nat} {tp : Pos} {e : Expr} {me : ME} (hc : X.calm = true) (h : PD X e me) (hg : PGs X es (gNs is)) (hn : (assignEach es X.env).length = is.length := by rfl) (hst : (assignEach es X.env).findIdx? (·.1) = none := by rfl)
    (hs : swapsWithSole [.Tuple es kt tp] e pos.line X.env = pure false := by rfl) (hw : swappedStores [.Tuple es kt tp] e X.env = pure none := by rfl)
    (h1 : (assignEach [.Tuple es kt tp] X.env).map (·.2) = [assign (.Tuple es kt tp) X.env] := by rfl) : PDS X (.Assign [.Tuple es kt tp] e pos) (mAsgTL rs is me) := by
  refine ⟨fun z C0 H0 Cb => ps_imp (ps_asg h.run (pg_lst hc hg hn hst) hs hw h1) fun N σ H ⟨C, env, s, q⟩ => ?_, fun E E' env l q => h.mono _ _ _ (fun d ⟨ds, env', a, b, c, q⟩ => ⟨ds, env', a, b, c, l.nx _ q⟩) q⟩
  refine s.use rs h.mono q fun d v C' H' ⟨ds, env', e1, e2, g, p⟩ s' dn => ?_
  subst e1
  obtain ⟨a, xs, rfl, ha, dns⟩ := dn_lst.mp dn
  exact ⟨a, xs, rfl, sq_of (s'.tr.ok.ex _ _ ha), by rw [dns.len, e2], s'.sets dns g fun σ' s2 => p _ C' H' s2⟩
end
end BV

/-! x, y = [], {}; x, y, z = {}, [], []; list(range(n)). -/
namespace BV
open PySem PySem.Spec PyProof.Rows L2 Evl
theorem ne_set {env : SEnv} {σ : L2.St} {i l : Nat} {d : D} {p q : Addr} (h : ∀ j e, env[j]? = some (some (true, e)) → σ[j]? = some (some (.ref q)) → j = l) (hpq : p ≠ q) : ∀ j e, (env.set i (some (true, d)))[j]? = some (some (true, e)) → (σ.set i (some (.ref p)))[j]? = some (some (.ref q)) → j = l := fun j e h1 h2 => by
  rcases get_set_eq h2 with ⟨_, h3, _⟩ | ⟨h3, h4⟩
  · cases h3
    exact absurd rfl hpq
  · rw [List.getElem?_set_ne (Ne.symm h3)] at h1
    exact h j e h1 h4
section
variable {X : Cx} {pos : Pos}
def mNewLD (i j : Nat) : MS := fun E env => E.nx ((env.set i (some (true, .lst []))).set j (some (true, dicOf [])))
theorem pds_newLD (i j : Nat) {x y : Str} {px py pt p1 p2 pt2 : Pos} {kt k2 : Nat} (hc : X.calm = true) (hN : X.N.Nodup) (hi : X.N[i]? = some x := by rfl) (hj : X.N[j]? = some y := by rfl) (hij : i ≠ j := by decide)
    (hx : X.env.scope.names.lookup x = some .local := by rfl) (hy : X.env.scope.names.lookup y = some .local := by rfl) (hw : swappedStores [.Tuple [.Name x px, .Name y py] kt pt] (.Tuple [.List [] p1, .Dict [] [] p2] k2 pt2) X.env = pure (some [x, y]) := by rfl)
    (hs : swapsWithSole [.Tuple [.Name x px, .Name y py] kt pt] (.Tuple [.List [] p1, .Dict [] [] p2] k2 pt2) pos.line X.env = pure false := by rfl)
    (sa : starEach [.List [] p1, .Dict [] [] p2] X.env = (false, eval (.List [] p1) X.env) :: starEach [.Dict [] [] p2] X.env := by rfl) (sb : starEach [.Dict [] [] p2] X.env = (false, eval (.Dict [] [] p2) X.env) :: starEach [] X.env := by rfl) :
    PDS X (.Assign [.Tuple [.Name x px, .Name y py] kt pt] (.Tuple [.List [] p1, .Dict [] [] p2] k2 pt2) pos) (mNewLD i j) := by
  refine ⟨fun z C0 H0 Cb => ps_imp (ps_par hc hN hi hj hij hx hy (pa_cons (pe_lst pa_nil) (pa_cons pe_dnewK pa_nil sb) sa) hw hs) fun N σ H ⟨C, env, s, q⟩ => ?_, fun E E' env l q => l.nx _ q⟩
  refine ⟨Nat.zero_le _, fun p hp q' hq => ?_⟩
  have t1 : Tr z C H C (upd H p (.lst [])) := Tr.ext s.tr.ok (Ex.new hp)
  have t2 : Tr z C (upd H p (.lst [])) C (upd (upd H p (.lst [])) q' (.dK [])) := Tr.ext t1.ok (Ex.new hq)
  have hpq : p ≠ q' := fun e => by rw [← e, upd_same] at hq; cases hq
  have hq0 : H q' = none := by rw [upd_ne (Ne.symm hpq)] at hq; exact hq
  have s2 := (s.next t1).next t2
  refine ⟨.ref p, .ref q', rfl, q _ C _ ?_⟩
  exact (s2.setOwn i (fresh_back s.tr.ok.ex hp) (by rw [upd_ne hpq]; exact upd_same) (dns_nil.mpr rfl) (s.tr.free hp) (s.fresh hp)).setOwnU j (fresh_back s.tr.ok.ex hq0) upd_same (hl_dicOf.mpr ⟨[], rfl, rfl⟩) (s.tr.free hq0) (ne_set (s.fresh hq0) hpq)
def mNewDLL (i j l : Nat) : MS := fun E env => E.nx (((env.set i (some (true, dicOf []))).set j (some (true, .lst []))).set l (some (true, .lst [])))
theorem pds_newDLL (i j l : Nat) {x y z' : Str} {px py pz pt p1 p2 p3 pt2 : Pos} {kt k2 : Nat} (hc : X.calm = true) (hN : X.N.Nodup) (hi : X.N[i]? = some x := by rfl) (hj : X.N[j]? = some y := by rfl) (hl : X.N[l]? = some z' := by rfl) (hij : i ≠ j := by decide) (hil : i ≠ l := by decide) (hjl : j ≠ l := by decide)
    (hx : X.env.scope.names.lookup x = some .local := by rfl) (hy : X.env.scope.names.lookup y = some .local := by rfl) (hz : X.env.scope.names.lookup z' = some .local := by rfl)
    (hw : swappedStores [.Tuple [.Name x px, .Name y py, .Name z' pz] kt pt] (.Tuple [.Dict [] [] p1, .List [] p2, .List [] p3] k2 pt2) X.env = pure (some [x, y, z']) := by rfl)
    (hs : swapsWithSole [.Tuple [.Name x px, .Name y py, .Name z' pz] kt pt] (.Tuple [.Dict [] [] p1, .List [] p2, .List [] p3] k2 pt2) pos.line X.env = pure false := by rfl)
    (sa : starEach [.Dict [] [] p1, .List [] p2, .List [] p3] X.env = (false, eval (.Dict [] [] p1) X.env) :: starEach [.List [] p2, .List [] p3] X.env := by rfl) (sb : starEach [.List [] p2, .List [] p3] X.env = (false, eval (.List [] p2) X.env) :: starEach [.List [] p3] X.env := by rfl)
    (sc : starEach [.List [] p3] X.env = (false, eval (.List [] p3) X.env) :: starEach [] X.env := by rfl) :
    PDS X (.Assign [.Tuple [.Name x px, .Name y py, .Name z' pz] kt pt] (.Tuple [.Dict [] [] p1, .List [] p2, .List [] p3] k2 pt2) pos) (mNewDLL i j l) := by
  refine ⟨fun z C0 H0 Cb => ps_imp (ps_par3 hc hN hi hj hl hij hil hjl hx hy hz (pa_cons pe_dnewK (pa_cons (pe_lst pa_nil) (pa_cons (pe_lst pa_nil) pa_nil sc) sb) sa) hw hs) fun N σ H ⟨C, env, s, q⟩ => ?_, fun E E' env l q => l.nx _ q⟩
  refine fun p hp => ⟨Nat.zero_le _, fun q' hq => ⟨Nat.zero_le _, fun r' hr => ?_⟩⟩
  have t1 : Tr z C H C (upd H p (.dK [])) := Tr.ext s.tr.ok (Ex.new hp)
  have t2 : Tr z C (upd H p (.dK [])) C (upd (upd H p (.dK [])) q' (.lst [])) := Tr.ext t1.ok (Ex.new hq)
  have t3 : Tr z C (upd (upd H p (.dK [])) q' (.lst [])) C (upd (upd (upd H p (.dK [])) q' (.lst [])) r' (.lst [])) := Tr.ext t2.ok (Ex.new hr)
  have hpq : p ≠ q' := fun e => by rw [← e, upd_same] at hq; cases hq
  have hqr : q' ≠ r' := fun e => by rw [← e, upd_same] at hr; cases hr
  have hr1 : upd H p (.dK []) r' = none := by rw [upd_ne (Ne.symm hqr)] at hr; exact hr
  have hpr : p ≠ r' := fun e => by rw [← e, upd_same] at hr1; cases hr1
  have hq0 : H q' = none := by rw [upd_ne (Ne.symm hpq)] at hq; exact hq
  have hr0 : H r' = none := by rw [upd_ne (Ne.symm hpr)] at hr1; exact hr1
  have s3 := ((s.next t1).next t2).next t3
  refine ⟨.ref p, .ref q', .ref r', rfl, q _ C _ ?_⟩
  exact ((s3.setOwnU (d := dicOf []) i (fresh_back s.tr.ok.ex hp) (by rw [upd_ne hpr, upd_ne hpq]; exact upd_same) (hl_dicOf.mpr ⟨[], rfl, rfl⟩) (s.tr.free hp) (s.fresh hp)).setOwn j (fresh_back s.tr.ok.ex hq0) (by rw [upd_ne hqr]; exact upd_same) (dns_nil.mpr rfl) (s.tr.free hq0) (ne_set (s.fresh hq0) hpq)).setOwn l (fresh_back s.tr.ok.ex hr0) upd_same (dns_nil.mpr rfl) (s.tr.free hr0)
    (ne_set (ne_set (s.fresh hr0) hpr) hqr)
/-- list(range(n)) -/
def moListRg (me : ME) : MA := fun env Q => me env fun d => ∃ n : Int, d = .int n ∧ -4000000 ≤ n ∧ n ≤ 4000000 ∧ Q (rngL 0 n.toNat)
theorem dns_rng {K : PySem.W.Frag} {C : Hp} {pu : Addr} (n : Int) : Dns K C pu (rngL 0 n.toNat) (rgV 0 n) := by
  unfold rngL rgV
  have : ∀ l : List Nat, Dns K C pu (l.map fun (i : Nat) => D.int (0 + (i : Nat))) (l.map fun (i : Nat) => V.int (0 + (i : Nat))) := by
    intro l
    induction l with
    | nil => exact dns_nil.mpr rfl
    | cons a l ih => exact dns_cons.mpr ⟨_, _, rfl, dn_int.mpr rfl, ih⟩
  have e : (n - 0).toNat = n.toNat := by rw [Int.sub_zero]
  rw [e]
  simpa using this (List.range n.toNat)
theorem pdo_listRg {e : Expr} {me : ME} {p p2 pos2 : Pos} (hc : X.calm = true) (hm : X.mg "list" = none) (hmr : X.mg "range" = none) (h : PD X e me) (hg : Gl X "list" := by rfl) (hgr : Gl X "range" := by rfl) (na : starEach [e] X.env = (false, eval e X.env) :: starEach [] X.env := by rfl)
    (nb : starEach [.Call (.Name "range" p2) [e] [] pos2] X.env = (false, eval (.Call (.Name "range" p2) [e] [] pos2) X.env) :: starEach [] X.env := by rfl) : PDO X (.Call (.Name "list" p) [.Call (.Name "range" p2) [e] [] pos2] [] pos) (moListRg me) := by
  refine ⟨pe_imp (pe_listRg hc hg hm (prg_1 hgr hmr h.run na) nb) fun σ H Q q => ?_, fun env Q Q' i q => h.mono env _ _ (fun d ⟨n, a, b, c, q⟩ => ⟨n, a, b, c, i _ q⟩) q⟩
  obtain ⟨z, C, env, o, r, q⟩ := q
  refine lift_use h.mono o r q fun d v C' H' ⟨n, e1, g1, g2, k⟩ t dn => ?_
  subst e1
  refine ⟨n, dn_int.mp dn, ⟨by decide, by decide, by omega, by omega, by omega⟩, fun p' hp => ?_⟩
  exact k p' _ C' _ (t.trans (Tr.ext t.ok (Ex.new hp))) (t.free hp) (fresh_back t.ok.ex hp) upd_same (dns_rng n)
end
end BV

/-! in a list or a tuple; three keywords the other way round. -/
namespace BV
open PySem PySem.Spec PyProof.Rows L2 Evl
def inA (neg : Bool) : D → D → Option D
  | d, .lst es => if okEq d = true ∧ okEq (.lst es) = true then some (.bl (if neg then !((D.pys es).any fun z => PyData.eqv z d.py) else (D.pys es).any fun z => PyData.eqv z d.py)) else none
  | d, .tup es => if okEq d = true ∧ okEq (.tup es) = true then some (.bl (if neg then !((D.pys es).any fun z => PyData.eqv z d.py) else (D.pys es).any fun z => PyData.eqv z d.py)) else none
  | _, _ => none
section
variable {X : Cx} {pos : Pos}
theorem opd_inA (hu : X.A.units + 65 < cLine) : OpD X (compareOp .In) (inA false) := by
  refine OpD.of _ ((op_inD hu).or (op_inT hu)) fun z C H d e u x y Q o dx dy g k => ?_
  cases e with
  | lst es =>
    obtain ⟨⟨h1, h2⟩, rfl⟩ := ite_of g
    exact .inl ⟨d.py, D.pys es, dx.dp o.ex d x (okEq_of h1).1, dy.dp o.ex (.lst es) y (okEq_of h2).1, (okEq_of h1).2, (okEq_of h2).2, k _ C H (Tr.refl o) (dn_bl.mpr rfl)⟩
  | tup es =>
    obtain ⟨⟨h1, h2⟩, rfl⟩ := ite_of g
    exact .inr ⟨d.py, D.pys es, dx.dp o.ex d x (okEq_of h1).1, dy.dp o.ex (.tup es) y (okEq_of h2).1, (okEq_of h1).2, (okEq_of h2).2, k _ C H (Tr.refl o) (dn_bl.mpr rfl)⟩
  | _ => cases g
theorem opd_notinA (hu : X.A.units + 65 < cLine) : OpD X (compareOp .NotIn) (inA true) := by
  refine OpD.of _ ((op_notInD hu).or (op_notInT hu)) fun z C H d e u x y Q o dx dy g k => ?_
  cases e with
  | lst es =>
    obtain ⟨⟨h1, h2⟩, rfl⟩ := ite_of g
    exact .inl ⟨d.py, D.pys es, dx.dp o.ex d x (okEq_of h1).1, dy.dp o.ex (.lst es) y (okEq_of h2).1, (okEq_of h1).2, (okEq_of h2).2, k _ C H (Tr.refl o) (dn_bl.mpr rfl)⟩
  | tup es =>
    obtain ⟨⟨h1, h2⟩, rfl⟩ := ite_of g
    exact .inr ⟨d.py, D.pys es, dx.dp o.ex d x (okEq_of h1).1, dy.dp o.ex (.tup es) y (okEq_of h2).1, (okEq_of h1).2, (okEq_of h2).2, k _ C H (Tr.refl o) (dn_bl.mpr rfl)⟩
  | _ => cases g
/-! ### three keywords, the other way round -/
def sw3 {α : Type} : List α → List α
  | [a, b, c] => [c, b, a]
  | l => l
theorem Fun.kwbR {K : PySem.W.Frag} {x qual : Str} {st : Stmt} {f : Addr} {fd : FuncData} {ps ks : List Str} (F : Fun K x qual st f fd) (h2 : ks.length = 3)
    (h : ∀ (kV doc pm : Value) (an : Option Addr) (cdv ct : Value) (v u t : Value), bindArgs (PySem.W.fnOf x qual (defArgs st) (defBody st) (defScope st) .none kV doc pm an cdv ct) ⟨[], ks.zip [v, u, t]⟩ = pure (ps.zip [t, u, v])) : KwB K fd ps ks sw3 sw3 := by
  obtain ⟨oc, od, kV, doc, pm, an, cdv, ct, osl, rfl, lk, hcd⟩ := F.ex
  refine ⟨fun s ws _ hl _ => ?_, fun {zs ws} r => ?_⟩
  · rw [h2] at hl
    match ws, hl with
    | [v, u, t], _ => exact .of_eq (h kV doc pm an cdv ct v u t)
  · match zs, ws, r with
    | _, _, .nil => exact .nil
    | _, _, .cons a .nil => exact .cons a .nil
    | _, _, .cons a (.cons b .nil) => exact .cons a (.cons b .nil)
    | _, _, .cons a (.cons b (.cons c .nil)) => exact .cons c (.cons b (.cons a .nil))
    | _, _, .cons a (.cons b (.cons c (.cons d r))) => exact .cons a (.cons b (.cons c (.cons d r)))
structure KnR (P : Program) (w : World) (K : PySem.W.Frag) (mg : Str → Option Value) (base : Heap) (x : Str) (k : Nat) (ps ks : List Str) (sp : SpD) : Prop where
  ex : ∃ (f : Addr) (fd : FuncData), FnD P w K mg base k f fd ps sp ∧ PySem.W.keepIn K (.ref f) = true ∧ mg x = some (.ref f) ∧ KwB K fd ps ks sw3 sw3
theorem KnR.says {P : Program} {w : World} {K : PySem.W.Frag} {mg : Str → Option Value} {base : Heap} {x : Str} {k : Nat} {ps ks : List Str} {sp sp' : SpD} (F : KnR P w K mg base x k ps ks sp) (h : ∀ ds T, sp' ds T → sp ds T) : KnR P w K mg base x k ps ks sp' := by
  obtain ⟨f, fd, a, b⟩ := F.ex
  exact ⟨f, fd, a.says h, b⟩
def mCallR (sp : SpD) (m : MA) : ME := fun env Q => m env fun ds => ds.length = 3 ∧ ∃ T : D → Prop, sp (sw3 ds) T ∧ ∀ d, T d → Q d
theorem pd_callNR {j k : Nat} {ps ks : List Str} {sp : SpD} {x : Str} {p : Pos} {kws : List Keyword} {m : MA} (G : KnR X.prog X.w X.K X.mg X.base x j ps ks sp) (hr : Room k X.A) (hj : j ≤ k) (hgd : X.A.guards = some []) (h : PDK X kws m) (h2 : ks.length = 3 := by rfl)
    (hall : (backToKw pos (keywordEach kws X.env)).all (·.1.isSome) = true := by rfl) (hks : (backToKw pos (keywordEach kws X.env)).filterMap (·.1) = ks := by rfl) (hg : Gl X x := by rfl) (hdb : (x == ("__debug__" : Str)) = false := by decide)
    (hpl : ((backTo pos (starEach [] X.env)).any (·.1) || (backToKw pos (keywordEach kws X.env)).any (·.1.isNone)) = false := by rfl) : PD X (.Call (.Name x p) [] kws pos) (mCallR sp m) := by
  obtain ⟨f, fd, F, kp, gm, kb⟩ := G.ex
  refine ⟨pe_imp (pe_callGK F (hr.mono hj) hgd hg gm kp kb pass0 h.run hall hks hdb hpl) fun σ H Q q => ?_, fun env Q Q' i q => h.mono env _ _ (fun ds ⟨a, T, q, k⟩ => ⟨a, T, q, fun d hT => i d (k d hT)⟩) q⟩
  obtain ⟨z, C, env, o, r, q⟩ := q
  refine liftA_use h.mono o r q fun ds vs C' H' ⟨hl, p⟩ t dn => ?_
  match ds, hl with
  | [d, e, g], _ =>
    obtain ⟨v, r1, e1, e2, e3⟩ := dns_cons.mp dn
    obtain ⟨w, u, f1, f2, f3⟩ := dns2 e3
    subst f1
    subst e1
    refine ⟨by rw [h2]; rfl, ?_⟩
    show liftF X.K sp [u, w, v] H' Q E0
    exact call_use t (dns_cons.mpr ⟨u, [w, v], rfl, f3, dns_cons.mpr ⟨w, [v], rfl, f2, Dns.one e2⟩⟩) p
end
end BV

/-! e not in a dict, as a test; several own things at once by way of a tuple (cells). -/
namespace BV
open PySem PySem.Spec PyProof.Rows L2 Evl
section
variable {X : Cx} {pos : Pos} {e o : Expr} {me mo : ME}
theorem pdt_din (hu : X.A.units + 64 < cLine) (he : PD X e me) (ho : PD X o mo) (h1 : behindInMarks .In o = false := by rfl) : PDT X (.Compare e [.In] [o] pos) (tBl (mDin false me mo)) :=
  ⟨pt_imp (pt_cmp (pc_din (by omega) he.run ho.run) h1) fun σ H Q q => din_use (neg := false) ho.mono he.mono (lift_bl (mono_din ho.mono he.mono) q), mono_bl (mono_din ho.mono he.mono)⟩
theorem pdt_dnotin (hu : X.A.units + 64 < cLine) (he : PD X e me) (ho : PD X o mo) (h1 : behindInMarks .NotIn o = false := by rfl) : PDT X (.Compare e [.NotIn] [o] pos) (tBl (mDin true me mo)) :=
  ⟨pt_imp (pt_cmp (pc_dnotin (by omega) he.run ho.run) h1) fun σ H Q q => din_use (neg := true) ho.mono he.mono (lift_bl (mono_din ho.mono he.mono) q), mono_bl (mono_din ho.mono he.mono)⟩
theorem pds_ttLD (i j : Nat) {tg : Expr} {p1 p2 pt2 : Pos} {k2 : Nat} (hg : PG X tg ((Tgt.tp [i, j]).g X.K)) (hs : swapsWithSole [tg] (.Tuple [.List [] p1, .Dict [] [] p2] k2 pt2) pos.line X.env = pure false := by rfl)
    (hw : swappedStores [tg] (.Tuple [.List [] p1, .Dict [] [] p2] k2 pt2) X.env = pure none := by rfl) (h3 : (assignEach [tg] X.env).map (·.2) = [assign tg X.env] := by rfl)
    (sa : starEach [.List [] p1, .Dict [] [] p2] X.env = (false, eval (.List [] p1) X.env) :: starEach [.Dict [] [] p2] X.env := by rfl) (sb : starEach [.Dict [] [] p2] X.env = (false, eval (.Dict [] [] p2) X.env) :: starEach [] X.env := by rfl) :
    PDS X (.Assign [tg] (.Tuple [.List [] p1, .Dict [] [] p2] k2 pt2) pos) (mNewLD i j) := by
  refine ⟨fun z C0 H0 Cb => ps_imp (ps_asg (pe_tup (pa_cons (pe_lst pa_nil) (pa_cons pe_dnewK pa_nil sb) sa)) hg hs hw h3) fun N σ H ⟨C, env, s, q⟩ => ?_, fun E E' env l q => l.nx _ q⟩
  refine ⟨Nat.zero_le _, fun p hp q' hq => ⟨by rw [sizeLine_eq]; show 2 ≤ _; decide, fun r' hr => ?_⟩⟩
  have t1 : Tr z C H C (upd H p (.lst [])) := Tr.ext s.tr.ok (Ex.new hp)
  have t2 : Tr z C (upd H p (.lst [])) C (upd (upd H p (.lst [])) q' (.dK [])) := Tr.ext t1.ok (Ex.new hq)
  have t3 : Tr z C (upd (upd H p (.lst [])) q' (.dK [])) C (upd (upd (upd H p (.lst [])) q' (.dK [])) r' (.tup [.ref p, .ref q'])) := Tr.ext t2.ok (Ex.new hr)
  have hpq : p ≠ q' := fun e => by rw [← e, upd_same] at hq; cases hq
  have hqr : q' ≠ r' := fun e => by rw [← e, upd_same] at hr; cases hr
  have hr1 : upd H p (.lst []) r' = none := by rw [upd_ne (Ne.symm hqr)] at hr; exact hr
  have hpr : p ≠ r' := fun e => by rw [← e, upd_same] at hr1; cases hr1
  have hq0 : H q' = none := by rw [upd_ne (Ne.symm hpq)] at hq; exact hq
  have s3 := ((s.next t1).next t2).next t3
  refine ⟨r', [.ref p, .ref q'], rfl, st_of upd_same, rfl, .ref p, [.ref q'], rfl, .ref q', [], rfl, rfl, q _ C _ ?_⟩
  exact (s3.setOwn i (fresh_back s.tr.ok.ex hp) (by rw [upd_ne hpr, upd_ne hpq]; exact upd_same) (dns_nil.mpr rfl) (s.tr.free hp) (s.fresh hp)).setOwnU (d := dicOf []) j (fresh_back s.tr.ok.ex hq0) (by rw [upd_ne hqr]; exact upd_same) (hl_dicOf.mpr ⟨[], rfl, rfl⟩) (s.tr.free hq0) (ne_set (s.fresh hq0) hpq)
theorem pds_ttDLL (i j l : Nat) {tg : Expr} {p1 p2 p3 pt2 : Pos} {k2 : Nat} (hg : PG X tg ((Tgt.tp [i, j, l]).g X.K)) (hs : swapsWithSole [tg] (.Tuple [.Dict [] [] p1, .List [] p2, .List [] p3] k2 pt2) pos.line X.env = pure false := by rfl)
    (hw : swappedStores [tg] (.Tuple [.Dict [] [] p1, .List [] p2, .List [] p3] k2 pt2) X.env = pure none := by rfl) (h3 : (assignEach [tg] X.env).map (·.2) = [assign tg X.env] := by rfl)
    (sa : starEach [.Dict [] [] p1, .List [] p2, .List [] p3] X.env = (false, eval (.Dict [] [] p1) X.env) :: starEach [.List [] p2, .List [] p3] X.env := by rfl) (sb : starEach [.List [] p2, .List [] p3] X.env = (false, eval (.List [] p2) X.env) :: starEach [.List [] p3] X.env := by rfl)
    (sc : starEach [.List [] p3] X.env = (false, eval (.List [] p3) X.env) :: starEach [] X.env := by rfl) :
    PDS X (.Assign [tg] (.Tuple [.Dict [] [] p1, .List [] p2, .List [] p3] k2 pt2) pos) (mNewDLL i j l) := by
  refine ⟨fun z C0 H0 Cb => ps_imp (ps_asg (pe_tup (pa_cons pe_dnewK (pa_cons (pe_lst pa_nil) (pa_cons (pe_lst pa_nil) pa_nil sc) sb) sa)) hg hs hw h3) fun N σ H ⟨C, env, s, q⟩ => ?_, fun E E' env l q => l.nx _ q⟩
  refine fun p hp => ⟨Nat.zero_le _, fun q' hq => ⟨Nat.zero_le _, fun r' hr => ⟨by rw [sizeLine_eq]; show 3 ≤ _; decide, fun u' hu' => ?_⟩⟩⟩
  have t1 : Tr z C H C (upd H p (.dK [])) := Tr.ext s.tr.ok (Ex.new hp)
  have t2 : Tr z C (upd H p (.dK [])) C (upd (upd H p (.dK [])) q' (.lst [])) := Tr.ext t1.ok (Ex.new hq)
  have t3 : Tr z C (upd (upd H p (.dK [])) q' (.lst [])) C (upd (upd (upd H p (.dK [])) q' (.lst [])) r' (.lst [])) := Tr.ext t2.ok (Ex.new hr)
  have t4 : Tr z C (upd (upd (upd H p (.dK [])) q' (.lst [])) r' (.lst [])) C (upd (upd (upd (upd H p (.dK [])) q' (.lst [])) r' (.lst [])) u' (.tup [.ref p, .ref q', .ref r'])) := Tr.ext t3.ok (Ex.new hu')
  have hpq : p ≠ q' := fun e => by rw [← e, upd_same] at hq; cases hq
  have hqr : q' ≠ r' := fun e => by rw [← e, upd_same] at hr; cases hr
  have hr1 : upd H p (.dK []) r' = none := by rw [upd_ne (Ne.symm hqr)] at hr; exact hr
  have hpr : p ≠ r' := fun e => by rw [← e, upd_same] at hr1; cases hr1
  have hq0 : H q' = none := by rw [upd_ne (Ne.symm hpq)] at hq; exact hq
  have hr0 : H r' = none := by rw [upd_ne (Ne.symm hpr)] at hr1; exact hr1
  have hru : r' ≠ u' := fun e => by rw [← e, upd_same] at hu'; cases hu'
  have hu1 : upd (upd H p (.dK [])) q' (.lst []) u' = none := by rw [upd_ne (Ne.symm hru)] at hu'; exact hu'
  have hqu : q' ≠ u' := fun e => by rw [← e, upd_same] at hu1; cases hu1
  have hu2 : upd H p (.dK []) u' = none := by rw [upd_ne (Ne.symm hqu)] at hu1; exact hu1
  have hpu : p ≠ u' := fun e => by rw [← e, upd_same] at hu2; cases hu2
  have s3 := (((s.next t1).next t2).next t3).next t4
  refine ⟨u', [.ref p, .ref q', .ref r'], rfl, st_of upd_same, rfl, .ref p, [.ref q', .ref r'], rfl, .ref q', [.ref r'], rfl, .ref r', [], rfl, rfl, q _ C _ ?_⟩
  exact ((s3.setOwnU (d := dicOf []) i (fresh_back s.tr.ok.ex hp) (by rw [upd_ne hpu, upd_ne hpr, upd_ne hpq]; exact upd_same) (hl_dicOf.mpr ⟨[], rfl, rfl⟩) (s.tr.free hp) (s.fresh hp)).setOwn j (fresh_back s.tr.ok.ex hq0) (by rw [upd_ne hqu, upd_ne hqr]; exact upd_same) (dns_nil.mpr rfl) (s.tr.free hq0) (ne_set (s.fresh hq0) hpq)).setOwn l (fresh_back s.tr.ok.ex hr0) (by rw [upd_ne hru]; exact upd_same) (dns_nil.mpr rfl) (s.tr.free hr0)
    (ne_set (ne_set (s.fresh hr0) hpr) hqr)
end
end BV

/-! Methods of a word without arguments; names of the module that stand for a number. -/
namespace BV
open PySem PySem.Spec PyProof.Rows L2 Evl
section
variable {X : Cx} {o : Expr} {m : ME} {pos apos cpos : Pos}
def mStM (g : Str → D) (m : ME) : ME := fun env Q => m env fun d => ∃ s, d = .str s ∧ Q (g s)
theorem pd_stM {name : Str} {id : String} {g : Str → D} {gv : Str → V} (slot : PySem.Slot "str" name id) (hty : typeOf (.builtin id) = pure (.type "method_descriptor")) (hm : MtR X id (fun x xs H Q => ∃ a, x = .str a ∧ xs = [] ∧ True ∧ Q (gv a) H))
    (hg : ∀ (C : Hp) (p : Addr) (s : Str), Dn X.K C p (g s) (gv s)) (ho : PD X o m) (h1 : attributeBase o name X.env (eval o X.env) = eval o X.env := by rfl) (h2 : (apos.endLine == cpos.line) = true := by rfl) : PD X (.Call (.Attribute o name apos) [] [] cpos) (mStM g m) := by
  refine ⟨pe_imp (pe_bm0 PySem.F.plainAttrs_str slot hty hm ho.run h1 h2) fun σ H Q q => ?_, fun env Q Q' i q => ho.mono _ _ _ (fun d ⟨s, e, q⟩ => ⟨s, e, i _ q⟩) q⟩
  obtain ⟨z, C, env, o', r, q⟩ := q
  refine lift_use ho.mono o' r q fun d v C' H' ⟨s, e, p⟩ t dn => ?_
  subst e
  rw [dn_str.mp dn]
  exact ⟨by first | rfl | trivial | exact .inl ⟨rfl, _, rfl⟩ | simp [tyV], s, rfl, rfl, trivial, p (gv s) C' H' t (hg _ _ _)⟩
theorem pd_isascii (ho : PD X o m) (h1 : attributeBase o "isascii" X.env (eval o X.env) = eval o X.env := by rfl) (h2 : (apos.endLine == cpos.line) = true := by rfl) : PD X (.Call (.Attribute o "isascii" apos) [] [] cpos) (mStM (fun s => .bl (Txt.isascii s)) m) :=
  pd_stM PySem.F.slot_str_isascii PySem.F.type_str_isascii (gv := fun s => .bl (Txt.isascii s)) mt_isascii (fun _ _ _ => dn_bl.mpr rfl) ho h1 h2
theorem pd_islower (ho : PD X o m) (h1 : attributeBase o "islower" X.env (eval o X.env) = eval o X.env := by rfl) (h2 : (apos.endLine == cpos.line) = true := by rfl) : PD X (.Call (.Attribute o "islower" apos) [] [] cpos) (mStM (fun s => .bl (Txt.islower s)) m) :=
  pd_stM PySem.F.slot_str_islower PySem.F.type_str_islower (gv := fun s => .bl (Txt.islower s)) mt_islower (fun _ _ _ => dn_bl.mpr rfl) ho h1 h2
theorem pd_isalpha (ho : PD X o m) (h1 : attributeBase o "isalpha" X.env (eval o X.env) = eval o X.env := by rfl) (h2 : (apos.endLine == cpos.line) = true := by rfl) : PD X (.Call (.Attribute o "isalpha" apos) [] [] cpos) (mStM (fun s => .bl (Txt.isalpha s)) m) :=
  pd_stM PySem.F.slot_str_isalpha PySem.F.type_str_isalpha (gv := fun s => .bl (Txt.isalpha s)) mt_isalpha (fun _ _ _ => dn_bl.mpr rfl) ho h1 h2
theorem pd_isdigit (ho : PD X o m) (h1 : attributeBase o "isdigit" X.env (eval o X.env) = eval o X.env := by rfl) (h2 : (apos.endLine == cpos.line) = true := by rfl) : PD X (.Call (.Attribute o "isdigit" apos) [] [] cpos) (mStM (fun s => .bl (Txt.isdigit s)) m) :=
  pd_stM PySem.F.slot_str_isdigit PySem.F.type_str_isdigit (gv := fun s => .bl (Txt.isdigit s)) mt_isdigit (fun _ _ _ => dn_bl.mpr rfl) ho h1 h2
/-- a name of the module that stands for a number -/
theorem pd_gint {x : Str} {n : Int} (hg : Gl X x) (hm : ∃ u, X.mg x = some u ∧ RelV (.int n) u) (hd : (x == ("__debug__" : Str)) = false := by decide) : PD X (.Name x pos) (mC (.int n)) := by
  obtain ⟨u, h1, h2⟩ := hm
  exact pd_const (pe_glob hg h1 h2 hd) fun _ _ _ => dn_int.mpr rfl
end
end BV

/-! a < b < c on data. -/
namespace BV
open PySem PySem.Spec PyProof.Rows L2 Evl
section
variable {X : Cx} {a b c : Expr} {ma mb mc : ME} {pos : Pos}
def mChain (g g' : D → D → Option D) (ma mb mc : ME) : ME := fun env Q => ma env fun x => mb env fun y => ∃ k, g x y = some (.bl k) ∧ if k = true then mc env fun w => ∃ u, g' y w = some u ∧ Q u else Q (.bl false)
theorem mono_chain {g g' : D → D → Option D} (ha : Mono ma) (hb : Mono mb) (hc : Mono mc) : Mono (mChain g g' ma mb mc) := fun env Q Q' i h =>
  ha env _ _ (fun x h => hb env _ _ (fun y ⟨k, e, h⟩ => ⟨k, e, by
    cases k with
    | true => exact hc env _ _ (fun w ⟨u, e, h⟩ => ⟨u, e, i u h⟩) h
    | false => exact i _ h⟩) h) h
theorem pd_chain {op op' : CmpOp} {g g' : D → D → Option D} (ho : OpD X (compareOp op) g) (ho' : OpD X (compareOp op') g') (ha : PD X a ma) (hb : PD X b mb) (hc : PD X c mc)
    (hm : lastMarks [op, op'] [b, c] = false := by with_unfolding_all rfl) : PD X (.Compare a [op, op'] [b, c] pos) (mChain g g' ma mb mc) := by
  obtain ⟨R, hR, hi⟩ := ho
  obtain ⟨R', hR', hi'⟩ := ho'
  refine ⟨pe_imp (pe_chain hR hR' ha.run hb.run hc.run hm) fun σ H Q q => ?_, mono_chain ha.mono hb.mono hc.mono⟩
  obtain ⟨z, C, env, o, r, q⟩ := q
  refine two (ta := lift X.K ma) (tb := lift X.K mb) o r ha.mono hb.mono q fun x y v u C' H' ⟨k, e, q⟩ t d1 d2 => hi z C' H' x y _ v u _ t.ok d1 d2 e fun v' C2 H2 t2 dn => ⟨k, dn_bl.mp dn, ?_⟩
  cases k with
  | false => exact (if_neg (by decide) : (if false = true then _ else _) = _) ▸ q (.bl false) C2 H2 (t.trans t2) (dn_bl.mpr rfl)
  | true =>
    rw [if_pos rfl] at q ⊢
    exact lift_use hc.mono t2.ok (r.mono (t.trans t2).cc) q fun d v'' C3 H3 ⟨u', e', p⟩ t3 d3 => hi' z C3 H3 y d u' u v'' Q t3.ok (d2.mono (t2.trans t3).cc) d3 e' fun v4 C4 H4 t4 dn4 => p v4 C4 H4 (((t.trans t2).trans t3).trans t4) dn4
theorem pdt_chain {op op' : CmpOp} {g g' : D → D → Option D} (ho : OpD X (compareOp op) g) (ho' : OpD X (compareOp op') g') (ha : PD X a ma) (hb : PD X b mb) (hc : PD X c mc)
    (hm : lastMarks [op, op'] [b, c] = false := by with_unfolding_all rfl) : PDT X (.Compare a [op, op'] [b, c] pos) (tBl (mChain g g' ma mb mc)) := by
  obtain ⟨R, hR, hi⟩ := ho
  obtain ⟨R', hR', hi'⟩ := ho'
  refine ⟨pt_imp (pt_chain hR hR' ha.run hb.run hc.run hm) fun σ H Q q => ?_, mono_bl (mono_chain ha.mono hb.mono hc.mono)⟩
  obtain ⟨z, C, env, o, r, q⟩ := q
  refine two (ta := lift X.K ma) (tb := lift X.K mb) o r ha.mono hb.mono q fun x y v u C' H' ⟨k, e, q⟩ t d1 d2 => hi z C' H' x y _ v u _ t.ok d1 d2 e fun v' C2 H2 t2 dn => ⟨k, dn_bl.mp dn, ?_⟩
  cases k with
  | false =>
    rw [if_neg (by decide)] at q ⊢
    obtain ⟨j, e, q⟩ := q
    exact ⟨j, by cases e; rfl, q C2 H2 (t.trans t2)⟩
  | true =>
    rw [if_pos rfl] at q ⊢
    exact lift_use hc.mono t2.ok (r.mono (t.trans t2).cc) q fun d v'' C3 H3 ⟨u', e', j, e2, p⟩ t3 d3 => hi' z C3 H3 y d u' u v'' _ t3.ok (d2.mono (t2.trans t3).cc) d3 e' fun v4 C4 H4 t4 dn4 => ⟨j, dn_bl.mp (e2 ▸ dn4), p C4 H4 (((t.trans t2).trans t3).trans t4)⟩
end
end BV

/-! x.partition(s); a, b, .. = a tuple. -/
namespace BV
open PySem PySem.Spec PyProof.Rows L2 Evl
section
variable {X : Cx} {pins : List (Addr × Obj)} {σ : L2.St} {H : Hp} {s : Shared} {Q : VK}
theorem laid_partsF {x y z : Str} {t u v : Tok} {k : Nat} (I : Inv X pins σ H s) (h : ∀ p ob, ob.dict = none → H p = none → Q (.ref p) (upd H p (.frz ob (.tup [.str x, .str y, .str z])))) :
    EP X pins σ Q (.ref s.heap.objs.size) { s with toks := k, heap := s.heap.push { cls := .type "tuple", data := .seq [Value.str x t, .str y u, .str z v].toArray } } := by
  have hp := I.hok.fresh (Nat.le_refl _)
  refine ⟨.ref s.heap.objs.size, upd H s.heap.objs.size (.frz { cls := .type "tuple", data := .seq [Value.str x t, .str y u, .str z v].toArray } (.tup [.str x, .str y, .str z])), I.laid (fun b u q => Heap.get?_push_of_some _ q) (Nat.le_refl _) ?_, rfl, h _ _ rfl hp⟩
  exact ⟨Heap.get?_push_size _ rfl, by show 3 ≤ sizeLine; decide, [Value.str x t, .str y u, .str z v], .cons ⟨t, rfl⟩ (.cons ⟨u, rfl⟩ (.cons ⟨v, rfl⟩ .nil)), ⟨_, Heap.get?_push_size _ rfl, rfl, _, rfl⟩⟩
theorem mt_partitionF : MtR X "str.partition" (fun x xs H Q => ∃ a b, x = .str a ∧ xs = [.str b] ∧ (b.length == 0) = false ∧ a.length ≤ sizeLine ∧
    ∀ p ob, ob.dict = none → H p = none → Q (.ref p) (upd H p (.frz ob (.tup [.str (Txt.partition a b).1, .str (Txt.partition a b).2.1, .str (Txt.partition a b).2.2])))) := by
  intro pins s σ H x xs v us Q I rx rs h
  obtain ⟨a, b, rfl, rfl, hb, hz, h⟩ := h
  obtain ⟨t, rfl⟩ := rx
  cases rs with
  | cons r1 rs =>
    cases rs
    obtain ⟨u, rfl⟩ := r1
    refine call_meets PySem.F.slot_str_partition (typeIs_str _ _ _) PySem.F.entry_str_partition (PySem.F.args_str_partition_2 _ _) (meets_str_partition a b t u hb hz) ?_
    unfold Txt.partition at h
    revert h
    cases Builtin.Str.occurrences a b 0 a.length 1 with
    | nil => intro h; exact laid_partsF I h
    | cons i r => intro h; exact laid_partsF I h
end
section
variable {X : Cx} {o e : Expr} {mo me : ME} {pos apos cpos : Pos}
def mPart (mo me : ME) : ME := fun env Q => mo env fun d => ∃ a, d = .str a ∧ me env fun d' => ∃ b, d' = .str b ∧ (b.length == 0) = false ∧ szOk a.length = true ∧ Q (.tup [.str (Txt.partition a b).1, .str (Txt.partition a b).2.1, .str (Txt.partition a b).2.2])
theorem pd_partition (ho : PD X o mo) (he : PD X e me) (h1 : attributeBase o "partition" X.env (eval o X.env) = eval o X.env := by rfl)
    (h2 : ((((backTo cpos (starEach [e] X.env)).all fun x => !x.1) && ((backToKw cpos (keywordEach [] X.env)).all fun x => x.1.isSome) && decide (([e] : List Expr).length + ([] : List Keyword).length + (if ([] : List Keyword).isEmpty = true then 0 else 1) < 30)) = true) := by rfl)
    (h3 : (apos.endLine == cpos.line) = true := by rfl) (h4 : starEach [e] X.env = (false, eval e X.env) :: starEach [] X.env := by rfl) (h5 : ((backTo cpos (starEach [] X.env)).any fun x => x.1) = false := by rfl) :
    PD X (.Call (.Attribute o "partition" apos) [e] [] cpos) (mPart mo me) := by
  refine ⟨pe_imp (pe_bm PySem.F.plainAttrs_str PySem.F.slot_str_partition PySem.F.type_str_partition mt_partitionF ho.run (pa_cons he.run pa_nil h4) h1 h2 h3 h4 h5) fun σ H Q q => ?_,
    fun env Q Q' i q => ho.mono _ _ _ (fun d ⟨a, e1, q⟩ => ⟨a, e1, he.mono _ _ _ (fun d' ⟨b, e2, e3, e4, q⟩ => ⟨b, e2, e3, e4, i _ q⟩) q⟩) q⟩
  obtain ⟨z, C, env, o', r, q⟩ := q
  refine lift_use ho.mono o' r q fun d v C' H' ⟨a, e1, q⟩ t dn => ?_
  subst e1
  rw [dn_str.mp dn]
  refine ⟨rfl, lift_use he.mono t.ok (r.mono t.cc) q fun d' v' C2 H2 ⟨b, e2, e3, e4, p⟩ t2 dn2 => ?_⟩
  subst e2
  exact ⟨a, b, rfl, by rw [dn_str.mp dn2], e3, sz_ok e4, fun p' ob hd hp => p _ _ _ ((t.trans t2).trans (Tr.put t2.ok hp)) (dn_new_tup (dns_cons.mpr ⟨_, _, rfl, dn_str.mpr rfl, dns_cons.mpr ⟨_, _, rfl, dn_str.mpr rfl, dns_cons.mpr ⟨_, _, rfl, dn_str.mpr rfl, dns_nil.mpr rfl⟩⟩⟩) (fresh_back t2.ok.ex hp) hd)⟩
/-- a, b, .. = a tuple -/
def mAsgTT (rs : List Nat) (is : List Nat) (me : ME) : MS := fun E env => me (view rs 0 env) fun d => ∃ ds env', d = .tup ds ∧ ds.length = is.length ∧ setsE shd is ds (aft rs d env) = some env' ∧ E.nx env'
theorem pds_asgTT (rs : List Nat) {is : List Nat} {es : List Expr} {kt : Nat} {tp : Pos} {e : Expr} {me : ME} (hc : X.calm = true) (h : PD X e me) (hg : PGs X es (gNs is)) (hn : (assignEach es X.env).length = is.length := by rfl) (hst : (assignEach es X.env).findIdx? (·.1) = none := by rfl)
    (hs : swapsWithSole [.Tuple es kt tp] e pos.line X.env = pure false := by rfl) (hw : swappedStores [.Tuple es kt tp] e X.env = pure none := by rfl)
    (h1 : (assignEach [.Tuple es kt tp] X.env).map (·.2) = [assign (.Tuple es kt tp) X.env] := by rfl) : PDS X (.Assign [.Tuple es kt tp] e pos) (mAsgTT rs is me) := by
  refine ⟨fun z C0 H0 Cb => ps_imp (ps_asg h.run (pg_tup hc hg hn hst) hs hw h1) fun N σ H ⟨C, env, s, q⟩ => ?_, fun E E' env l q => h.mono _ _ _ (fun d ⟨ds, env', a, b, c, q⟩ => ⟨ds, env', a, b, c, l.nx _ q⟩) q⟩
  refine s.use rs h.mono q fun d v C' H' ⟨ds, env', e1, e2, g, p⟩ s' dn => ?_
  subst e1
  obtain ⟨a, xs, rfl, ha, dns⟩ := dn_tupP.mp dn
  exact ⟨a, xs, rfl, (ex_p s'.tr.ok.ex ha).t, by rw [dns.len, e2], s'.sets dns g fun σ' s2 => p _ C' H' s2⟩
end
end BV

/-! x.split(s); {} as a value. -/
namespace BV
open PySem PySem.Spec PyProof.Rows L2 Evl
theorem dns_strsL {K : PySem.W.Frag} {C : Hp} {p : Addr} : ∀ l : List Str, Dns K C p (l.map D.str) (l.map V.str)
  | [] => dns_nil.mpr rfl
  | s :: l => dns_cons.mpr ⟨_, _, rfl, dn_str.mpr rfl, dns_strsL l⟩
section
variable {X : Cx} {o e : Expr} {mo me : ME} {pos apos cpos : Pos}
def mSplit (mo me : ME) : ME := fun env Q => mo env fun d => ∃ a, d = .str a ∧ me env fun d' => ∃ b, d' = .str b ∧ (b.length == 0) = false ∧ szOk (a.length + 2) = true ∧ Q (.lst ((Txt.split a b).map D.str))
theorem pd_split (ho : PD X o mo) (he : PD X e me) (h1 : attributeBase o "split" X.env (eval o X.env) = eval o X.env := by rfl)
    (h2 : ((((backTo cpos (starEach [e] X.env)).all fun x => !x.1) && ((backToKw cpos (keywordEach [] X.env)).all fun x => x.1.isSome) && decide (([e] : List Expr).length + ([] : List Keyword).length + (if ([] : List Keyword).isEmpty = true then 0 else 1) < 30)) = true) := by rfl)
    (h3 : (apos.endLine == cpos.line) = true := by rfl) (h4 : starEach [e] X.env = (false, eval e X.env) :: starEach [] X.env := by rfl) (h5 : ((backTo cpos (starEach [] X.env)).any fun x => x.1) = false := by rfl) :
    PD X (.Call (.Attribute o "split" apos) [e] [] cpos) (mSplit mo me) := by
  refine ⟨pe_imp (pe_bm PySem.F.plainAttrs_str PySem.F.slot_str_split PySem.F.type_str_split mt_split ho.run (pa_cons he.run pa_nil h4) h1 h2 h3 h4 h5) fun σ H Q q => ?_,
    fun env Q Q' i q => ho.mono _ _ _ (fun d ⟨a, e1, q⟩ => ⟨a, e1, he.mono _ _ _ (fun d' ⟨b, e2, e3, e4, q⟩ => ⟨b, e2, e3, e4, i _ q⟩) q⟩) q⟩
  obtain ⟨z, C, env, o', r, q⟩ := q
  refine lift_use ho.mono o' r q fun d v C' H' ⟨a, e1, q⟩ t dn => ?_
  subst e1
  rw [dn_str.mp dn]
  refine ⟨rfl, lift_use he.mono t.ok (r.mono t.cc) q fun d' v' C2 H2 ⟨b, e2, e3, e4, p⟩ t2 dn2 => ?_⟩
  subst e2
  exact ⟨a, b, rfl, by rw [dn_str.mp dn2], e3, sz_ok e4, fun p' hp => p _ _ _ ((t.trans t2).trans (Tr.put t2.ok hp)) (dn_new_lst (dns_strsL _) (fresh_back t2.ok.ex hp))⟩
/-- {} -/
theorem pd_dnew : PD X (.Dict [] [] pos) (mC (dicOf [])) := by
  refine ⟨pe_imp pe_dnewK fun σ H Q q => ?_, fun env Q Q' i q => i _ q⟩
  obtain ⟨z, C, env, o, r, q⟩ := q
  exact fun p hp => q (.ref p) _ _ (Tr.put o hp) (dn_dicOf.mpr ⟨p, [], rfl, upd_same, rfl⟩)
end
end BV

/-! all(xs), any(xs), sum(xs) of a list; abs(i), max(i, j). -/
namespace BV
open PySem PySem.Spec PyProof.Rows L2 Evl
def bools : List D → Option (List Bool)
  | [] => some []
  | .bl b :: r => (bools r).map (b :: ·)
  | _ :: _ => none
theorem dns_bools {K : PySem.W.Frag} {C : Hp} {p : Addr} : ∀ {ds : List D} {bs : List Bool} {xs : List V}, bools ds = some bs → Dns K C p ds xs → xs = bs.map V.bl
  | [], bs, xs, h, dn => by cases h; exact dns_nil.mp dn
  | .bl b :: r, bs, xs, h, dn => by
    obtain ⟨bs', h1, rfl⟩ := Option.map_eq_some_iff.mp h
    obtain ⟨v, ys, rfl, d1, d2⟩ := dns_cons.mp dn
    rw [dn_bl.mp d1, dns_bools h1 d2]
    rfl
theorem bools_map {α : Type} (f : α → Bool) : ∀ l : List α, bools (l.map fun x => D.bl (f x)) = some (l.map f)
  | [] => rfl
  | a :: l => by show (bools (l.map fun x => D.bl (f x))).map _ = _; rw [bools_map f l]; rfl
def intsD : List D → Option (List Int)
  | [] => some []
  | .int b :: r => (intsD r).map (b :: ·)
  | _ :: _ => none
theorem dns_intsD {K : PySem.W.Frag} {C : Hp} {p : Addr} : ∀ {ds : List D} {bs : List Int} {xs : List V}, intsD ds = some bs → Dns K C p ds xs → xs = bs.map V.int
  | [], bs, xs, h, dn => by cases h; exact dns_nil.mp dn
  | .int b :: r, bs, xs, h, dn => by
    obtain ⟨bs', h1, rfl⟩ := Option.map_eq_some_iff.mp h
    obtain ⟨v, ys, rfl, d1, d2⟩ := dns_cons.mp dn
    rw [dn_int.mp d1, dns_intsD h1 d2]
    rfl
theorem ints_map {α : Type} (f : α → Int) : ∀ l : List α, intsD (l.map fun x => D.int (f x)) = some (l.map f)
  | [] => rfl
  | a :: l => by show (intsD (l.map fun x => D.int (f x))).map _ = _; rw [ints_map f l]; rfl
def allD : List D → Option D
  | [.lst ds] => (bools ds).map fun bs => .bl (bs.all id)
  | _ => none
def anyD : List D → Option D
  | [.lst ds] => (bools ds).map fun bs => .bl (bs.any id)
  | _ => none
def sumD : List D → Option D
  | [.lst ds] => (intsD ds).map fun ns => .int ns.sum
  | _ => none
def absD : List D → Option D
  | [.int i] => some (.int (if i < 0 then -i else i))
  | _ => none
def max2D : List D → Option D
  | [.int i, .int j] => some (.int (if j > i then j else i))
  | _ => none
section
variable {X : Cx}
theorem cd_all (hc : X.calm = true) : CallD X (.builtin "all") allD := by
  refine ⟨_, cr_all hc, fun z C H ds u xs Q o dn g k => ?_⟩
  unfold allD at g
  split at g
  · obtain ⟨bs, h1, rfl⟩ := Option.map_eq_some_iff.mp g
    obtain ⟨v, e1, e2⟩ := dns1 dn
    obtain ⟨a, ys, f1, f2, f3⟩ := dn_lst.mp e2
    subst f1
    exact ⟨a, bs, e1, ex_l o.ex (sq_of (by rw [f2, dns_bools h1 f3])), k _ C H (Tr.refl o) (dn_bl.mpr rfl)⟩
  · cases g
theorem cd_any (hc : X.calm = true) : CallD X (.builtin "any") anyD := by
  refine ⟨_, cr_any hc, fun z C H ds u xs Q o dn g k => ?_⟩
  unfold anyD at g
  split at g
  · obtain ⟨bs, h1, rfl⟩ := Option.map_eq_some_iff.mp g
    obtain ⟨v, e1, e2⟩ := dns1 dn
    obtain ⟨a, ys, f1, f2, f3⟩ := dn_lst.mp e2
    subst f1
    exact ⟨a, bs, e1, ex_l o.ex (sq_of (by rw [f2, dns_bools h1 f3])), k _ C H (Tr.refl o) (dn_bl.mpr rfl)⟩
  · cases g
theorem cd_sum (hc : X.calm = true) : CallD X (.builtin "sum") sumD := by
  refine ⟨_, cr_sum hc, fun z C H ds u xs Q o dn g k => ?_⟩
  unfold sumD at g
  split at g
  · obtain ⟨bs, h1, rfl⟩ := Option.map_eq_some_iff.mp g
    obtain ⟨v, e1, e2⟩ := dns1 dn
    obtain ⟨a, ys, f1, f2, f3⟩ := dn_lst.mp e2
    subst f1
    exact ⟨a, bs, e1, ex_l o.ex (sq_of (by rw [f2, dns_intsD h1 f3])), k _ C H (Tr.refl o) (dn_int.mpr rfl)⟩
  · cases g
theorem cd_abs : CallD X (.builtin "abs") absD := by
  refine ⟨_, call_abs, fun z C H ds u xs Q o dn g k => ?_⟩
  unfold absD at g
  split at g
  · cases g
    obtain ⟨v, e1, e2⟩ := dns1 dn
    rw [dn_int.mp e2] at e1
    exact ⟨_, e1, k _ C H (Tr.refl o) (dn_int.mpr rfl)⟩
  · cases g
theorem cd_max2 (hc : X.calm = true) : CallD X (.builtin "max") max2D := by
  refine ⟨_, call_max2 hc, fun z C H ds u xs Q o dn g k => ?_⟩
  unfold max2D at g
  split at g
  · cases g
    obtain ⟨v, ys, rfl, d1, d2⟩ := dns_cons.mp dn
    obtain ⟨v2, e1, e2⟩ := dns1 d2
    rw [dn_int.mp e2] at e1
    rw [dn_int.mp d1, e1]
    exact ⟨_, _, rfl, k _ C H (Tr.refl o) (dn_int.mpr rfl)⟩
  · cases g
end
end BV

/-! repr of data with dicts in it, by value. -/
namespace BV
open PySem PySem.Spec PyProof.Rows L2 Evl

mutual
/-- no purse in it -/
def D.rf : D → Bool
  | .pur => false
  | .lst ds => D.rfs ds
  | .tup ds => D.rfs ds
  | .pr ds => D.rfs ds
  | .dic ks vs => D.rfs vs && decide (ks.length = vs.length)
  | .non => true
  | .bl _ => true
  | .int _ => true
  | .str _ => true
def D.rfs : List D → Bool
  | [] => true
  | d :: ds => D.rf d && D.rfs ds
end
section
variable {X : Cx} {pins : List (Addr × Obj)} {σ : L2.St} {C H : Hp} {s : Shared} {pu : Addr}
/-- what is known of a value to show it -/
def Sh (X : Cx) (s : Shared) (d : PyData) (u : Value) : Prop := (∃ as, Reads s.heap u d as) ∧ ∃ bs, ReadAtMost s.heap d.depth bs ∧ ReprK X.prog X.w bs s.heap d.depth u d.shown
def Shs (X : Cx) (s : Shared) (ds : List PyData) (us : List Value) : Prop := (∃ as, ReadsAll s.heap us ds as) ∧ ∃ bs, ReadAtMost s.heap (PyData.depthAll ds) bs ∧ ReprAllK X.prog X.w bs s.heap (PyData.depthAll ds) us (PyData.shownAll ds)
theorem Shs.nil : Shs X s [] [] := ⟨⟨_, .nil⟩, [], (fun _ h => nomatch h), .nil⟩
theorem Shs.cons {d : PyData} {ds : List PyData} {u : Value} {us : List Value} (h : Sh X s d u) (k : Shs X s ds us) : Shs X s (d :: ds) (u :: us) := by
  obtain ⟨⟨as, r⟩, b1, m1, k1⟩ := h
  obtain ⟨⟨bs, rs⟩, b2, m2, k2⟩ := k
  refine ⟨⟨_, .cons r rs⟩, b1 ++ b2, ?_, ?_⟩
  · exact ReadAtMost.append (m1.mono (by simp only [PyData.depthAll]; omega)) (m2.mono (by simp only [PyData.depthAll]; omega))
  · simp only [PyData.depthAll, PyData.shownAll]
    exact .cons ((k1.more fun b hb => List.mem_append_left _ hb).level_le (Nat.le_max_left _ _)) (k2.more_le (fun b hb => List.mem_append_right _ hb) (Nat.le_max_right _ _))
theorem Sh.leaf {d : PyData} {u : Value} {n : Nat} (r : ∃ as, Reads s.heap u d as) (h1 : d.showable = true) (h2 : d.hasDict = false) (h3 : d.shown.length ≤ sizeLine) : Sh X s d u := by
  obtain ⟨as, r⟩ := r
  exact ⟨⟨as, r⟩, ReprK.of_reads r h1 (PyData.noDict_hsm h2) h3⟩
theorem Sh.lst {a : Addr} {o : Obj} {n : Nat} {us : List Value} {ds : List PyData} (e : s.heap.get? a = some o) (c : o.cls = .type "list") (d : o.data = .seq us.toArray n) (h : Shs X s ds us) : Sh X s (.list ds) (.ref a) := by
  obtain ⟨⟨as, rs⟩, bs, hb, hk⟩ := h
  have r : Reads s.heap (.ref a) (.list ds) _ := .list e c d (by simpa using rs)
  have hna : a ∉ bs := not_mem_of_deeper r (by simp only [PyData.depth]; omega) hb
  refine ⟨⟨_, r⟩, a :: bs, ReadAtMost.cons r (by simp only [PyData.depth]; omega) hb, ?_⟩
  simp only [PyData.depth, PyData.shown]
  cases us with
  | nil =>
    cases rs
    simp only [PyData.shownAll, listText_nil]
    exact ReprK.listEmpty e c d
  | cons x l => exact ReprK.list e c d hna (by simpa using hk.length_eq) (fun i y q => hk.item i y (by simpa using q))
theorem Sh.tup {a : Addr} {o : Obj} {n : Nat} {us : List Value} {ds : List PyData} (e : s.heap.get? a = some o) (c : o.cls = .type "tuple") (d : o.data = .seq us.toArray n) (h : Shs X s ds us) : Sh X s (.tuple ds) (.ref a) := by
  obtain ⟨⟨as, rs⟩, bs, hb, hk⟩ := h
  have r : Reads s.heap (.ref a) (.tuple ds) _ := .tuple e c d (by simpa using rs)
  have hna : a ∉ bs := not_mem_of_deeper r (by simp only [PyData.depth]; omega) hb
  refine ⟨⟨_, r⟩, a :: bs, ReadAtMost.cons r (by simp only [PyData.depth]; omega) hb, ?_⟩
  simp only [PyData.depth, PyData.shown]
  exact ReprK.tuple e c d hna (by simpa using hk)
theorem Sh.dic {a : Addr} {o : Obj} {n : Nat} {es : Array DictEntry} {kvs : List (PyData × PyData)} (e : s.heap.get? a = some o) (c : o.cls = .type "dict") (d : o.data = .dict es n) (hs : (a == sysModules) = false)
    (h : Shs X s (kvs.map (·.1)) (es.toList.map (·.key))) (k : Shs X s (kvs.map (·.2)) (es.toList.map (·.val))) : Sh X s (.dict kvs) (.ref a) := by
  obtain ⟨⟨a1, r1⟩, b1, m1, k1⟩ := h
  obtain ⟨⟨a2, r2⟩, b2, m2, k2⟩ := k
  have r : Reads s.heap (.ref a) (.dict kvs) _ := .dict e c d r1 r2
  have hb : ReadAtMost s.heap (PyData.depthKv kvs) (b1 ++ b2) := (m1.mono (PyData.depthAll_keys_le kvs)).append (m2.mono (PyData.depthAll_vals_le kvs))
  have hna : a ∉ b1 ++ b2 := not_mem_of_deeper r (by simp only [PyData.depth]; omega) hb
  refine ⟨⟨_, r⟩, a :: (b1 ++ b2), ReadAtMost.cons r (by simp only [PyData.depth]; omega) hb, ?_⟩
  simp only [PyData.depth, PyData.shown, PyData.shownKv_eq]
  exact ReprK.dict e c d hs hna (ReprEntriesK.of_two es.toList _ _ (k1.more_le (fun b hb => List.mem_append_left _ hb) (PyData.depthAll_keys_le kvs)) (k2.more_le (fun b hb => List.mem_append_right _ hb) (PyData.depthAll_vals_le kvs)))
theorem map_fst_zip {α β : Type} : ∀ {l : List α} {m : List β}, l.length = m.length → (l.zip m).map (·.1) = l ∧ (l.zip m).map (·.2) = m
  | [], [], _ => ⟨rfl, rfl⟩
  | a :: l, b :: m, h => by
    have := map_fst_zip (l := l) (m := m) (by simpa using h)
    simp [this]
  | [], b :: m, h => by simp at h
  | a :: l, [], h => by simp at h
/-- the keys -/
theorem sh_keys {P : Program} {w : World} : ∀ {es : List DictEntry} {vs : List (L2.Key × Value)}, Pairs (mixKind P w) es vs → (∀ t ∈ PyData.shownAll ((vs.map (·.1)).map keyPy), t.length ≤ sizeLine) → PyData.showableAll ((vs.map (·.1)).map keyPy) = true → Shs X s ((vs.map (·.1)).map keyPy) (es.map (·.key))
  | [], [], _, _, _ => Shs.nil
  | e :: es, kv :: vs, h, hz, hs => by
    cases h with
    | cons h1 h2 h3 =>
      have hs' : (keyPy kv.1).showable = true ∧ PyData.showableAll ((vs.map (·.1)).map keyPy) = true := by simpa [PyData.showableAll] using hs
      refine Shs.cons (d := keyPy kv.1) ?_ (sh_keys h3 (fun t ht => hz t (by simp only [List.map_cons, PyData.shownAll]; exact List.mem_cons_of_mem _ ht)) hs'.2)
      have hz1 := hz (keyPy kv.1).shown (by simp only [List.map_cons, PyData.shownAll]; exact List.mem_cons_self ..)
      rcases keyIs_shape h1 with ⟨i, t, e1, e2⟩ | ⟨x, t, e1, e2⟩
      · show Sh X s (keyPy kv.1) e.key
        rw [e1, e2]
        rw [e1] at hs' hz1
        exact Sh.leaf (n := 0) ⟨_, .int i t⟩ hs'.1 rfl hz1
      · show Sh X s (keyPy kv.1) e.key
        rw [e1, e2]
        rw [e1] at hs' hz1
        exact Sh.leaf (n := 0) ⟨_, .str x t⟩ hs'.1 rfl hz1
  | [], kv :: vs, h, _, _ => by cases h
  | e :: es, [], h, _, _ => by cases h
theorem pairs_vals {P : Program} {w : World} : ∀ {es : List DictEntry} {vs : List (L2.Key × Value)}, Pairs (mixKind P w) es vs → es.map (·.val) = vs.map (·.2)
  | [], [], _ => rfl
  | e :: es, kv :: vs, h => by
    cases h with
    | cons h1 h2 h3 => rw [List.map_cons, List.map_cons, h2, pairs_vals h3]
  | [], kv :: vs, h => by cases h
  | e :: es, [], h => by cases h
theorem kv_parts : ∀ {kvs : List (L2.Key × V)} {vs : List (L2.Key × Value)}, KV kvs vs → kvs.map (·.1) = vs.map (·.1) ∧ Vals (kvs.map (·.2)) (vs.map (·.2))
  | [], _, h => by cases h; exact ⟨rfl, .nil⟩
  | p :: kvs, _, h => by
    cases h with
    | cons h1 h2 =>
      obtain ⟨e1, e2⟩ := kv_parts h2
      exact ⟨by rw [List.map_cons, List.map_cons, h1.1, e1], .cons h1.2 e2⟩
mutual
theorem sh_of (I : Inv X pins σ H s) (ex : Ex C H) : ∀ (d : D) (v : V) (u : Value), d.rf = true → d.py.showable = true → d.py.shown.length ≤ sizeLine → Dn X.K C pu d v → RelV v u → Sh X s d.py u
  | .non, v, u, _, h1, h2, dn, r => by
    cases dn_non.mp dn; cases r
    exact Sh.leaf (n := 0) ⟨_, .none⟩ h1 rfl h2
  | .bl b, v, u, _, h1, h2, dn, r => by
    cases dn_bl.mp dn; cases r
    exact Sh.leaf (n := 0) ⟨_, .bool b⟩ h1 rfl h2
  | .int i, v, u, _, h1, h2, dn, r => by
    cases dn_int.mp dn
    obtain ⟨t, rfl⟩ := r
    exact Sh.leaf (n := 0) ⟨_, .int i t⟩ h1 rfl h2
  | .str x, v, u, _, h1, h2, dn, r => by
    cases dn_str.mp dn
    obtain ⟨t, rfl⟩ := r
    exact Sh.leaf (n := 0) ⟨_, .str x t⟩ h1 rfl h2
  | .pur, v, u, h, _, _, _, _ => by simp [D.rf] at h
  | .lst ds, v, u, h, h1, h2, dn, r => by
    obtain ⟨a, xs, e1, e2, e3⟩ := dn_lst.mp dn
    subst e1
    cases r
    obtain ⟨its, rv, ⟨o, n, ho, hc, _, hd⟩, _⟩ := I.list (sq_of (ex _ _ e2))
    have h2' : (listText (PyData.shownAll (D.pys ds))).length ≤ sizeLine := by simpa only [D.py, PyData.shown] using h2
    exact Sh.lst ho hc hd (shs_of I ex ds _ _ (by simpa [D.rf] using h) (by simpa [D.py, PyData.showable] using h1) (fun t ht => Nat.le_trans (listText_mem_le ht) h2') e3 rv)
  | .tup ds, v, u, h, h1, h2, dn, r => by
    obtain ⟨a, xs, e1, e2, e3⟩ := dn_tup dn
    subst e1
    cases r
    obtain ⟨its, rv, ⟨o, ho, hc, n, hd⟩, _⟩ := I.tuple (ex_t ex e2)
    have h2' : (tupleText (PyData.shownAll (D.pys ds))).length ≤ sizeLine := by simpa only [D.py, PyData.shown] using h2
    exact Sh.tup ho hc hd (shs_of I ex ds _ _ (by simpa [D.rf] using h) (by simpa [D.py, PyData.showable] using h1) (fun t ht => Nat.le_trans (tupleText_mem_le ht) h2') e3 rv)
  | .pr ds, v, u, h, h1, h2, dn, r => by
    obtain ⟨a, xs, e1, e2, e3⟩ := dn_pr.mp dn
    subst e1
    cases r
    obtain ⟨its, rv, ⟨o, ho, hc, n, hd⟩, _⟩ := I.tuple (ex_t ex e2)
    have h2' : (tupleText (PyData.shownAll (D.pys ds))).length ≤ sizeLine := by simpa only [D.py, PyData.shown] using h2
    exact Sh.tup ho hc hd (shs_of I ex ds _ _ (by simpa [D.rf] using h) (by simpa [D.py, PyData.showable] using h1) (fun t ht => Nat.le_trans (tupleText_mem_le ht) h2') e3 rv)
  | .dic ks vs, v, u, h, h1, h2, dn, r => by
    obtain ⟨a, kvs, e1, e2, e3, e4⟩ := dn_dic.mp dn
    subst e1
    cases r
    have hr : D.rfs vs = true ∧ ks.length = vs.length := by simpa [D.rf] using h
    obtain ⟨_, hsy, vals, rel, o, es, ep, g1, g2, g3, _, g4, _⟩ := dk_of I.hok (ex _ _ e2)
    obtain ⟨q1, q2⟩ := kv_parts rel
    have hl : (ks.map keyPy).length = (D.pys vs).length := by rw [List.length_map, pys_len]; exact hr.2
    obtain ⟨z1, z2⟩ := map_fst_zip hl
    have h2' : (dictText (PyData.shownKv ((ks.map keyPy).zip (D.pys vs)))).length ≤ sizeLine := by simpa only [D.py, PyData.shown] using h2
    have hs : PyData.showableKv ((ks.map keyPy).zip (D.pys vs)) = true := by simpa [D.py, PyData.showable] using h1
    obtain ⟨s1, s2⟩ := PyData.showableKv_split _ hs
    have ek : ks = vals.map (·.1) := by rw [← q1, e3]
    refine Sh.dic g1 g2.1 g3 hsy ?_ ?_
    · rw [z1, ek]
      rw [z1, ek] at s1
      refine sh_keys g4 (fun t ht => ?_) s1
      rw [← ek, ← z1] at ht
      obtain ⟨p, hp, hl⟩ := PyData.shownKv_key_le _ t ht
      exact Nat.le_trans hl (Nat.le_trans (dictText_mem_le hp) h2')
    · rw [z2, pairs_vals g4]
      rw [z2] at s2
      refine shs_of I ex vs _ _ hr.1 s2 (fun t ht => ?_) e4 q2
      rw [← z2] at ht
      obtain ⟨p, hp, hl⟩ := PyData.shownKv_val_le _ t ht
      exact Nat.le_trans hl (Nat.le_trans (dictText_mem_le hp) h2')
theorem shs_of (I : Inv X pins σ H s) (ex : Ex C H) : ∀ (ds : List D) (vs : List V) (us : List Value), D.rfs ds = true → PyData.showableAll (D.pys ds) = true → (∀ t ∈ PyData.shownAll (D.pys ds), t.length ≤ sizeLine) → Dns X.K C pu ds vs → Vals vs us → Shs X s (D.pys ds) us
  | [], vs, us, _, _, _, dn, r => by
    rw [dns_nil.mp dn] at r
    cases r
    exact Shs.nil
  | d :: ds, vs, us, h, h1, h2, dn, r => by
    obtain ⟨v, q, e1, e2, e3⟩ := dns_cons.mp dn
    rw [e1] at r
    cases r with
    | cons r1 r2 =>
      have hh : d.rf = true ∧ D.rfs ds = true := by simpa [D.rfs] using h
      have hs : d.py.showable = true ∧ PyData.showableAll (D.pys ds) = true := by simpa [D.pys, PyData.showableAll] using h1
      exact Shs.cons (sh_of I ex d _ _ hh.1 hs.1 (h2 _ (by simp only [D.pys, PyData.shownAll]; exact List.mem_cons_self ..)) e2 r1)
        (shs_of I ex ds _ _ hh.2 hs.2 (fun t ht => h2 t (by simp only [D.pys, PyData.shownAll]; exact List.mem_cons_of_mem _ ht)) e3 r2)
end
/-! ### the call -/
section
variable {A : Around} {E : Value → Shared → Prop} {Q : Value → Shared → Prop}
theorem call_lst {a : Addr} {o : Obj} {n : Nat} {us : List Value} {ds : List PyData} (e : s.heap.get? a = some o) (c : o.cls = .type "list") (d : o.data = .seq us.toArray n) (h : Shs X s ds us) (hg : A.guards = some []) (hu : A.units + (PyData.list ds).depth + 1 < cLine) (hz : (PyData.list ds).shown.length ≤ sizeLine)
    (hQ : ∀ h' u tk, (∀ b o, s.heap.get? b = some o → h'.get? b = some o) → Q (.str (PyData.list ds).shown u) { s with heap := h', toks := tk }) : wpAny (model X.prog X.w) A (call (.builtin "repr") [.ref a]) Q E s := by
  obtain ⟨⟨as, rs⟩, bs, hb, hk⟩ := h
  have r : Reads s.heap (.ref a) (.list ds) _ := .list e c d (by simpa using rs)
  have hna : a ∉ bs := not_mem_of_deeper r (by simp only [PyData.depth]; omega) hb
  simp only [PyData.depth] at hu
  simp only [PyData.shown] at hQ hz
  refine call_repr_slot (by omega) ⟨o, e, c⟩ F.slot_list_repr.toG ?_
  cases us with
  | nil =>
    cases rs
    simp only [PyData.shownAll, listText_nil] at hQ
    exact call_list_repr_empty ⟨o, e, c⟩ e d ⟨_, _, rfl, hQ s.heap _ _ fun _ _ e => e⟩
  | cons x l => exact call_list_reprK (A := A.in1) e c d hna (by simpa using hk.length_eq) (fun i y q => hk.item i y (by simpa using q)) hg (fun b _ => Clear.nil b) (by show A.units + 1 + _ < cLine; omega) (fun _ _ e => e) (fun h' u tk hk => ⟨_, _, rfl, hQ h' u tk hk⟩) hz
theorem call_tup {a : Addr} {o : Obj} {n : Nat} {us : List Value} {ds : List PyData} (e : s.heap.get? a = some o) (c : o.cls = .type "tuple") (d : o.data = .seq us.toArray n) (h : Shs X s ds us) (hg : A.guards = some []) (hu : A.units + (PyData.tuple ds).depth + 1 < cLine) (hz : (PyData.tuple ds).shown.length ≤ sizeLine)
    (hQ : ∀ h' u tk, (∀ b o, s.heap.get? b = some o → h'.get? b = some o) → Q (.str (PyData.tuple ds).shown u) { s with heap := h', toks := tk }) : wpAny (model X.prog X.w) A (call (.builtin "repr") [.ref a]) Q E s := by
  obtain ⟨⟨as, rs⟩, bs, hb, hk⟩ := h
  have r : Reads s.heap (.ref a) (.tuple ds) _ := .tuple e c d (by simpa using rs)
  have hna : a ∉ bs := not_mem_of_deeper r (by simp only [PyData.depth]; omega) hb
  simp only [PyData.depth] at hu
  simp only [PyData.shown] at hQ hz
  exact call_repr_slot (by omega) ⟨o, e, c⟩ F.slot_tuple_repr (call_tuple_reprK (A := A.in1) e c d hna (by simpa using hk) hg (fun b _ => Clear.nil b) (by show A.units + 1 + _ < cLine; omega) (fun _ _ e => e) (fun h' u tk hk => ⟨_, _, rfl, hQ h' u tk hk⟩) hz)
theorem call_dic {a : Addr} {o : Obj} {n : Nat} {es : Array DictEntry} {kvs : List (PyData × PyData)} (e : s.heap.get? a = some o) (c : o.cls = .type "dict") (d : o.data = .dict es n) (hs : (a == sysModules) = false)
    (h : Shs X s (kvs.map (·.1)) (es.toList.map (·.key))) (k : Shs X s (kvs.map (·.2)) (es.toList.map (·.val))) (hg : A.guards = some []) (hu : A.units + (PyData.dict kvs).depth + 1 < cLine) (hz : (PyData.dict kvs).shown.length ≤ sizeLine)
    (hQ : ∀ h' u tk, (∀ b o, s.heap.get? b = some o → h'.get? b = some o) → Q (.str (PyData.dict kvs).shown u) { s with heap := h', toks := tk }) : wpAny (model X.prog X.w) A (call (.builtin "repr") [.ref a]) Q E s := by
  obtain ⟨⟨a1, r1⟩, b1, m1, k1⟩ := h
  obtain ⟨⟨a2, r2⟩, b2, m2, k2⟩ := k
  have r : Reads s.heap (.ref a) (.dict kvs) _ := .dict e c d r1 r2
  have hb : ReadAtMost s.heap (PyData.depthKv kvs) (b1 ++ b2) := (m1.mono (PyData.depthAll_keys_le kvs)).append (m2.mono (PyData.depthAll_vals_le kvs))
  have hna : a ∉ b1 ++ b2 := not_mem_of_deeper r (by simp only [PyData.depth]; omega) hb
  simp only [PyData.depth] at hu
  simp only [PyData.shown, PyData.shownKv_eq] at hQ hz
  exact call_repr_slot (by omega) ⟨o, e, c⟩ F.slot_dict_repr (call_dict_reprK (A := A.in1) e c d hs hna (ReprEntriesK.of_two es.toList _ _ (k1.more_le (fun b hb => List.mem_append_left _ hb) (PyData.depthAll_keys_le kvs)) (k2.more_le (fun b hb => List.mem_append_right _ hb) (PyData.depthAll_vals_le kvs))) hg (fun b _ => Clear.nil b) (by show A.units + 1 + _ < cLine; omega) (fun _ _ e => e) (fun h' u tk hk => ⟨_, _, rfl, hQ h' u tk hk⟩) hz)
end
/-- repr of data, dicts too -/
def okRepr2 (d : D) : Bool := d.rf && d.py.showable && decide (d.py.depth ≤ 60) && szOk d.py.shown.length
def repr2D : List D → Option D
  | [d] => if okRepr2 d = true then some (.str d.py.shown) else none
  | _ => none
def rRepr2 (K : PySem.W.Frag) : List V → Hp → VK → Prop := fun xs H Q => ∃ x d C pu, xs = [x] ∧ Ex C H ∧ Dn K C pu d x ∧ okRepr2 d = true ∧ Q (.str d.py.shown) H
theorem call_repr2D (hu : X.A.units + 64 < cLine) (hgd : X.A.guards = some []) : CallR X (.builtin "repr") (rRepr2 X.K) := by
  intro pins s σ H xs us Q I r h
  obtain ⟨x, d, C, pu, rfl, ex, hd, hz, q⟩ := h
  obtain ⟨u, rfl, ru⟩ := vals1 r
  have hl : sizeLine = 16777216 := sizeLine_eq
  have hz' : ((d.rf = true ∧ d.py.showable = true) ∧ d.py.depth ≤ 60) ∧ szOk d.py.shown.length = true := by simpa [okRepr2] using hz
  obtain ⟨⟨⟨h0, h1⟩, h3⟩, h4⟩ := hz'
  have h5 : d.py.shown.length ≤ 4000000 := of_decide_eq_true h4
  cases d with
  | non =>
    cases dn_non.mp hd; cases ru
    exact PySem.P.repr_of_none ⟨.str _, H, I.tok _, ⟨_, rfl⟩, q⟩
  | bl b =>
    cases dn_bl.mp hd; cases ru
    exact PySem.P.repr_of_bool ⟨.str _, H, I.tok _, ⟨_, rfl⟩, by cases b <;> exact q⟩
  | int i =>
    cases dn_int.mp hd
    obtain ⟨t, rfl⟩ := ru
    exact PySem.P.repr_of_int (by simpa [D.py, PyData.showable] using h1) ⟨.str _, H, I.tok _, ⟨_, rfl⟩, q⟩
  | str y =>
    cases dn_str.mp hd
    obtain ⟨t, rfl⟩ := ru
    have h6 : (reprText y).length ≤ sizeLine := by
      have : (reprText y).length ≤ 4000000 := h5
      omega
    exact PySem.P.repr_of_str ⟨.str _, H, I.tok _, ⟨_, rfl⟩, q⟩ h6
  | pur => simp [D.rf] at h0
  | lst ds =>
    obtain ⟨a, xs, e1, e2, e3⟩ := dn_lst.mp hd
    subst e1
    cases ru
    obtain ⟨its, rv, ⟨o, n, ho, hc, _, hdd⟩, _⟩ := I.list (sq_of (ex _ _ e2))
    have h2' : (listText (PyData.shownAll (D.pys ds))).length ≤ sizeLine := by
      have : (listText (PyData.shownAll (D.pys ds))).length ≤ 4000000 := by simpa only [D.py, PyData.shown] using h5
      omega
    refine call_lst ho hc hdd (shs_of I ex ds _ _ (by simpa [D.rf] using h0) (by simpa [D.py, PyData.showable] using h1) (fun t ht => Nat.le_trans (listText_mem_le ht) h2') e3 rv) hgd (by have : (D.lst ds).py.depth ≤ 60 := h3; simp only [D.py] at this; omega) (by simpa only [PyData.shown] using h2') fun h' u tk hk => ⟨.str _, H, I.kept hk, ⟨_, rfl⟩, q⟩
  | tup ds =>
    obtain ⟨a, xs, e1, e2, e3⟩ := dn_tup hd
    subst e1
    cases ru
    obtain ⟨its, rv, ⟨o, ho, hc, n, hdd⟩, _⟩ := I.tuple (ex_t ex e2)
    have h2' : (tupleText (PyData.shownAll (D.pys ds))).length ≤ sizeLine := by
      have : (tupleText (PyData.shownAll (D.pys ds))).length ≤ 4000000 := by simpa only [D.py, PyData.shown] using h5
      omega
    refine call_tup ho hc hdd (shs_of I ex ds _ _ (by simpa [D.rf] using h0) (by simpa [D.py, PyData.showable] using h1) (fun t ht => Nat.le_trans (tupleText_mem_le ht) h2') e3 rv) hgd (by have : (D.tup ds).py.depth ≤ 60 := h3; simp only [D.py] at this; omega) (by simpa only [PyData.shown] using h2') fun h' u tk hk => ⟨.str _, H, I.kept hk, ⟨_, rfl⟩, q⟩
  | pr ds =>
    obtain ⟨a, xs, e1, e2, e3⟩ := dn_pr.mp hd
    subst e1
    cases ru
    obtain ⟨its, rv, ⟨o, ho, hc, n, hdd⟩, _⟩ := I.tuple (ex_t ex e2)
    have h2' : (tupleText (PyData.shownAll (D.pys ds))).length ≤ sizeLine := by
      have : (tupleText (PyData.shownAll (D.pys ds))).length ≤ 4000000 := by simpa only [D.py, PyData.shown] using h5
      omega
    refine call_tup ho hc hdd (shs_of I ex ds _ _ (by simpa [D.rf] using h0) (by simpa [D.py, PyData.showable] using h1) (fun t ht => Nat.le_trans (tupleText_mem_le ht) h2') e3 rv) hgd (by have : (D.pr ds).py.depth ≤ 60 := h3; simp only [D.py] at this; omega) (by simpa only [PyData.shown] using h2') fun h' u tk hk => ⟨.str _, H, I.kept hk, ⟨_, rfl⟩, q⟩
  | dic ks vs =>
    obtain ⟨a, kvs, e1, e2, e3, e4⟩ := dn_dic.mp hd
    subst e1
    cases ru
    have hr : D.rfs vs = true ∧ ks.length = vs.length := by simpa [D.rf] using h0
    obtain ⟨_, hsy, vals, rel, o, es, ep, g1, g2, g3, _, g4, _⟩ := dk_of I.hok (ex _ _ e2)
    obtain ⟨q1, q2⟩ := kv_parts rel
    have hl : (ks.map keyPy).length = (D.pys vs).length := by rw [List.length_map, pys_len]; exact hr.2
    obtain ⟨z1, z2⟩ := map_fst_zip hl
    have h2' : (dictText (PyData.shownKv ((ks.map keyPy).zip (D.pys vs)))).length ≤ sizeLine := by
      have : (dictText (PyData.shownKv ((ks.map keyPy).zip (D.pys vs)))).length ≤ 4000000 := by simpa only [D.py, PyData.shown] using h5
      omega
    have hs : PyData.showableKv ((ks.map keyPy).zip (D.pys vs)) = true := by simpa [D.py, PyData.showable] using h1
    obtain ⟨s1, s2⟩ := PyData.showableKv_split _ hs
    have ek : ks = vals.map (·.1) := by rw [← q1, e3]
    refine call_dic g1 g2.1 g3 hsy (kvs := (ks.map keyPy).zip (D.pys vs)) ?_ ?_ hgd (by have : (D.dic ks vs).py.depth ≤ 60 := h3; simp only [D.py] at this; omega) (by simpa only [PyData.shown] using h2') fun h' u tk hk => ⟨.str _, H, I.kept hk, ⟨_, rfl⟩, q⟩
    · rw [z1, ek]
      rw [z1, ek] at s1
      refine sh_keys g4 (fun t ht => ?_) s1
      rw [← ek, ← z1] at ht
      obtain ⟨p, hp, hl⟩ := PyData.shownKv_key_le _ t ht
      exact Nat.le_trans hl (Nat.le_trans (dictText_mem_le hp) h2')
    · rw [z2, pairs_vals g4]
      rw [z2] at s2
      refine shs_of I ex vs _ _ hr.1 s2 (fun t ht => ?_) e4 q2
      rw [← z2] at ht
      obtain ⟨p, hp, hl⟩ := PyData.shownKv_val_le _ t ht
      exact Nat.le_trans hl (Nat.le_trans (dictText_mem_le hp) h2')
theorem cd_repr2 (hu : X.A.units + 64 < cLine) (hgd : X.A.guards = some []) : CallD X (.builtin "repr") repr2D := by
  refine ⟨_, call_repr2D hu hgd, fun z C H ds u xs Q o dn g k => ?_⟩
  unfold repr2D at g
  split at g
  · rename_i d
    obtain ⟨hz, rfl⟩ := ite_of g
    obtain ⟨v, e1, e2⟩ := dns1 dn
    exact ⟨v, d, C, _, e1, o.ex, e2, hz, k _ C H (Tr.refl o) (dn_str.mpr rfl)⟩
  · cases g
/-! ### {k: v, ..} with keys written as numbers and words -/
def mDisp (ks : List L2.Key) (m : MA) : ME := fun env Q => m env fun ds => Q (.dic ks ds)
end
end BV

/-! {k: v, ..} with keys written as numbers and words, by value. -/
namespace BV
open PySem PySem.Spec PyProof.Rows L2 Evl

theorem Tr.sealU {z : Pz} {C H C' H' : Hp} {a : Addr} {u : HO} (o : Ok z C H) (t : Tr z C H C' H') (h1 : H a = none) (h2 : C' a = none) (h3 : H' a = some u) : Tr z C H (upd C' a u) H' := by
  have hz : ∀ b, H b ≠ none → b ≠ a := fun b hb e => hb (by rw [e]; exact h1)
  refine ⟨t.cc.trans (Ex.new h2), ⟨fun b u e => ?_, ?_⟩, t.keep, fun b hb => ?_⟩
  · by_cases hb : b = a
    · subst hb; rw [upd_same] at e; cases e; exact h3
    · rw [upd_ne hb] at e; exact t.ok.ex b u e
  · obtain ⟨gs, cs, s, k, g1, g2, g3, g4⟩ := t.ok.pur.at_
    exact ⟨⟨gs, cs, s, k, g1, g2, g3, g4⟩, by rw [upd_ne (hz _ o.pur.pn)]; exact t.ok.pur.cp, by rw [upd_ne (hz _ o.pur.gn)]; exact t.ok.pur.cg, by rw [upd_ne (hz _ o.pur.cn)]; exact t.ok.pur.cc, t.ok.pur.pg, t.ok.pur.pc, t.ok.pur.gc⟩
  · rw [upd_ne (hz b hb)]; exact t.new b hb
structure PDP (X : Cx) (keys : List (Option Expr)) (values : List Expr) (ks : List L2.Key) (m : MA) : Prop where
  run : ∀ pos : Pos, ∃ trs, PPs X pos keys values trs ∧ ∀ (z : Pz) (C H : Hp) (env : Env) (σ : L2.St) (Q : List (V × V) → Hp → Prop) (P : List D → Prop), Ok z C H → EnvR X.K z C env σ → m env P → (∀ ds vs C' H', P ds → Tr z C H C' H' → Dns X.K C' z.p ds vs → ds.length = ks.length → Q ((ks.zip vs).map fun p => (kV p.1, p.2)) H') → tPairs trs σ H Q
  mono : MonoA m
section
variable {X : Cx} {e : Expr} {ma : ME} {mr : MA} {keys : List (Option Expr)} {values : List Expr} {ks : List L2.Key}
theorem pdp_nil : PDP X [] [] [] maNil := ⟨fun pos => ⟨[], pps_nil, fun z C H env σ Q P o r q k => k [] [] C H q (Tr.refl o) (dns_nil.mpr rfl) rfl⟩, fun env Q Q' i q => i _ q⟩
theorem pdp_cons {kx : Expr} {k0 : L2.Key} (hk : PE X kx (tC (kV k0))) (ha : PD X e ma) (hr : PDP X keys values ks mr) : PDP X (some kx :: keys) (e :: values) (k0 :: ks) (maCons ma mr) := by
  refine ⟨fun pos => ?_, fun env Q Q' i q => ha.mono env _ _ (fun d q => hr.mono env _ _ (fun ds q => i _ q) q) q⟩
  obtain ⟨trs, h1, h2⟩ := hr.run pos
  refine ⟨(tC (kV k0), lift X.K ma) :: trs, pps_cons hk ha.run h1, fun z C H env σ Q P o r q k => ?_⟩
  show lift X.K ma σ H _
  refine lift_use ha.mono o r q fun d v C' H' p t dn => ?_
  refine h2 z C' H' env σ _ _ t.ok (r.mono t.cc) p fun ds vs C2 H2 p2 t2 dns hl => ?_
  exact k (d :: ds) (v :: vs) C2 H2 p2 (t.trans t2) (dns_cons.mpr ⟨v, vs, rfl, dn.mono t2.cc, dns⟩) (by simp [hl])
theorem pk_int {i : Int} {j} {p : Pos} : PE X (.Constant (.int i) j p) (tC (kV (.inl i))) := pe_int
theorem pk_str {x : Str} {j} {p : Pos} : PE X (.Constant (.str x) j p) (tC (kV (.inr x))) := pe_str
theorem merge_new : ∀ (more acc : List (L2.Key × V)), ((acc ++ more).map (·.1)).Nodup → mergeK acc more = acc ++ more
  | [], acc, _ => by simp [mergeK]
  | p :: more, acc, h => by
    have hn : (acc.any fun kv => decide (kv.1 = p.1)) = false := by
      rw [List.any_eq_false]
      intro q hq hc
      have hc : q.1 = p.1 := by simpa using hc
      rw [List.map_append, List.map_cons, List.nodup_append] at h
      exact h.2.2 q.1 (List.mem_map_of_mem hq) p.1 (by simp) hc
    have e : putK acc p.1 p.2 = acc ++ [p] := by
      unfold putK
      rw [hn]
      rfl
    show mergeK (putK acc p.1 p.2) more = _
    rw [e, merge_new more (acc ++ [p]) (by simpa using h)]
    simp
theorem pd_disp {pos : Pos} (h : PDP X keys values ks mr) (hn : ks.Nodup := by decide) (hl2 : ks.length ≤ 15 := by decide) (hall : keys.all (·.isSome) = true := by rfl) (hl : keys.length = values.length := by rfl) (h0 : keys ≠ [] := by simp) (h15 : keys.length ≤ 15 := by decide) : PD X (.Dict keys values pos) (mDisp ks mr) := by
  obtain ⟨trs, h1, h2⟩ := h.run pos
  refine ⟨pe_imp (pe_disp h1 hall hl h0 h15) fun σ H Q q => ?_, fun env Q Q' i q => h.mono env _ _ (fun ds q => i _ q) q⟩
  obtain ⟨z, C, env, o, r, q⟩ := q
  intro p hp
  have hc : C p = none := fresh_back o.ex hp
  have t0 : Tr z C H C (upd H p (.dK [])) := Tr.ext o (Ex.new hp)
  have np : p ≠ z.p := fun e => o.pur.pn (by rw [← e]; exact hp)
  have ng : p ≠ z.g := fun e => o.pur.gn (by rw [← e]; exact hp)
  refine h2 z C _ env σ _ _ t0.ok r q fun ds vs C' H' p2 t dns hlen => ?_
  have hp' : H' p = some (.dK []) := t.keep p _ upd_same np ng
  have hc' : C' p = none := (t.new p (by rw [upd_same]; exact fun q => nomatch q)).trans hc
  have hvl : vs.length = ks.length := by rw [dns.len, hlen]
  obtain ⟨z1, z2⟩ := map_fst_zip hvl.symm
  have hm : mergeK [] (ks.zip vs) = ks.zip vs := by
    rw [merge_new _ [] (by rw [List.nil_append, z1]; exact hn), List.nil_append]
  refine ⟨hp', ks.zip vs, rfl, by rw [List.length_zip]; omega, ?_⟩
  rw [hm]
  have t2 : Tr z C H C' (upd H' p (.dK (ks.zip vs))) := Tr.mut o (t0.trans t) hp hc'
  refine p2 _ (upd C' p (.dK (ks.zip vs))) _ (Tr.sealU o t2 hp hc' upd_same) (dn_dic.mpr ⟨p, ks.zip vs, rfl, upd_same, z1, ?_⟩)
  rw [z2]
  exact dns.mono (Ex.new hc')
end
end BV

/-! in a list, a tuple, or (one sign) in a text; int of a text. -/
namespace BV
open PySem PySem.Spec PyProof.Rows L2 Evl
def oneC (x : Str) : Option Nat := match x.cps.toList with
  | [c] => some c
  | _ => none
def inU (neg : Bool) (d e : D) : Option D := match e with
  | .str z => (match d with
    | .str x => (oneC x).map fun c => .bl (if neg then !decide (c ∈ z.cps.toList) else decide (c ∈ z.cps.toList))
    | _ => none)
  | _ => inA neg d e
section
variable {X : Cx} {pos : Pos}
theorem oneC_of {x : Str} {c : Nat} (h : oneC x = some c) : x = ⟨#[c]⟩ := by
  obtain ⟨⟨l⟩⟩ := x
  unfold oneC at h
  cases l with
  | nil => cases h
  | cons a l => cases l with
    | nil => cases h; rfl
    | cons b l => cases h
theorem inU_of {neg : Bool} {d e u : D} (g : inU neg d e = some u) : (∃ c z, d = .str ⟨#[c]⟩ ∧ e = .str z ∧ u = .bl (if neg then !decide (c ∈ z.cps.toList) else decide (c ∈ z.cps.toList))) ∨ inA neg d e = some u := by
  cases e with
  | str z =>
    cases d with
    | str x =>
      obtain ⟨c, h1, h2⟩ := Option.map_eq_some_iff.mp (show (oneC x).map _ = some u from g)
      rw [oneC_of h1]
      exact .inl ⟨c, z, rfl, rfl, h2.symm⟩
    | _ => cases g
  | _ => exact .inr g
theorem opd_inU (hu : X.A.units + 65 < cLine) : OpD X (compareOp .In) (inU false) := by
  obtain ⟨R, hR, hi⟩ := opd_inA (X := X) hu
  refine OpD.of _ (hR.or op_in_sign) fun z C H d e u x y Q o dx dy g k => ?_
  rcases inU_of g with ⟨c, s, rfl, rfl, rfl⟩ | g
  · exact .inr ⟨c, s, dn_str.mp dx, dn_str.mp dy, k _ C H (Tr.refl o) (dn_bl.mpr rfl)⟩
  · exact .inl (hi z C H d e u x y Q o dx dy g k)
theorem opd_notinU (hu : X.A.units + 65 < cLine) : OpD X (compareOp .NotIn) (inU true) := by
  obtain ⟨R, hR, hi⟩ := opd_notinA (X := X) hu
  refine OpD.of _ (hR.or op_notIn_sign) fun z C H d e u x y Q o dx dy g k => ?_
  rcases inU_of g with ⟨c, s, rfl, rfl, rfl⟩ | g
  · exact .inr ⟨c, s, dn_str.mp dx, dn_str.mp dy, k _ C H (Tr.refl o) (dn_bl.mpr rfl)⟩
  · exact .inl (hi z C H d e u x y Q o dx dy g k)
/-- int of a number or of a text -/
def int2D : List D → Option D
  | [.int i] => some (.int i)
  | [.str s] => if s.length ≤ 640 then (intText? s).map .int else none
  | _ => none
theorem cd_int2 : CallD X (.type "int") int2D := by
  refine ⟨_, call_int1.or call_int_str, fun z C H ds u xs Q o dn g k => ?_⟩
  unfold int2D at g
  split at g
  · cases g
    obtain ⟨v, e1, e2⟩ := dns1 dn
    rw [dn_int.mp e2] at e1
    exact .inl (.inl ⟨_, e1, k _ C H (Tr.refl o) (dn_int.mpr rfl)⟩)
  · rename_i s
    have hz : s.length ≤ 640 := by
      by_cases hz : s.length ≤ 640
      · exact hz
      · rw [if_neg hz] at g; cases g
    rw [if_pos hz] at g
    obtain ⟨n, h1, h2⟩ := Option.map_eq_some_iff.mp g
    obtain ⟨v, e1, e2⟩ := dns1 dn
    rw [dn_str.mp e2] at e1
    subst h2
    exact .inr ⟨s, n, e1, h1, hz, k _ C H (Tr.refl o) (dn_int.mpr rfl)⟩
  · cases g
end
end BV

/-! is True, is False. -/
namespace BV
open PySem PySem.Spec PyProof.Rows L2 Evl
theorem op_isB {X : Cx} : OpR X (compareOp .Is) (fun x y H Q => ∃ a b, x = .bl a ∧ y = .bl b ∧ Q (.bl (a == b)) H) := by
  intro pins s σ H x y v u Q I rx ry h
  obtain ⟨a, b, rfl, rfl, q⟩ := h
  cases rx
  cases ry
  exact wpAny_is_plain rfl (fin_bl I q (by cases a <;> cases b <;> rfl))
theorem op_notB {X : Cx} : OpR X (compareOp .IsNot) (fun x y H Q => ∃ a b, x = .bl a ∧ y = .bl b ∧ Q (.bl (!(a == b))) H) := by
  intro pins s σ H x y v u Q I rx ry h
  obtain ⟨a, b, rfl, rfl, q⟩ := h
  cases rx
  cases ry
  exact wpAny_isNot_plain rfl (fin_bl I q (by cases a <;> cases b <;> rfl))
def isU (neg : Bool) (d e : D) : Option D := match d, e with
  | .bl a, .bl b => some (.bl (if neg then !(a == b) else a == b))
  | d, e => isD neg d e
theorem isU_of {neg : Bool} {d e u : D} (g : isU neg d e = some u) : (∃ a b, d = .bl a ∧ e = .bl b ∧ u = .bl (if neg then !(a == b) else a == b)) ∨ isD neg d e = some u := by
  cases d <;> cases e <;> first
    | exact .inl ⟨_, _, rfl, rfl, (Option.some.inj g).symm⟩
    | exact .inr g
section
variable {X : Cx}
theorem opd_isU : OpD X (compareOp .Is) (isU false) := by
  obtain ⟨R, hR, hi⟩ := opd_is (X := X)
  refine OpD.of _ (hR.or op_isB) fun z C H d e u x y Q o dx dy g k => ?_
  rcases isU_of g with ⟨a, b, rfl, rfl, rfl⟩ | g
  · exact .inr ⟨a, b, dn_bl.mp dx, dn_bl.mp dy, k _ C H (Tr.refl o) (dn_bl.mpr rfl)⟩
  · exact .inl (hi z C H d e u x y Q o dx dy g k)
theorem opd_isnotU : OpD X (compareOp .IsNot) (isU true) := by
  obtain ⟨R, hR, hi⟩ := opd_isnot (X := X)
  refine OpD.of _ (hR.or op_notB) fun z C H d e u x y Q o dx dy g k => ?_
  rcases isU_of g with ⟨a, b, rfl, rfl, rfl⟩ | g
  · exact .inr ⟨a, b, dn_bl.mp dx, dn_bl.mp dy, k _ C H (Tr.refl o) (dn_bl.mpr rfl)⟩
  · exact .inl (hi z C H d e u x y Q o dx dy g k)
end
end BV

/-! Common to the laws. -/
namespace BV
open PySem PySem.Spec PyProof.Rows L2 Evl
theorem pow109 : powD (.int 10) (.int 9) = some (.int 1000000000) := by rfl
theorem sz_of {n : Nat} (h : n ≤ 4000000) : szOk n = true := decide_eq_true h
def Pr (s : Str) : Prop := ∀ c ∈ s.cps.toList, 46 ≤ c ∧ c ≤ 122 ∧ c ≠ 92
theorem pr_char {c : Nat} (h : 46 ≤ c ∧ c ≤ 122 ∧ c ≠ 92) : Builtin.Str.reprChar 39 c = [c] := by
  have : ∀ c < 123, 46 ≤ c → c ≠ 92 → Builtin.Str.reprChar 39 c = [c] := by decide +kernel
  exact this c (by omega) h.1 h.2.2
theorem txt_pr {s : Str} (h : Pr s) : txt (.str s) = 39 :: (s.cps.toList ++ [39]) := by
  have hq : reprQuote s = 39 := by
    unfold reprQuote
    have : s.cps.contains 39 = false := by
      rw [Bool.eq_false_iff]
      intro hc
      have := h 39 (by rw [Array.contains_iff_mem] at hc; exact Array.mem_toList_iff.mpr hc)
      omega
    rw [this]
    rfl
  show (reprText s).cps.toList = _
  unfold reprText
  rw [hq, Array.toList_push, ← Array.foldl_toList]
  have : ∀ (l : List Nat) (a : Array Nat), (∀ c ∈ l, 46 ≤ c ∧ c ≤ 122 ∧ c ≠ 92) → (l.foldl (fun out c => out ++ (Builtin.Str.reprChar 39 c).toArray) a).toList = a.toList ++ l := by
    intro l
    induction l with
    | nil => intro a _; simp
    | cons c l ih =>
      intro a hl
      rw [List.foldl_cons, ih _ fun x hx => hl x (by simp [hx]), pr_char (hl c (by simp))]
      simp
  rw [this _ _ h]
  simp
theorem pl_str {s : Str} (h : Pr s) : PL 0 (s.length + 2) (.str s) := by
  refine ⟨fun c hc => ?_, rfl, rfl, ?_, Nat.le_refl _, ?_⟩
  · rw [txt_pr h] at hc
    simp only [List.mem_cons, List.mem_append, List.not_mem_nil, or_false] at hc
    rcases hc with hc | hc | hc
    · omega
    · have := h c hc
      omega
    · omega
  · show s.cps.all (· < 0x110000) = true
    rw [Array.all_eq_true_iff_forall_mem]
    intro c hc
    have := h c (Array.mem_toList_iff.mpr hc)
    simp only [decide_eq_true_eq]
    omega
  · rw [txt_len, txt_pr h, cps_len]
    simp
theorem low_pr {s : Str} (h : Low s) : Pr s := fun c hc => by have := h c hc; omega
def isW (n : Nat) (s : Str) : Prop := s.length ≤ n ∧ Pr s
theorem isW.app {m n : Nat} {a b : Str} (h : isW m a) (k : isW n b) : isW (m + n) (a ++ b) := by
  refine ⟨by rw [strLen_append]; have := h.1; have := k.1; omega, fun c hc => ?_⟩
  rw [cps_toList_append, List.mem_append] at hc
  exact hc.elim (h.2 c) (k.2 c)
theorem isW.mono {m n : Nat} {a : Str} (h : isW m a) (k : m ≤ n) : isW n a := ⟨Nat.le_trans h.1 k, h.2⟩
theorem lit_w (x : String) (n : Nat) (h : ((Str.ofString x).length ≤ n ∧ (Str.ofString x).cps.toList.all (fun c => decide (46 ≤ c ∧ c ≤ 122 ∧ c ≠ 92)) = true)) : isW n (Str.ofString x) := ⟨h.1, fun c hc => by
  have := List.all_eq_true.mp h.2 c hc
  exact of_decide_eq_true this⟩
theorem add_str {a b : Str} {m n : Nat} (h : isW m a) (k : isW n b) (hs : m + n ≤ 4000000) : addD (.str a) (.str b) = some (.str (a ++ b)) := if_pos (sz_of (by have := h.1; have := k.1; omega))
theorem frz_nil : ∀ (k : Nat) (env : SEnv), frz [] k env = env
  | _, [] => rfl
  | k, none :: r => by rw [frz, frz_nil (k + 1) r]
  | k, some (false, d) :: r => by rw [frz, frz_nil (k + 1) r]
  | k, some (true, d) :: r => by rw [frz, frz_nil (k + 1) r]; rfl
theorem aft_nil (d : D) (env : SEnv) : aft [] d env = env := by
  unfold aft
  rw [frz_nil]
  split <;> rfl
theorem aftL_nil (ds : List D) (env : SEnv) : aftL [] ds env = env := by
  unfold aftL
  rw [frz_nil]
  split <;> rfl
theorem pl_lst {k m n : Nat} {ds : List D} (h : ∀ d ∈ ds, PL k m d) (hn : 2 + ds.length * (m + 2) ≤ n) : PL (k + 1) n (.lst ds) := (PL.lst h).mono (Nat.le_refl _) hn
theorem shows {k m : Nat} {d : D} (h : PL k m d) (a : k ≤ 60) (b : m ≤ 4000000) : reprD [d] = some (.str d.py.shown) := if_pos (h.repr a b)
theorem same_eq {k m : Nat} {d : D} (h : PL k m d) : eqD (.str d.py.shown) (.str d.py.shown) = some (.bl true) := by
  rw [eqD, if_pos ⟨h.seen, h.seen⟩, (eqv_iff _ _ rfl rfl).mpr rfl]
theorem same_ne {k m : Nat} {d : D} (h : PL k m d) : neD (.str d.py.shown) (.str d.py.shown) = some (.bl false) := by
  rw [neD, if_pos ⟨h.seen, h.seen⟩, (eqv_iff _ _ rfl rfl).mpr rfl]
  rfl
theorem cut_to (ts : List D) {c : Nat} (h : c ≤ ts.length) : BV.cutD ts none (some (c : Int)) = ts.take c := by
  unfold BV.cutD
  rw [HT.sIx_nat, HT.sIx_none]
  simp only [List.drop_zero, Nat.sub_zero]
  rw [Nat.min_eq_left h]
theorem cut_from (ts : List D) {c : Nat} (h : c ≤ ts.length) : BV.cutD ts (some (c : Int)) none = ts.drop c := by
  unfold BV.cutD
  rw [HT.sIx_nat, HT.sIx_none, Nat.min_eq_left h]
  exact List.take_of_length_le (by rw [List.length_drop]; omega)
theorem lfs_app : ∀ {a b : List D}, D.lfs a = true → D.lfs b = true → D.lfs (a ++ b) = true
  | [], b, _, h => h
  | d :: a, b, h, k => by
    have h' : d.lf = true ∧ D.lfs a = true := by simpa [D.lfs] using h
    simp only [List.cons_append, D.lfs, h'.1, lfs_app h'.2 k, Bool.and_self]
theorem lfs_all {ds : List D} (h : ∀ d ∈ ds, d.lf = true) : D.lfs ds = true := by
  induction ds with
  | nil => rfl
  | cons d ds ih => simp only [D.lfs, h d (by simp), ih fun x hx => h x (by simp [hx]), Bool.and_self]
theorem lfs_one {d : D} (h : d.lf = true) : D.lfs [d] = true := by simp only [D.lfs, h, Bool.and_self]
theorem map_erase {α β : Type} (f : α → β) : ∀ (l : List α) (n : Nat), (l.eraseIdx n).map f = (l.map f).eraseIdx n
  | [], n => rfl
  | a :: l, 0 => rfl
  | a :: l, n + 1 => by simp only [List.eraseIdx_cons_succ, List.map_cons, map_erase f l n]
theorem add_tup {a b : List D} (h : a.length + b.length ≤ 4000000) : addD (.tup a) (.tup b) = some (.tup (a ++ b)) := if_pos (sz_of h)
theorem erase_perm {α : Type} : ∀ (l : List α) (n : Nat) (h : n < l.length), (l[n] :: l.eraseIdx n).Perm l
  | [], n, h => absurd h (by simp)
  | a :: l, 0, h => .refl _
  | a :: l, n + 1, h => by
    simp only [List.getElem_cons_succ, List.eraseIdx_cons_succ]
    exact (List.Perm.swap _ _ _).trans ((erase_perm l n (by simpa using h)).cons a)
theorem lcGo_some {t : Tgt} {mt : MT} {me : ME} {env : BV.Env} {Q : List D → Prop} (f : D → Prop) : ∀ (items acc : List D), (∀ x ∈ items, ∃ env1, t.put idD x env = some env1 ∧ ∀ (R : D → Prop) (S : Prop), (∀ y, f y → R y) → S → mt env1 fun b => if b = true then me env1 R else S) →
    (∀ ys, ys.length ≤ items.length → (∀ y ∈ ys, f y) → Q (acc ++ ys)) → lcGo t mt me env items acc Q
  | [], acc, _, hq => by have := hq [] (Nat.le_refl _) (fun y hy => by cases hy); simpa [lcGo] using this
  | x :: xs, acc, hs, hq => by
    obtain ⟨env1, e, h⟩ := hs x (by simp)
    refine ⟨env1, e, h _ _ (fun y hy => ?_) ?_⟩
    · refine lcGo_some f xs _ (fun z hz => hs z (by simp [hz])) fun ys hl p => ?_
      have := hq (y :: ys) (by simpa using hl) fun z hz => (List.mem_cons.mp hz).elim (fun e => by rw [e]; exact hy) (p z)
      simpa using this
    · exact lcGo_some f xs _ (fun z hz => hs z (by simp [hz])) fun ys hl p => hq ys (by simp only [List.length_cons]; omega) p
theorem aft_lf {rs : List Nat} {d : D} {env : SEnv} (h : d.lf = true) : aft rs d env = env := if_pos h
theorem str_ext {s t : Str} (h : s.cps.toList = t.cps.toList) : s = t := by
  cases s; cases t
  exact congrArg Str.mk (Array.toList_inj.mp h)
theorem low_rep {s : Str} (h : Low s) (n : Nat) : Low (repS s n) := fun c hc => by
  simp only [repS] at hc
  have hc : c ∈ (List.replicate n s.cps.toList).flatten := by simpa using hc
  obtain ⟨l, h1, h2⟩ := List.mem_flatten.mp hc
  rw [(List.mem_replicate.mp h1).2] at h2
  exact h c h2
theorem rep_len (s : Str) (n : Nat) : (repS s n).length = n * s.length := by
  rw [cps_len, cps_len]
  simp [repS, List.length_flatten, List.map_replicate, List.sum_replicate_nat]
theorem mul_rep {s : Str} {n : Nat} (h : s.length * n ≤ 1000) (hn : n ≤ 1000) : mulD (.str s) (.int (n : Int)) = some (.str (repS s n)) := by
  show (if 0 ≤ (n : Int) ∧ (n : Int) ≤ 4000000 ∧ s.length * (n : Int).toNat ≤ 4000000 then some (D.str (repS s (n : Int).toNat)) else none) = _
  rw [Int.toNat_natCast, if_pos ⟨by omega, by omega, by omega⟩]
theorem low_one {x : String} (h : ∀ c ∈ (Str.ofString x).cps.toList, 97 ≤ c ∧ c ≤ 122) {c : Nat} (hc : c ∈ (Str.ofString x).cps.toList) : ∃ s : Str, D.str ⟨#[c]⟩ = .str s ∧ Low s ∧ s.length = 1 := ⟨_, rfl, fun x hx => by
  have : x = c := by simpa using hx
  rw [this]
  exact h c hc, rfl⟩
theorem paired_len {α β : Type} {f : α → β → Prop} {xs : List α} {ys : List β} (p : Paired f xs ys) : ys.length = xs.length := by
  induction p with
  | nil => rfl
  | cons _ _ ih => simp [ih]
theorem nodup_le : ∀ {l m : List Str}, l.Nodup → (∀ s ∈ l, s ∈ m) → l.length ≤ m.length
  | [], m, _, _ => Nat.zero_le _
  | a :: l, m, h, k => by
    obtain ⟨h1, h2⟩ := List.nodup_cons.mp h
    have ha := k a (by simp)
    have := nodup_le (l := l) (m := m.erase a) h2 fun s hs => (List.mem_erase_of_ne (fun e => h1 (by rw [← e]; exact hs))).mpr (k s (by simp [hs]))
    rw [List.length_erase_of_mem ha] at this
    have := List.length_pos_of_mem ha
    simp only [List.length_cons]
    omega
theorem rng_len (n : Int) : (rngL 0 n.toNat).length = n.toNat := by simp [rngL]
end BV

/-! What repr shows of any plain data: sizes. -/
namespace BV
open PySem PySem.Spec PyProof.Rows L2 Evl

/-- printable signs and line feeds -/
def As (s : Str) : Prop := ∀ c ∈ s.cps.toList, c = 10 ∨ 32 ≤ c ∧ c ≤ 126
structure RL (k m : Nat) (d : D) : Prop where
  ch : ∀ c ∈ txt d, c < 1114112
  rf : d.rf = true
  sh : d.py.showable = true
  cl : d.pf = true → d.py.canLay0 = true
  dp : d.py.depth ≤ k
  ln : d.py.shown.length ≤ m
theorem RL.mono {k m k' m' : Nat} {d : D} (h : RL k m d) (a : k ≤ k') (b : m ≤ m') : RL k' m' d := ⟨h.ch, h.rf, h.sh, h.cl, Nat.le_trans h.dp a, Nat.le_trans h.ln b⟩
theorem RL.pl {k m : Nat} {d : D} (h : RL k m d) (p : d.pf = true) : PL k m d := ⟨h.ch, p, h.sh, h.cl p, h.dp, h.ln⟩
theorem RL.repr {k m : Nat} {d : D} (h : RL k m d) (a : k ≤ 60) (b : m ≤ 4000000) : repr2D [d] = some (.str d.py.shown) := if_pos (by
  have := h.dp
  have := h.ln
  simp only [okRepr2, h.rf, h.sh, Bool.true_and, Bool.and_eq_true, decide_eq_true_eq, szOk]
  omega)
theorem seen_of {d : D} (h : ∀ c ∈ txt d, c < 1114112) : okEq (.str d.py.shown) = true := by
  have h1 : d.py.shown.cps.all (· < 0x110000) = true := by
    rw [Array.all_eq_true_iff_forall_mem]
    intro c hc
    have := h c (Array.mem_toList_iff.mpr hc)
    simp only [decide_eq_true_eq]
    omega
  show (true && (d.py.shown.cps.all (· < 0x110000) && decide (0 ≤ 64))) = true
  rw [h1]
  rfl
theorem RL.seen {k m : Nat} {d : D} (h : RL k m d) : okEq (.str d.py.shown) = true := seen_of h.ch
theorem RL.same_eq {k m : Nat} {d : D} (h : RL k m d) : eqD (.str d.py.shown) (.str d.py.shown) = some (.bl true) := by
  rw [eqD, if_pos ⟨h.seen, h.seen⟩, (eqv_iff _ _ rfl rfl).mpr rfl]
theorem RL.same_ne {k m : Nat} {d : D} (h : RL k m d) : neD (.str d.py.shown) (.str d.py.shown) = some (.bl false) := by
  rw [neD, if_pos ⟨h.seen, h.seen⟩, (eqv_iff _ _ rfl rfl).mpr rfl]
  rfl
theorem as_char {q c : Nat} (hq : q = 39 ∨ q = 34) (h : c = 10 ∨ 32 ≤ c ∧ c ≤ 126) : (Builtin.Str.reprChar q c).length ≤ 2 ∧ ∀ x ∈ Builtin.Str.reprChar q c, x < 127 := by
  have : ∀ q ∈ [39, 34], ∀ c < 127, c = 10 ∨ 32 ≤ c → (Builtin.Str.reprChar q c).length ≤ 2 ∧ (Builtin.Str.reprChar q c).all (fun x => decide (x < 127)) = true := by decide +kernel
  obtain ⟨h1, h2⟩ := this q (by rcases hq with rfl | rfl <;> simp) c (by omega) (by omega)
  exact ⟨h1, fun x hx => by simpa using List.all_eq_true.mp h2 x hx⟩
theorem txt_as {s : Str} (h : As s) : (txt (.str s)).length ≤ 2 * s.length + 2 ∧ ∀ c ∈ txt (.str s), c < 127 := by
  have hq : reprQuote s = 39 ∨ reprQuote s = 34 := by
    unfold reprQuote
    split
    · exact .inr rfl
    · exact .inl rfl
  have key : ∀ (l : List Nat) (a : Array Nat), (∀ c ∈ l, c = 10 ∨ 32 ≤ c ∧ c ≤ 126) → (∀ c ∈ a.toList, c < 127) → (l.foldl (fun out c => out ++ (Builtin.Str.reprChar (reprQuote s) c).toArray) a).toList.length ≤ a.toList.length + 2 * l.length ∧ ∀ c ∈ (l.foldl (fun out c => out ++ (Builtin.Str.reprChar (reprQuote s) c).toArray) a).toList, c < 127 := by
    intro l
    induction l with
    | nil => intro a _ ha; exact ⟨by simp, ha⟩
    | cons c l ih =>
      intro a hl ha
      obtain ⟨h1, h2⟩ := as_char hq (hl c (by simp))
      have ih' := ih (a ++ (Builtin.Str.reprChar (reprQuote s) c).toArray) (fun x hx => hl x (by simp [hx])) fun x hx => by
        rw [Array.toList_append, List.mem_append] at hx
        rcases hx with hx | hx
        · exact ha x hx
        · exact h2 x (by simpa using hx)
      rw [List.foldl_cons]
      refine ⟨Nat.le_trans ih'.1 ?_, ih'.2⟩
      rw [Array.toList_append, List.length_append]
      simp only [List.length_cons]
      omega
  have e : txt (.str s) = (s.cps.toList.foldl (fun out c => out ++ (Builtin.Str.reprChar (reprQuote s) c).toArray) #[reprQuote s]).toList ++ [reprQuote s] := by
    show (reprText s).cps.toList = _
    unfold reprText
    rw [Array.toList_push, ← Array.foldl_toList]
  have hq' : reprQuote s < 127 := by rcases hq with h | h <;> rw [h] <;> decide
  obtain ⟨k1, k2⟩ := key s.cps.toList #[reprQuote s] h (fun c hc => by
    have : c = reprQuote s := by simpa using hc
    rw [this]; exact hq')
  rw [e]
  refine ⟨?_, fun c hc => ?_⟩
  · rw [List.length_append, cps_len s]
    simp only [List.length_cons, List.length_nil] at k1 ⊢
    omega
  · rcases List.mem_append.mp hc with hc | hc
    · exact k2 c hc
    · rw [List.mem_singleton.mp hc]; exact hq'
theorem as_lay {s : Str} (h : As s) : (D.str s).py.canLay0 = true := by
  show s.cps.all (· < 0x110000) = true
  rw [Array.all_eq_true_iff_forall_mem]
  intro c hc
  have := h c (Array.mem_toList_iff.mpr hc)
  simp only [decide_eq_true_eq]
  omega
theorem RL.str {s : Str} (h : As s) : RL 0 (2 * s.length + 2) (.str s) := by
  obtain ⟨h1, h2⟩ := txt_as h
  refine ⟨fun c hc => by have := h2 c hc; omega, rfl, rfl, fun _ => as_lay h, Nat.le_refl _, ?_⟩
  rw [txt_len]
  exact h1
theorem RL.non : RL 0 4 .non := ⟨by decide +kernel, rfl, rfl, fun _ => rfl, Nat.le_refl _, by decide +kernel⟩
theorem RL.bl (b : Bool) : RL 0 5 (.bl b) := ⟨by cases b <;> decide +kernel, rfl, rfl, fun _ => rfl, Nat.le_refl _, by cases b <;> decide +kernel⟩
theorem RL.int {i : Int} {k : Nat} (hk : 0 < k) (hk2 : k ≤ 450) (h : i.natAbs < 10 ^ k) : RL 0 (k + 1) (.int i) := by
  refine ⟨fun c hc => ?_, rfl, ?_, fun _ => rfl, Nat.le_refl _, ?_⟩
  · by_cases h1 : c < 1114112
    · exact h1
    · exact absurd hc (txt_int_free (by omega))
  · have : i.natAbs.log2 < 1920 := by
      by_cases h0 : i.natAbs = 0
      · rw [h0]; decide
      · have h2 : i.natAbs < 2 ^ 1920 := Nat.lt_of_lt_of_le h (Nat.le_trans (Nat.pow_le_pow_right (by decide) hk2) (by decide +kernel))
        exact (Nat.log2_lt h0).mpr h2
    simp only [D.py, PyData.showable, decide_eq_true_eq]
    exact this
  · rw [txt_len, txt_int]
    have := TL.numL_len (n := i.natAbs) (k := k) hk h
    split <;> (try simp only [List.length_cons]) <;> omega
theorem rfs_all {ds : List D} (h : ∀ d ∈ ds, d.rf = true) : D.rfs ds = true := by
  induction ds with
  | nil => rfl
  | cons d ds ih => simp only [D.rfs, h d (by simp), ih fun x hx => h x (by simp [hx]), Bool.and_self]
theorem pfs_mem : ∀ {ds : List D}, D.pfs ds = true → ∀ d ∈ ds, d.pf = true
  | [], _, d, hd => by cases hd
  | a :: ds, h, d, hd => by
    have h' : a.pf = true ∧ D.pfs ds = true := by simpa [D.pfs] using h
    rcases List.mem_cons.mp hd with rfl | hd
    · exact h'.1
    · exact pfs_mem h'.2 d hd
theorem RL.tup {k m : Nat} {ds : List D} (h : ∀ d ∈ ds, RL k m d) : RL (k + 1) (3 + ds.length * (m + 2)) (.tup ds) := by
  refine ⟨fun c hc => ?_, rfs_all fun d hd => (h d hd).rf, ?_, fun p => ?_, ?_, ?_⟩
  · rw [txt_tup] at hc
    simp only [List.mem_cons, List.mem_append] at hc
    rcases hc with hc | hc | hc
    · omega
    · rcases joinL_mem hc with h1 | h1 | ⟨t, h1, h2⟩
      · omega
      · omega
      · obtain ⟨d, hd, rfl⟩ := List.mem_map.mp h1
        exact (h d hd).ch c h2
    · split at hc <;> simp only [List.mem_cons, List.not_mem_nil, or_false] at hc <;> omega
  · simp only [D.py, PyData.showable, pys_map]
    exact all_sh fun p hp => by obtain ⟨d, hd, rfl⟩ := List.mem_map.mp hp; exact (h d hd).sh
  · simp only [D.py, PyData.canLay0, pys_map]
    exact all_cl fun q hp => by obtain ⟨d, hd, rfl⟩ := List.mem_map.mp hp; exact (h d hd).cl (pfs_mem p d hd)
  · simp only [D.py, PyData.depth, pys_map]
    have := all_dp (k := k) (ds := ds.map D.py) fun p hp => by obtain ⟨d, hd, rfl⟩ := List.mem_map.mp hp; exact (h d hd).dp
    omega
  · rw [txt_len, txt_tup]
    have := joinL_len (m := m) (ds.map txt) fun t ht => by obtain ⟨d, hd, rfl⟩ := List.mem_map.mp ht; rw [← txt_len]; exact (h d hd).ln
    rw [List.length_map] at this
    simp only [List.length_cons, List.length_append]
    split <;> simp only [List.length_cons, List.length_nil] <;> omega
theorem RL.lst {k m : Nat} {ds : List D} (h : ∀ d ∈ ds, RL k m d) : RL (k + 1) (2 + ds.length * (m + 2)) (.lst ds) := by
  refine ⟨fun c hc => ?_, rfs_all fun d hd => (h d hd).rf, ?_, fun p => ?_, ?_, ?_⟩
  · have hc : c ∈ (textFrom 0 (Str.ofString "[") (PyData.shownAll (D.pys ds)) ++ Str.ofString "]").cps.toList := hc
    rw [cps_toList_append, List.mem_append] at hc
    have e1 : (Str.ofString "[").cps.toList = [91] := by decide +kernel
    have e2 : (Str.ofString "]").cps.toList = [93] := by decide +kernel
    rcases hc with hc | hc
    · rcases textFrom_mem hc with h1 | h1 | h1 | ⟨t, h1, h2⟩
      · rw [e1] at h1
        simp only [List.mem_cons, List.not_mem_nil, or_false] at h1
        omega
      · omega
      · omega
      · rw [shownAll_map, pys_map] at h1
        obtain ⟨p, hp, rfl⟩ := List.mem_map.mp h1
        obtain ⟨d, hd, rfl⟩ := List.mem_map.mp hp
        exact (h d hd).ch c h2
    · rw [e2] at hc
      simp only [List.mem_cons, List.not_mem_nil, or_false] at hc
      omega
  · simp only [D.py, PyData.showable, pys_map]
    exact all_sh fun p hp => by obtain ⟨d, hd, rfl⟩ := List.mem_map.mp hp; exact (h d hd).sh
  · simp only [D.py, PyData.canLay0, pys_map]
    exact all_cl fun q hp => by obtain ⟨d, hd, rfl⟩ := List.mem_map.mp hp; exact (h d hd).cl (pfs_mem p d hd)
  · simp only [D.py, PyData.depth, pys_map]
    have := all_dp (k := k) (ds := ds.map D.py) fun p hp => by obtain ⟨d, hd, rfl⟩ := List.mem_map.mp hp; exact (h d hd).dp
    omega
  · show (textFrom 0 (Str.ofString "[") (PyData.shownAll (D.pys ds)) ++ Str.ofString "]").length ≤ _
    rw [strLen_append, shownAll_map, pys_map]
    have := textFrom_up (m := m) ((ds.map D.py).map PyData.shown) 0 (Str.ofString "[") fun t ht => by
      obtain ⟨p, hp, rfl⟩ := List.mem_map.mp ht
      obtain ⟨d, hd, rfl⟩ := List.mem_map.mp hp
      exact (h d hd).ln
    rw [List.length_map, List.length_map] at this
    have e1 : (Str.ofString "[").length = 1 := rfl
    have e2 : (Str.ofString "]").length = 1 := rfl
    omega
/-! a dict with few written keys -/
def keyTxt (k : L2.Key) : List Nat := (keyPy k).shown.cps.toList
def kvD (k : L2.Key) (d : D) : List Nat := keyTxt k ++ [58, 32] ++ txt d
theorem kv_zip : ∀ (ks : List L2.Key) (vs : List D), ks.length = vs.length → (PyData.shownKv ((ks.map keyPy).zip (D.pys vs))).map (fun t => t.cps.toList) = (ks.zip vs).map fun p => kvD p.1 p.2
  | [], [], _ => rfl
  | k :: ks, v :: vs, h => by
    have ih := kv_zip ks vs (by simpa using h)
    simp only [List.map_cons, D.pys, List.zip_cons_cons, PyData.shownKv, ih, List.cons.injEq, and_true]
    rw [cps_toList_append, cps_toList_append]
    rfl
  | [], v :: vs, h => by simp at h
  | k :: ks, [], h => by simp at h
theorem showKv : ∀ (ks : List L2.Key) (vs : List D), (∀ k ∈ ks, (keyPy k).showable = true) → (∀ d ∈ vs, d.py.showable = true) → PyData.showableKv ((ks.map keyPy).zip (D.pys vs)) = true
  | [], _, _, _ => by simp [PyData.showableKv]
  | k :: ks, [], _, _ => by simp [D.pys, PyData.showableKv]
  | k :: ks, v :: vs, h1, h2 => by
    simp only [List.map_cons, D.pys, List.zip_cons_cons, PyData.showableKv, h1 k (by simp), h2 v (by simp), showKv ks vs (fun x hx => h1 x (by simp [hx])) (fun x hx => h2 x (by simp [hx])), Bool.and_self]
theorem depthKv {n : Nat} : ∀ (ks : List L2.Key) (vs : List D), (∀ d ∈ vs, d.py.depth ≤ n) → PyData.depthKv ((ks.map keyPy).zip (D.pys vs)) ≤ n
  | [], _, _ => by simp [PyData.depthKv]
  | k :: ks, [], _ => by simp [D.pys, PyData.depthKv]
  | k :: ks, v :: vs, h => by
    have := depthKv ks vs fun x hx => h x (by simp [hx])
    have h1 := h v (by simp)
    have h0 : (keyPy k).depth = 0 := by cases k <;> rfl
    simp only [List.map_cons, D.pys, List.zip_cons_cons, PyData.depthKv]
    omega
theorem RL.dic {k m : Nat} {ks : List L2.Key} {vs : List D} (hl : ks.length = vs.length) (hk : ∀ x ∈ ks, (keyPy x).showable = true ∧ (keyTxt x).length ≤ 10 ∧ ∀ c ∈ keyTxt x, c < 127) (h : ∀ d ∈ vs, RL k m d) : RL (k + 1) (2 + vs.length * (m + 14)) (.dic ks vs) := by
  have e : txt (.dic ks vs) = 123 :: (joinL ((ks.zip vs).map fun p => kvD p.1 p.2) ++ [125]) := by
    show (dictText (PyData.shownKv ((ks.map keyPy).zip (D.pys vs)))).cps.toList = _
    unfold dictText
    have j := joinL_of (PyData.shownKv ((ks.map keyPy).zip (D.pys vs)))
    rw [kv_zip ks vs hl] at j
    rw [cps_toList_append, cps_toList_append, j]
    rfl
  have mem : ∀ p ∈ ks.zip vs, p.1 ∈ ks ∧ p.2 ∈ vs := fun p hp => List.of_mem_zip hp
  refine ⟨fun c hc => ?_, ?_, ?_, fun p => (by simp [D.pf] at p), ?_, ?_⟩
  · rw [e] at hc
    simp only [List.mem_cons, List.mem_append, List.not_mem_nil, or_false] at hc
    rcases hc with hc | hc | hc
    · omega
    · rcases joinL_mem hc with h1 | h1 | ⟨t, h1, h2⟩
      · omega
      · omega
      · obtain ⟨p, hp, rfl⟩ := List.mem_map.mp h1
        simp only [kvD, List.mem_append, List.mem_cons, List.not_mem_nil, or_false] at h2
        rcases h2 with (h2 | h2 | h2) | h2
        · have := (hk _ (mem p hp).1).2.2 c h2; omega
        · omega
        · omega
        · exact (h _ (mem p hp).2).ch c h2
    · omega
  · simp only [D.rf, rfs_all fun d hd => (h d hd).rf, hl, decide_true, Bool.and_self]
  · simp only [D.py, PyData.showable]
    exact showKv _ _ (fun x hx => (hk x hx).1) fun d hd => (h d hd).sh
  · simp only [D.py, PyData.depth]
    have := depthKv (n := k) ks vs fun d hd => (h d hd).dp
    omega
  · rw [txt_len, e]
    have := joinL_len (m := m + 12) ((ks.zip vs).map fun p => kvD p.1 p.2) fun t ht => by
      obtain ⟨p, hp, rfl⟩ := List.mem_map.mp ht
      have a := (hk _ (mem p hp).1).2.1
      have b := (h _ (mem p hp).2).ln
      rw [txt_len] at b
      simp only [kvD, List.length_append, List.length_cons, List.length_nil]
      omega
    rw [List.length_map, List.length_zip, hl, Nat.min_self, show m + 12 + 2 = m + 14 by omega] at this
    simp only [List.length_cons, List.length_append, List.length_nil]
    omega
/-! ### texts of printable signs -/
theorem As.app {a b : Str} (h : As a) (k : As b) : As (a ++ b) := fun c hc => by
  rw [cps_toList_append, List.mem_append] at hc
  exact hc.elim (h c) (k c)
theorem As.lit (x : String) (h : (Str.ofString x).cps.toList.all (fun c => decide (c = 10 ∨ 32 ≤ c ∧ c ≤ 126)) = true) : As (Str.ofString x) := fun c hc => by simpa using List.all_eq_true.mp h c hc
def isA (n : Nat) (s : Str) : Prop := s.length ≤ n ∧ As s
theorem str_len_app (a b : Str) : (a ++ b).length = a.length + b.length := strLen_append a b
theorem isA.app {m n : Nat} {a b : Str} (h : isA m a) (k : isA n b) : isA (m + n) (a ++ b) := ⟨by rw [str_len_app]; have := h.1; have := k.1; omega, h.2.app k.2⟩
theorem isA.mono {m n : Nat} {a : Str} (h : isA m a) (k : m ≤ n) : isA n a := ⟨Nat.le_trans h.1 k, h.2⟩
theorem lit_a (x : String) (n : Nat) (h : ((Str.ofString x).length ≤ n ∧ (Str.ofString x).cps.toList.all (fun c => decide (c = 10 ∨ 32 ≤ c ∧ c ≤ 126)) = true)) : isA n (Str.ofString x) := ⟨h.1, As.lit x h.2⟩
theorem add_strA {a b : Str} {m n : Nat} (h : isA m a) (k : isA n b) (hs : m + n ≤ 4000000) : addD (.str a) (.str b) = some (.str (a ++ b)) := if_pos (sz_of (by have := h.1; have := k.1; omega))
end BV

namespace K01
open PySem PySem.Spec PyProof.Rows L2 Evl BV
def topS (i : Nat) : Stmt := PySem.Challenge.pw_onlywith_k01_words_numbers_and_variables.main.body.getD i (.Pass ⟨0, 0, 0, 0⟩)

abbrev s_draw : Stmt := topS 12
theorem sc_draw : FnScope ["_law_purse_here", "_law_many", "_law_great", "_law_cell", "_law_turn", "_law_mixed"] ["_law_purse_here", "_law_many"] (defScope s_draw) := ⟨rfl, rfl, rfl, by decide +kernel, rfl, by decide +kernel, by decide +kernel⟩
section
variable {P : Program} {w : World} {K : PySem.W.Frag} {mg : Str → Option Value} {base : Heap}
theorem ok_draw {f : Addr} {fd : FuncData} (F : Fun K "_law_draw" "_law_draw" s_draw f fd) (ml : mg "len" = none) (mi : mg "int" = none) : FnD P w K mg base 1 f fd ["_law_purse_here", "_law_many"] spDraw := by
  have nd := sc_draw.nd
  refine fnG_of F sc_draw (fun vs H Q E ⟨z, C, ds, T, o, dn, ⟨k, e, _⟩, _⟩ => by rw [dn.len, e]; rfl) fun cdv A out s H vs Q E hr gd ⟨z, C, ds, T, o, dn, ⟨k, e, k1, k2, hT⟩, fin⟩ => ?_
  subst e
  obtain ⟨v0, v1, e1, e2, e3⟩ := dns2 dn
  rw [dn_pur.mp e2, dn_int.mp e3] at e1
  subst e1
  obtain ⟨gs, cs, sm, n, hp, hgg, hc, hgl, hcn, hcl⟩ := o.pur.at_
  have pe_i : ∀ {X : Cx} {e : Expr} {t : TE} {p pos : Pos}, Gl X "int" → X.mg "int" = none → PE X e t → (starEach [e] X.env = (false, eval e X.env) :: starEach [] X.env) → ((backTo pos (starEach [] X.env)).any (·.1) = false) → PE X (.Call (.Name "int" p) [e] [] pos) (tCB _ (tCons t tNil)) := fun g m h h1 h2 => pe_callTy call_int1 g m PyProof.Rows.boot_int (pa_cons h pa_nil h1) (by decide) (by decide) h1 h2
  refine ⟨_, (pss_cons (ps_set (i := 2) nd rfl (.inl rfl) (pe_ix ix_list (pv 0) pe_int (fun _ _ => rfl)))
    (pss_cons (ps_if (pt_cmpR (op_neD (by have := hr.units; exact this)) (pv 2) (pe_lst pa_nil) (nomark _))
      (pss_cons (ps_set (i := 3) nd rfl (.inl rfl) (pe_bm0 PySem.F.plainAttrs_list PySem.F.slot_list_pop PySem.F.type_list_pop mt_pop (pv 2)))
      (pss_cons (ps_if (pt_cmpR op_ge (pv 3) (pv 1) (nomark _))
        (pss_one (ps_expr (pe_bm PySem.F.plainAttrs_list PySem.F.slot_list_append PySem.F.type_list_append mt_append (pv 2) (pa_cons (pe_op op_fdiv (pv 3) (pv 1)) pa_nil)))) pss_nil)
      (pss_one (ps_ret (pe_op op_mod (pe_i (by rfl) mi (pv 3) rfl rfl) (pv 1)))))) pss_nil)
    (pss_cons (ps_asg (pe_op op_add (pe_ix ix_list (pv 0) pe_int (fun _ _ => rfl)) pe_int) (pg_sub (pv 0) pe_int set_list))
    (pss_cons (ps_set (i := 4) nd rfl (.inl rfl) (pe_ix ix_list (pv 0) pe_int (fun _ _ => rfl)))
    (pss_cons (ps_set (i := 3) nd rfl (.inl rfl) (pe_ix ix_list (pe_ix ix_list (pv 0) pe_int (fun _ _ => rfl)) (pe_op op_mod (pe_i (by rfl) mi (pv 4) rfl rfl) (pe_callB call_len_seq (by rfl) ml PySem.boot_len (pa_cons (pe_ix ix_list (pv 0) pe_int (fun _ _ => rfl)) pa_nil))) (fun _ _ => rfl)))
    (pss_cons (ps_set (i := 5) nd rfl (.inl rfl) (pe_i (by rfl) mi (pe_op op_add (pe_op op_add (pe_op op_mul (pv 3) pe_int) (pe_op op_mul (pe_ix ix_list (pv 0) pe_int (fun _ _ => rfl)) pe_int)) (pe_op op_mul (pv 4) pe_int)) rfl rfl))
    (pss_cons (ps_set (i := 5) nd rfl (.inl rfl) (pe_op op_mod (pe_i (by rfl) mi (pv 5) rfl rfl) pe_int))
    (pss_cons (ps_set (i := 5) nd rfl (.inl rfl) (pe_op op_mod (pe_i (by rfl) mi (pe_op op_add (pe_op op_add (pe_op op_mul (pv 5) (pv 5)) (pe_op op_mul (pv 4) pe_int)) pe_int) rfl rfl) pe_int))
    (pss_one (ps_ret (pe_op op_mod (pe_op op_fdiv (pe_op op_mod (pe_i (by rfl) mi (pe_op op_add (pe_op op_add (pe_op op_mul (pv 5) (pv 5)) (pe_op op_mul pe_int (pv 5))) (pv 4)) rfl rfl) pe_int) pe_int) (pv 1))))))))))) : PSs _ (defBody s_draw) _).nox, ?_⟩
  -- great = the purse's first
  refine ⟨.ref z.p, rfl, z.p, _, 0, .ref z.g, rfl, rfl, sq_of hp, rfl, ?_⟩
  -- great != []
  refine ⟨.ref z.g, rfl, Nat.zero_le _, fun q hq => ?_⟩
  have nqg : z.g ≠ q := fun e => o.pur.gn (by rw [e]; exact hq)
  have nqp : z.p ≠ q := fun e => o.pur.pn (by rw [e]; exact hq)
  have nqc : z.c ≠ q := fun e => o.pur.cn (by rw [e]; exact hq)
  have hg1 : (upd H q (.lst [])) z.g = some (.lst (gs.map V.int)) := by rw [upd_ne nqg]; exact hgg
  have hp1 : (upd H q (.lst [])) z.p = some (.lst [.ref z.g, .ref z.c, .int sm, .int n]) := by rw [upd_ne nqp]; exact hp
  have hc1 : (upd H q (.lst [])) z.c = some (.lst (cs.map V.int)) := by rw [upd_ne nqc]; exact hc
  have kp1 : ∀ a u, H a = some u → (upd H q (.lst [])) a = some u := Ex.new hq
  generalize hH1 : upd H q (.lst []) = H1 at hg1 hp1 hc1 kp1
  have hq1 : H1 q = some (.lst []) := by rw [← hH1]; exact upd_same
  refine ⟨.list (gs.map PyData.int), .list [], .lst (sq_of hg1) (dpAll_ints gs), .lst (sq_of hq1) .nil, shaped_ints gs, shaped_ints [], _, rfl, ?_⟩
  rcases List.eq_nil_or_concat gs with hgs | ⟨gs', g, hgs⟩
  · subst hgs
    refine iteF ?_
    -- the count
    refine ⟨.ref z.p, rfl, z.p, _, 3, .int n, rfl, rfl, sq_of hp1, rfl, n, 1, rfl, rfl, ?_⟩
    refine ⟨.ref z.p, rfl, z.p, _, 3, 3, rfl, rfl, hp1, rfl, ?_⟩
    have hp2 : (upd H1 z.p (.lst [.ref z.g, .ref z.c, .int sm, .int (n + 1)])) z.p = some (.lst [.ref z.g, .ref z.c, .int sm, .int (n + 1)]) := upd_same
    have hg2 : (upd H1 z.p (.lst [.ref z.g, .ref z.c, .int sm, .int (n + 1)])) z.g = some (.lst []) := by rw [upd_ne o.pur.pg.symm]; exact hg1
    have hc2 : (upd H1 z.p (.lst [.ref z.g, .ref z.c, .int sm, .int (n + 1)])) z.c = some (.lst (cs.map V.int)) := by rw [upd_ne o.pur.pc.symm]; exact hc1
    have kp2 : ∀ a u, H a = some u → a ≠ z.p → a ≠ z.g → (upd H1 z.p (.lst [.ref z.g, .ref z.c, .int sm, .int (n + 1)])) a = some u := fun a u e n1 _ => by rw [upd_ne n1]; exact kp1 a u e
    show tSeq _ _ _ _ (upd H1 z.p (.lst [.ref z.g, .ref z.c, .int sm, .int (n + 1)]))
    generalize upd H1 z.p (.lst [.ref z.g, .ref z.c, .int sm, .int (n + 1)]) = H2 at hp2 hg2 hc2 kp2
    -- turn
    refine ⟨.ref z.p, rfl, z.p, _, 3, .int (n + 1), rfl, rfl, sq_of hp2, rfl, ?_⟩
    -- cell
    have hcl0 : (0 : Int) < (cs.map V.int).length := by
      rw [List.length_map]
      cases cs with
      | nil => exact absurd rfl hcn
      | cons => simp only [List.length_cons]; omega
    obtain ⟨m1, m2⟩ := fmod_pos (i := n + 1) hcl0
    have hat : ∃ c, atI (cs.map V.int) ((n + 1) % ((cs.map V.int).length : Int)) = some (.int c) := by
      have hj : ((n + 1) % ((cs.map V.int).length : Int)).toNat < cs.length := by
        rw [List.length_map] at m2 ⊢
        rw [List.length_map] at m1
        omega
      refine ⟨cs[((n + 1) % ((cs.map V.int).length : Int)).toNat], ?_⟩
      refine at_of (j := ((n + 1) % ((cs.map V.int).length : Int)).toNat) (by omega) ?_
      rw [List.getElem?_map, List.getElem?_eq_getElem hj]
      rfl
    obtain ⟨c, hat⟩ := hat
    refine ⟨.ref z.p, rfl, z.p, _, 1, .ref z.c, rfl, rfl, sq_of hp2, rfl, ?_⟩
    refine ⟨.int (n + 1), rfl, .inl ⟨n + 1, rfl, ?_⟩⟩
    refine ⟨.ref z.p, rfl, z.p, _, 1, .ref z.c, rfl, rfl, sq_of hp2, rfl, z.c, _, rfl, .inl (sq_of hc2), ?_⟩
    refine ⟨n + 1, _, rfl, rfl, hcl0, ?_⟩
    refine ⟨z.c, _, _, .int c, rfl, rfl, sq_of hc2, hat, ?_⟩
    -- mixed
    refine ⟨.int c, rfl, c, 1181783497276652981, rfl, rfl, .inr ⟨by decide, by decide⟩, ?_⟩
    refine ⟨.ref z.p, rfl, z.p, _, 2, .int sm, rfl, rfl, sq_of hp2, rfl, sm, 7046029254386353131, rfl, rfl, .inr ⟨by decide, by decide⟩, ?_⟩
    refine ⟨_, _, rfl, rfl, ?_⟩
    refine ⟨.int (n + 1), rfl, n + 1, 3037000507, rfl, rfl, .inr ⟨by decide, by decide⟩, ?_⟩
    refine ⟨_, _, rfl, rfl, .inl ⟨_, rfl, ?_⟩⟩
    generalize c * 1181783497276652981 + sm * 7046029254386353131 + (n + 1) * 3037000507 = x1
    refine ⟨.int x1, rfl, .inl ⟨x1, rfl, x1, 2305843009213693951, rfl, rfl, by show (0:Int) < 2305843009213693951; decide, ?_⟩⟩
    obtain ⟨a1, a2⟩ := fmod_pos (i := x1) (j := 2305843009213693951) (by decide)
    dsimp only
    generalize x1 % 2305843009213693951 = x2 at a1 a2 ⊢
    refine ⟨.int x2, rfl, .int x2, rfl, x2, x2, rfl, rfl, .inl ⟨by omega, by omega⟩, ?_⟩
    refine ⟨.int (n + 1), rfl, n + 1, 2862933555777941757, rfl, rfl, .inr ⟨by decide, by decide⟩, ?_⟩
    refine ⟨_, _, rfl, rfl, _, _, rfl, rfl, .inl ⟨_, rfl, ?_⟩⟩
    generalize x2 * x2 + (n + 1) * 2862933555777941757 + 1442695041 = x3
    refine ⟨x3, 2305843009213693921, rfl, rfl, by show (0:Int) < 2305843009213693921; decide, ?_⟩
    obtain ⟨b1, b2⟩ := fmod_pos (i := x3) (j := 2305843009213693921) (by decide)
    dsimp only
    generalize x3 % 2305843009213693921 = x4 at b1 b2 ⊢
    refine ⟨.int x4, rfl, .int x4, rfl, x4, x4, rfl, rfl, .inl ⟨by omega, by omega⟩, ?_⟩
    refine ⟨.int x4, rfl, 3, x4, rfl, rfl, .inl ⟨by decide, by decide⟩, ?_⟩
    refine ⟨_, _, rfl, rfl, .int (n + 1), rfl, _, _, rfl, rfl, .inl ⟨_, rfl, ?_⟩⟩
    generalize x4 * x4 + 3 * x4 + (n + 1) = x5
    refine ⟨x5, 2305843009213693951, rfl, rfl, by show (0:Int) < 2305843009213693951; decide, ?_⟩
    refine ⟨_, 1048576, rfl, rfl, ⟨by decide, by decide⟩, ?_⟩
    refine ⟨.int k, rfl, _, k, rfl, rfl, by show 0 < k; omega, ?_⟩
    obtain ⟨c1, c2⟩ := fmod_pos (i := x5 % 2305843009213693951 / 1048576) (j := k) (by omega)
    exact fin _ _ C H2 (hT _ c1 c2) (Tr.drawn o kp2 ⟨[], cs, sm, n + 1, hp2, hg2, hc2, by simp, hcn, hcl⟩) (dn_int.mpr rfl)
  · have hgs' : gs = gs' ++ [g] := by simpa using hgs
    subst hgs'
    have hne : (!PyData.eqv (.list ((gs' ++ [g]).map PyData.int)) (.list [])) = true := by
      cases gs' <;> rfl
    rw [hne]
    refine iteT ?_
    -- pop
    have hpop : ((gs' ++ [g]).map V.int)[((gs' ++ [g]).map V.int).length - 1]? = some (.int g) := by simp
    have hdl : ((gs' ++ [g]).map V.int).dropLast = gs'.map V.int := by simp
    have hgl' : gs'.length + 1 ≤ 64 := by simpa using hgl
    refine ⟨.ref z.g, rfl, .inl ⟨rfl, _, sq_of hg1⟩, z.g, _, .int g, rfl, rfl, hg1, hpop, ?_⟩
    rw [hdl]
    have hg2 : (upd H1 z.g (.lst (gs'.map V.int))) z.g = some (.lst (gs'.map V.int)) := upd_same
    have hp2 : (upd H1 z.g (.lst (gs'.map V.int))) z.p = some (.lst [.ref z.g, .ref z.c, .int sm, .int n]) := by rw [upd_ne o.pur.pg]; exact hp1
    have hc2 : (upd H1 z.g (.lst (gs'.map V.int))) z.c = some (.lst (cs.map V.int)) := by rw [upd_ne o.pur.gc.symm]; exact hc1
    have kp2 : ∀ a u, H a = some u → a ≠ z.p → a ≠ z.g → (upd H1 z.g (.lst (gs'.map V.int))) a = some u := fun a u e _ n2 => by rw [upd_ne n2]; exact kp1 a u e
    generalize upd H1 z.g (.lst (gs'.map V.int)) = H2 at hp2 hg2 hc2 kp2
    -- what is left of the cell goes back
    have last : ∀ H3, (∃ (gs cs : List Int) (s k : Int), H3 z.p = some (.lst [.ref z.g, .ref z.c, .int s, .int k]) ∧ H3 z.g = some (.lst (gs.map V.int)) ∧ H3 z.c = some (.lst (cs.map V.int)) ∧ gs.length ≤ 64 ∧ cs ≠ [] ∧ cs.length ≤ 64) → (∀ a u, H a = some u → a ≠ z.p → a ≠ z.g → H3 a = some u) →
        Q (.int (g % k)) H3 := fun H3 h1 h2 => by
      obtain ⟨c1, c2⟩ := fmod_pos (i := g) (j := k) (by omega)
      exact fin _ _ C H3 (hT _ c1 c2) (Tr.drawn o h2 h1) (dn_int.mpr rfl)
    refine ⟨.int g, rfl, .int k, rfl, g, k, rfl, rfl, _, rfl, ite2 (fun _ => ?_) (fun _ => ?_)⟩
    · refine ⟨.ref z.g, rfl, .inl ⟨rfl, _, sq_of hg2⟩, .int g, rfl, .int k, rfl, g, k, rfl, rfl, ⟨by omega, k2⟩, ?_⟩
      refine ⟨z.g, _, .int (g / k), rfl, rfl, hg2, by rw [List.length_map]; exact Nat.lt_of_lt_of_le (by omega : gs'.length < 1000) (by decide), ?_⟩
      refine ⟨.int g, rfl, .inl ⟨g, rfl, .int k, rfl, g, k, rfl, rfl, by show 0 < k; omega, ?_⟩⟩
      refine last _ ⟨gs' ++ [g / k], cs, sm, n, by rw [upd_ne o.pur.pg]; exact hp2, by rw [upd_same]; simp, by rw [upd_ne o.pur.gc.symm]; exact hc2, by simpa using hgl', hcn, hcl⟩ fun a u e n1 n2 => by rw [upd_ne n2]; exact kp2 a u e n1 n2
    · refine ⟨.int g, rfl, .inl ⟨g, rfl, .int k, rfl, g, k, rfl, rfl, by show 0 < k; omega, ?_⟩⟩
      exact last _ ⟨gs', cs, sm, n, hp2, hg2, hc2, by omega, hcn, hcl⟩ kp2
end
end K01

namespace K01
open PySem PySem.Spec PyProof.Rows L2 Evl BV
abbrev s_is_integer : Stmt := topS 4
abbrev N_is_integer : List Str := ["value"]
theorem sc_is_integer : FnScope N_is_integer ["value"] (defScope s_is_integer) := ⟨rfl, rfl, rfl, by decide +kernel, rfl, by decide +kernel, by decide +kernel⟩
def m_is_integer : MS :=
    (mRet [] (mAndV (mIsi "int" (mVar 0)) (mNotV (mIsi "bool" (mVar 0)))))
theorem ok_is_integer {P : Program} {w : World} {K : PySem.W.Frag} {mg : Str → Option Value} {base : Heap} {f : Addr} {fd : FuncData} (F : Fun K "is_integer" "is_integer" s_is_integer f fd) (bi_isinstance : mg "isinstance" = none) (bi_int : mg "int" = none) (bi_bool : mg "bool" = none) : FnD P w K mg base 1 f fd ["value"] (spOf 1 N_is_integer.length (m_is_integer )) := by
  have nd := sc_is_integer.nd
  refine fnD_of F sc_is_integer fun cdv A out s H E hr hgd => ?_
  have hu := hr.units
  exact (pdss_one (pds_ret [] (pd_and (pd_isi (pd_v 0) bi_isinstance bi_int boot_int) (pd_one (pd_not (pd_isi (pd_v 0) bi_isinstance bi_bool boot_bool))))))
abbrev s_is_lettered : Stmt := topS 5
abbrev N_is_lettered : List Str := ["text", "most"]
theorem sc_is_lettered : FnScope N_is_lettered ["text", "most"] (defScope s_is_lettered) := ⟨rfl, rfl, rfl, by decide +kernel, rfl, by decide +kernel, by decide +kernel⟩
def m_is_lettered : MS :=
    (mRet [] (mAndV (mOp leD (mCB lenD (maCons (mVar 0) maNil)) (mVar 1)) (mAndV (mStM (fun s => .bl (Txt.isascii s)) (mVar 0)) (mAndV (mStM (fun s => .bl (Txt.isalpha s)) (mVar 0)) (mStM (fun s => .bl (Txt.islower s)) (mVar 0))))))
theorem ok_is_lettered {P : Program} {w : World} {K : PySem.W.Frag} {mg : Str → Option Value} {base : Heap} {f : Addr} {fd : FuncData} (F : Fun K "is_lettered" "is_lettered" s_is_lettered f fd) (bi_len : mg "len" = none) : FnD P w K mg base 1 f fd ["text", "most"] (spOf 2 N_is_lettered.length (m_is_lettered )) := by
  have nd := sc_is_lettered.nd
  refine fnD_of F sc_is_lettered fun cdv A out s H E hr hgd => ?_
  have hu := hr.units
  exact (pdss_one (pds_ret [] (pd_and (pd_cmp opd_le (pd_callB cd_len (by rfl) bi_len boot_len (pda_cons (pd_v 0) pda_nil)) (pd_v 1) (nomark _)) (pd_and (pd_isascii (pd_v 0)) (pd_and (pd_isalpha (pd_v 0)) (pd_one (pd_islower (pd_v 0))))))))
abbrev s_is_word : Stmt := topS 6
abbrev N_is_word : List Str := ["value"]
theorem sc_is_word : FnScope N_is_word ["value"] (defScope s_is_word) := ⟨rfl, rfl, rfl, by decide +kernel, rfl, by decide +kernel, by decide +kernel⟩
def m_is_word (sp_is_lettered : SpD) : MS :=
    (mRet [] (mAndV (mIsi "str" (mVar 0)) (mCall sp_is_lettered (maCons (mVar 0) (maCons (mC (.int 12)) maNil)))))
theorem ok_is_word {P : Program} {w : World} {K : PySem.W.Frag} {mg : Str → Option Value} {base : Heap} {f : Addr} {fd : FuncData} (F : Fun K "is_word" "is_word" s_is_word f fd) (bi_isinstance : mg "isinstance" = none) (bi_str : mg "str" = none) (gi_MAX_WORD : ∃ u, mg "MAX_WORD" = some u ∧ RelV (.int 12) u) {sp_is_lettered : SpD} (G_is_lettered : Kn P w K mg base "is_lettered" 1 ["text", "most"] sp_is_lettered) : FnD P w K mg base 2 f fd ["value"] (spOf 1 N_is_word.length (m_is_word sp_is_lettered)) := by
  have nd := sc_is_word.nd
  refine fnD_of F sc_is_word fun cdv A out s H E hr hgd => ?_
  have hu := hr.units
  exact (pdss_one (pds_ret [] (pd_and (pd_isi (pd_v 0) bi_isinstance bi_str boot_str) (pd_one (pd_callN G_is_lettered hr (by decide) hgd (pda_cons (pd_v 0) (pda_cons (pd_gint (n := 12) (by rfl) gi_MAX_WORD) pda_nil)))))))
abbrev s_is_value : Stmt := topS 7
abbrev N_is_value : List Str := ["value"]
theorem sc_is_value : FnScope N_is_value ["value"] (defScope s_is_value) := ⟨rfl, rfl, rfl, by decide +kernel, rfl, by decide +kernel, by decide +kernel⟩
def m_is_value (sp_is_integer sp_is_word : SpD) : MS :=
    (mSeq (mIfS [] (tBl (mCall sp_is_integer (maCons (mVar 0) maNil)))
    (mRet [] (mChain leD leD (mUn negD (mC (.int 1000000000))) (mVar 0) (mC (.int 1000000000))))
    mNext)
    (mRet [] (mCall sp_is_word (maCons (mVar 0) maNil))))
theorem ok_is_value {P : Program} {w : World} {K : PySem.W.Frag} {mg : Str → Option Value} {base : Heap} {f : Addr} {fd : FuncData} (F : Fun K "is_value" "is_value" s_is_value f fd) (gi_MAX_NUMBER : ∃ u, mg "MAX_NUMBER" = some u ∧ RelV (.int 1000000000) u) {sp_is_integer : SpD} (G_is_integer : Kn P w K mg base "is_integer" 1 ["value"] sp_is_integer) {sp_is_word : SpD} (G_is_word : Kn P w K mg base "is_word" 2 ["value"] sp_is_word) : FnD P w K mg base 3 f fd ["value"] (spOf 1 N_is_value.length (m_is_value sp_is_integer sp_is_word)) := by
  have nd := sc_is_value.nd
  refine fnD_of F sc_is_value fun cdv A out s H E hr hgd => ?_
  have hu := hr.units
  exact (pdss_cons (pds_if [] (pdt_val (pd_callN G_is_integer hr (by decide) hgd (pda_cons (pd_v 0) pda_nil)))
    (pdss_one (pds_ret [] (pd_chain opd_le opd_le (pd_un und_neg (pd_gint (n := 1000000000) (by rfl) gi_MAX_NUMBER)) (pd_v 0) (pd_gint (n := 1000000000) (by rfl) gi_MAX_NUMBER))))
    pdss_nil)
    (pdss_one (pds_ret [] (pd_callN G_is_word hr (by decide) hgd (pda_cons (pd_v 0) pda_nil)))))
abbrev s_is_mark : Stmt := topS 8
abbrev N_is_mark : List Str := ["figures", "number"]
theorem sc_is_mark : FnScope N_is_mark ["figures"] (defScope s_is_mark) := ⟨rfl, rfl, rfl, by decide +kernel, rfl, by decide +kernel, by decide +kernel⟩
def m_is_mark : MS :=
    (mSeq (mIfS [] (mOrT (tBl (mOp gtD (mCB lenD (maCons (mVar 0) maNil)) (mCB lenD (maCons (mCB strD (maCons (mC (.int 1000000000)) maNil)) maNil)))) (mNotT (mAndT (tBl (mStM (fun s => .bl (Txt.isascii s)) (mVar 0))) (tBl (mStM (fun s => .bl (Txt.isdigit s)) (mVar 0))))))
    (mRet [] (mC (.bl false)))
    mNext)
    (mSeq (mAsg [] 1 (mCB int2D (maCons (mVar 0) maNil)))
    (mRet [] (mAndV (mOp leD (mVar 1) (mC (.int 1000000000))) (mOp eqD (mCB strD (maCons (mVar 1) maNil)) (mVar 0))))))
theorem ok_is_mark {P : Program} {w : World} {K : PySem.W.Frag} {mg : Str → Option Value} {base : Heap} {f : Addr} {fd : FuncData} (F : Fun K "is_mark" "is_mark" s_is_mark f fd) (bi_len : mg "len" = none) (bi_str : mg "str" = none) (bi_int : mg "int" = none) (gi_MAX_NUMBER : ∃ u, mg "MAX_NUMBER" = some u ∧ RelV (.int 1000000000) u) : FnD P w K mg base 1 f fd ["figures"] (spOf 1 N_is_mark.length (m_is_mark )) := by
  have nd := sc_is_mark.nd
  refine fnD_of F sc_is_mark fun cdv A out s H E hr hgd => ?_
  have hu := hr.units
  exact (pdss_cons (pds_if [] (PDW.pdt (pdw_or (pdt_cmp opd_gt (pd_callB cd_len (by rfl) bi_len boot_len (pda_cons (pd_v 0) pda_nil)) (pd_callB cd_len (by rfl) bi_len boot_len (pda_cons (pd_callTy cd_str (by rfl) bi_str boot_str (pda_cons (pd_gint (n := 1000000000) (by rfl) gi_MAX_NUMBER) pda_nil)) pda_nil)) (nomark _)) (pdw_or1 (pdt_not (PDW.pdt (pdw_and (pdt_val (pd_isascii (pd_v 0))) (pdw_and1 (pdt_val (pd_isdigit (pd_v 0))))))))))
    (pdss_one (pds_ret [] pd_bl))
    pdss_nil)
    (pdss_cons (pds_set [] 1 nd (pd_callTy cd_int2 (by rfl) bi_int boot_int (pda_cons (pd_v 0) pda_nil)))
    (pdss_one (pds_ret [] (pd_and (pd_cmp opd_le (pd_v 1) (pd_gint (n := 1000000000) (by rfl) gi_MAX_NUMBER) (nomark _)) (pd_one (pd_cmp (opd_eq hu) (pd_callTy cd_str (by rfl) bi_str boot_str (pda_cons (pd_v 1) pda_nil)) (pd_v 0) (nomark _))))))))
abbrev s_is_variable : Stmt := topS 9
abbrev N_is_variable : List Str := ["value", "letters", "point", "figures"]
theorem sc_is_variable : FnScope N_is_variable ["value"] (defScope s_is_variable) := ⟨rfl, rfl, rfl, by decide +kernel, rfl, by decide +kernel, by decide +kernel⟩
def m_is_variable (sp_is_lettered sp_is_mark : SpD) : MS :=
    (mSeq (mIfS [] (mOrT (mNotT (tBl (mIsi "str" (mVar 0)))) (tBl (mOp neD (mSl (mVar 0) moNo (moYes (mC (.int 1)))) (mC (.str (Str.ofString "?"))))))
    (mRet [] (mC (.bl false)))
    mNext)
    (mSeq (mAsgT [] (.tp [1, 2, 3]) (mPart (mSl (mVar 0) (moYes (mC (.int 1))) moNo) (mC (.str (Str.ofString ".")))))
    (mRet [] (mAndV (mCall sp_is_lettered (maCons (mVar 1) (maCons (mC (.int 3)) maNil))) (mOrV (mOp eqD (mVar 2) (mC (.str (Str.ofString "")))) (mCall sp_is_mark (maCons (mVar 3) maNil)))))))
theorem ok_is_variable {P : Program} {w : World} {K : PySem.W.Frag} {mg : Str → Option Value} {base : Heap} {f : Addr} {fd : FuncData} (F : Fun K "is_variable" "is_variable" s_is_variable f fd) (bi_isinstance : mg "isinstance" = none) (bi_str : mg "str" = none) (gi_MAX_LETTERS : ∃ u, mg "MAX_LETTERS" = some u ∧ RelV (.int 3) u) {sp_is_lettered : SpD} (G_is_lettered : Kn P w K mg base "is_lettered" 1 ["text", "most"] sp_is_lettered) {sp_is_mark : SpD} (G_is_mark : Kn P w K mg base "is_mark" 1 ["figures"] sp_is_mark) : FnD P w K mg base 2 f fd ["value"] (spOf 1 N_is_variable.length (m_is_variable sp_is_lettered sp_is_mark)) := by
  have nd := sc_is_variable.nd
  refine fnD_of F sc_is_variable fun cdv A out s H E hr hgd => ?_
  have hu := hr.units
  exact (pdss_cons (pds_if [] (PDW.pdt (pdw_or (pdt_not (pdt_val (pd_isi (pd_v 0) bi_isinstance bi_str boot_str))) (pdw_or1 (pdt_cmp (opd_ne hu) (pd_slice (pd_v 0) pdp_none (pdp_some pd_int)) pd_str (nomark _)))))
    (pdss_one (pds_ret [] pd_bl))
    pdss_nil)
    (pdss_cons (pds_tt [] (t := (.tp [1, 2, 3])) (pd_partition (pd_slice (pd_v 0) (pdp_some pd_int) pdp_none) pd_str) (pgt_tp rfl (pgs_nm 1 nd (pgs_nm 2 nd (pgs_nm 3 nd pgs_end)))))
    (pdss_one (pds_ret [] (pd_and (pd_callN G_is_lettered hr (by decide) hgd (pda_cons (pd_v 1) (pda_cons (pd_gint (n := 3) (by rfl) gi_MAX_LETTERS) pda_nil))) (pd_one (pd_or (pd_cmp (opd_eq hu) (pd_v 2) pd_str (nomark _)) (pd_one (pd_callN G_is_mark hr (by decide) hgd (pda_cons (pd_v 3) pda_nil))))))))))
abbrev s_purse : Stmt := topS 11
abbrev N_purse : List Str := ["_law_script", "_law_cells", "_law_cell"]
abbrev N_draw : List Str := ["_law_purse_here", "_law_many", "_law_great", "_law_cell", "_law_turn", "_law_mixed"]
abbrev s_pick : Stmt := topS 13
abbrev N_pick : List Str := ["_law_purse_here", "_law_some"]
theorem sc_pick : FnScope N_pick ["_law_purse_here", "_law_some"] (defScope s_pick) := ⟨rfl, rfl, rfl, by decide +kernel, rfl, by decide +kernel, by decide +kernel⟩
def m_pick (sp_draw : SpD) : MS :=
    (mRet [] (mOp ixD (mVar 1) (mCall sp_draw (maCons (mVar 0) (maCons (mCB lenD (maCons (mVar 1) maNil)) maNil)))))
theorem ok_pick {P : Program} {w : World} {K : PySem.W.Frag} {mg : Str → Option Value} {base : Heap} {f : Addr} {fd : FuncData} (F : Fun K "_law_pick" "_law_pick" s_pick f fd) (bi_len : mg "len" = none) {sp_draw : SpD} (G_draw : Kn P w K mg base "_law_draw" 1 ["_law_purse_here", "_law_many"] sp_draw) : FnD P w K mg base 2 f fd ["_law_purse_here", "_law_some"] (spOf 2 N_pick.length (m_pick sp_draw)) := by
  have nd := sc_pick.nd
  refine fnD_of F sc_pick fun cdv A out s H E hr hgd => ?_
  have hu := hr.units
  exact (pdss_one (pds_ret [] (pd_ix (pd_v 1) (pd_callN G_draw hr (by decide) hgd (pda_cons (pd_v 0) (pda_cons (pd_callB cd_len (by rfl) bi_len boot_len (pda_cons (pd_v 1) pda_nil)) pda_nil))) (fun _ _ => rfl))))
abbrev s_figures : Stmt := topS 14
abbrev N_figures : List Str := ["_law_purse_here", "_law_size", "_law_turn"]
theorem sc_figures : FnScope N_figures ["_law_purse_here", "_law_size"] (defScope s_figures) := ⟨rfl, rfl, rfl, by decide +kernel, rfl, by decide +kernel, by decide +kernel⟩
def m_figures (sp_draw : SpD) : MS :=
    (mRet [] (mJoin (mC (.str (Str.ofString ""))) (mLstO (moLc [2] (mRng1 (maCons (mVar 1) maNil)) (.nm 2) mYes (mCB strD (maCons (mCall sp_draw (maCons (mVar 0) (maCons (mC (.int 10)) maNil))) maNil))))))
theorem ok_figures {P : Program} {w : World} {K : PySem.W.Frag} {mg : Str → Option Value} {base : Heap} {f : Addr} {fd : FuncData} (F : Fun K "_law_figures" "_law_figures" s_figures f fd) (bi_range : mg "range" = none) (bi_str : mg "str" = none) {sp_draw : SpD} (G_draw : Kn P w K mg base "_law_draw" 1 ["_law_purse_here", "_law_many"] sp_draw) : FnD P w K mg base 2 f fd ["_law_purse_here", "_law_size"] (spOf 2 N_figures.length (m_figures sp_draw)) := by
  have nd := sc_figures.nd
  refine fnD_of F sc_figures fun cdv A out s H E hr hgd => ?_
  have hu := hr.units
  exact (pdss_one (pds_ret [] (pd_join pd_str (pd_ofO (pdo_lcN (own := [("_law_turn", 2)]) (t := (.nm 2)) (mt := mYes) (me := (mCB strD (maCons (mCall sp_draw (maCons (mVar 0) (maCons (mC (.int 10)) maNil))) maNil))) rfl nd (PDR.pdi (pdr_1 (by rfl) bi_range (pda_cons (pd_v 1) pda_nil))) (blkOk_by (N := N_figures) (sc := defScope s_figures) (by decide +kernel)) (by decide) (fun _ _ _ _ _ => (pgt_nm 2 nd)) (fun _ _ _ _ _ => pdts_nil) (fun _ _ _ _ _ => (pd_callTy cd_str (by rfl) bi_str boot_str (pda_cons (pd_callN G_draw hr (by decide) hgd (pda_cons (pd_v 0) (pda_cons pd_int pda_nil))) pda_nil))))))))
abbrev s_letters : Stmt := topS 15
abbrev N_letters : List Str := ["_law_purse_here", "_law_size", "_law_letters_here", "_law_turn"]
theorem sc_letters : FnScope N_letters ["_law_purse_here", "_law_size"] (defScope s_letters) := ⟨rfl, rfl, rfl, by decide +kernel, rfl, by decide +kernel, by decide +kernel⟩
def m_letters (sp_draw sp_pick : SpD) : MS :=
    (mSeq (mAsg [] 2 (mC (.str (Str.ofString "abcdefghijklmnopqrstuvwxyz"))))
    (mSeq (mIfS [] (mOrT (tBl (mOp gtD (mVar 1) (mC (.int 24)))) (tBl (mOp eqD (mCall sp_draw (maCons (mVar 0) (maCons (mC (.int 4)) maNil))) (mC (.int 0)))))
    (mRet [] (mOp mulD (mCall sp_pick (maCons (mVar 0) (maCons (mVar 2) maNil))) (mVar 1)))
    mNext)
    (mRet [] (mJoin (mC (.str (Str.ofString ""))) (mLstO (moLc [3] (mRng1 (maCons (mVar 1) maNil)) (.nm 3) mYes (mCall sp_pick (maCons (mVar 0) (maCons (mVar 2) maNil)))))))))
theorem ok_letters {P : Program} {w : World} {K : PySem.W.Frag} {mg : Str → Option Value} {base : Heap} {f : Addr} {fd : FuncData} (F : Fun K "_law_letters" "_law_letters" s_letters f fd) (bi_range : mg "range" = none) {sp_draw : SpD} (G_draw : Kn P w K mg base "_law_draw" 1 ["_law_purse_here", "_law_many"] sp_draw) {sp_pick : SpD} (G_pick : Kn P w K mg base "_law_pick" 2 ["_law_purse_here", "_law_some"] sp_pick) : FnD P w K mg base 3 f fd ["_law_purse_here", "_law_size"] (spOf 2 N_letters.length (m_letters sp_draw sp_pick)) := by
  have nd := sc_letters.nd
  refine fnD_of F sc_letters fun cdv A out s H E hr hgd => ?_
  have hu := hr.units
  exact (pdss_cons (pds_set [] 2 nd pd_str)
    (pdss_cons (pds_if [] (PDW.pdt (pdw_or (pdt_cmp opd_gt (pd_v 1) pd_int (nomark _)) (pdw_or1 (pdt_cmp (opd_eq hu) (pd_callN G_draw hr (by decide) hgd (pda_cons (pd_v 0) (pda_cons pd_int pda_nil))) pd_int (nomark _)))))
    (pdss_one (pds_ret [] (pd_op opd_mul (pd_callN G_pick hr (by decide) hgd (pda_cons (pd_v 0) (pda_cons (pd_v 2) pda_nil))) (pd_v 1))))
    pdss_nil)
    (pdss_one (pds_ret [] (pd_join pd_str (pd_ofO (pdo_lcN (own := [("_law_turn", 3)]) (t := (.nm 3)) (mt := mYes) (me := (mCall sp_pick (maCons (mVar 0) (maCons (mVar 2) maNil)))) rfl nd (PDR.pdi (pdr_1 (by rfl) bi_range (pda_cons (pd_v 1) pda_nil))) (blkOk_by (N := N_letters) (sc := defScope s_letters) (by decide +kernel)) (by decide) (fun _ _ _ _ _ => (pgt_nm 3 nd)) (fun _ _ _ _ _ => pdts_nil) (fun _ _ _ _ _ => (pd_callN G_pick hr (by decide) hgd (pda_cons (pd_v 0) (pda_cons (pd_v 2) pda_nil)))))))))))
abbrev s_integer : Stmt := topS 16
abbrev N_integer : List Str := ["_law_purse_here", "_law_sign", "_law_way"]
theorem sc_integer : FnScope N_integer ["_law_purse_here"] (defScope s_integer) := ⟨rfl, rfl, rfl, by decide +kernel, rfl, by decide +kernel, by decide +kernel⟩
def m_integer (sp_draw sp_pick sp_figures : SpD) : MS :=
    (mSeq (mPar2 [] 1 2 (maCons (mCall sp_pick (maCons (mVar 0) (maCons (mLst (maCons (mC (.int 1)) (maCons (mUn negD (mC (.int 1))) maNil))) maNil))) (maCons (mCall sp_draw (maCons (mVar 0) (maCons (mC (.int 4)) maNil))) maNil)))
    (mSeq (mIfS [] (tBl (mOp eqD (mVar 2) (mC (.int 0))))
    (mRet [] (mOp mulD (mVar 1) (mCall sp_draw (maCons (mVar 0) (maCons (mC (.int 120)) maNil)))))
    mNext)
    (mSeq (mIfS [] (tBl (mOp eqD (mVar 2) (mC (.int 1))))
    (mRet [] (mOp mulD (mVar 1) (mOp addD (mOp powD (mC (.int 10)) (mC (.int 9))) (mCall sp_pick (maCons (mVar 0) (maCons (mLst (maCons (mC (.int 0)) (maCons (mC (.int 0)) (maCons (mC (.int 1)) (maCons (mC (.int 2)) (maCons (mUn negD (mC (.int 1))) maNil)))))) maNil))))))
    mNext)
    (mSeq (mIfS [] (tBl (mOp eqD (mVar 2) (mC (.int 2))))
    (mRet [] (mOp mulD (mVar 1) (mCB int2D (maCons (mCall sp_figures (maCons (mVar 0) (maCons (mOp addD (mC (.int 1)) (mCall sp_draw (maCons (mVar 0) (maCons (mC (.int 20)) maNil)))) maNil))) maNil))))
    mNext)
    (mRet [] (mOp mulD (mVar 1) (mCB int2D (maCons (mOp mulD (mCall sp_pick (maCons (mVar 0) (maCons (mC (.str (Str.ofString "123456789"))) maNil))) (mCall sp_pick (maCons (mVar 0) (maCons (mLst (maCons (mC (.int 9)) (maCons (mC (.int 10)) (maCons (mC (.int 11)) (maCons (mC (.int 19)) (maCons (mC (.int 400)) maNil)))))) maNil)))) maNil))))))))
theorem ok_integer {P : Program} {w : World} {K : PySem.W.Frag} {mg : Str → Option Value} {base : Heap} {f : Addr} {fd : FuncData} (F : Fun K "_law_integer" "_law_integer" s_integer f fd) (bi_int : mg "int" = none) {sp_draw : SpD} (G_draw : Kn P w K mg base "_law_draw" 1 ["_law_purse_here", "_law_many"] sp_draw) {sp_pick : SpD} (G_pick : Kn P w K mg base "_law_pick" 2 ["_law_purse_here", "_law_some"] sp_pick) {sp_figures : SpD} (G_figures : Kn P w K mg base "_law_figures" 2 ["_law_purse_here", "_law_size"] sp_figures) : FnD P w K mg base 3 f fd ["_law_purse_here"] (spOf 1 N_integer.length (m_integer sp_draw sp_pick sp_figures)) := by
  have nd := sc_integer.nd
  refine fnD_of F sc_integer fun cdv A out s H E hr hgd => ?_
  have hu := hr.units
  exact (pdss_cons (pds_p2 [] 1 2 rfl nd (pda_cons (pd_callN G_pick hr (by decide) hgd (pda_cons (pd_v 0) (pda_cons (pd_lst (pda_cons pd_int (pda_cons (pd_un und_neg pd_int) pda_nil))) pda_nil))) (pda_cons (pd_callN G_draw hr (by decide) hgd (pda_cons (pd_v 0) (pda_cons pd_int pda_nil))) pda_nil)))
    (pdss_cons (pds_if [] (pdt_cmp (opd_eq hu) (pd_v 2) pd_int (nomark _))
    (pdss_one (pds_ret [] (pd_op opd_mul (pd_v 1) (pd_callN G_draw hr (by decide) hgd (pda_cons (pd_v 0) (pda_cons pd_int pda_nil))))))
    pdss_nil)
    (pdss_cons (pds_if [] (pdt_cmp (opd_eq hu) (pd_v 2) pd_int (nomark _))
    (pdss_one (pds_ret [] (pd_op opd_mul (pd_v 1) (pd_op opd_add (pd_op opd_pow pd_int pd_int) (pd_callN G_pick hr (by decide) hgd (pda_cons (pd_v 0) (pda_cons (pd_lst (pda_cons pd_int (pda_cons pd_int (pda_cons pd_int (pda_cons pd_int (pda_cons (pd_un und_neg pd_int) pda_nil)))))) pda_nil)))))))
    pdss_nil)
    (pdss_cons (pds_if [] (pdt_cmp (opd_eq hu) (pd_v 2) pd_int (nomark _))
    (pdss_one (pds_ret [] (pd_op opd_mul (pd_v 1) (pd_callTy cd_int2 (by rfl) bi_int boot_int (pda_cons (pd_callN G_figures hr (by decide) hgd (pda_cons (pd_v 0) (pda_cons (pd_op opd_add pd_int (pd_callN G_draw hr (by decide) hgd (pda_cons (pd_v 0) (pda_cons pd_int pda_nil)))) pda_nil))) pda_nil)))))
    pdss_nil)
    (pdss_one (pds_ret [] (pd_op opd_mul (pd_v 1) (pd_callTy cd_int2 (by rfl) bi_int boot_int (pda_cons (pd_op opd_mul (pd_callN G_pick hr (by decide) hgd (pda_cons (pd_v 0) (pda_cons pd_str pda_nil))) (pd_callN G_pick hr (by decide) hgd (pda_cons (pd_v 0) (pda_cons (pd_lst (pda_cons pd_int (pda_cons pd_int (pda_cons pd_int (pda_cons pd_int (pda_cons pd_int pda_nil)))))) pda_nil)))) pda_nil)))))))))
abbrev s_mark : Stmt := topS 17
abbrev N_mark : List Str := ["_law_purse_here", "_law_figures_here", "_law_some"]
theorem sc_mark : FnScope N_mark ["_law_purse_here"] (defScope s_mark) := ⟨rfl, rfl, rfl, by decide +kernel, rfl, by decide +kernel, by decide +kernel⟩
def m_mark (sp_figures sp_draw sp_pick : SpD) : MS :=
    (mSeq (mAsg [] 1 (mCall sp_figures (maCons (mVar 0) (maCons (mOp addD (mC (.int 1)) (mCall sp_draw (maCons (mVar 0) (maCons (mC (.int 11)) maNil)))) maNil))))
    (mSeq (mAsg [] 2 (mLst (maCons (mC (.str (Str.ofString ""))) (maCons (mC (.str (Str.ofString ""))) (maCons (mOp addD (mC (.str (Str.ofString "."))) (mVar 1)) (maCons (mOp addD (mC (.str (Str.ofString "."))) (mVar 1)) (maCons (mOp addD (mC (.str (Str.ofString "."))) (mCB strD (maCons (mCB int2D (maCons (mVar 1) maNil)) maNil))) (maCons (mC (.str (Str.ofString ".0"))) (maCons (mC (.str (Str.ofString ".00"))) (maCons (mOp addD (mC (.str (Str.ofString ".0"))) (mVar 1)) (maCons (mC (.str (Str.ofString "."))) maNil)))))))))))
    (mSeq (mAsg [] 2 (mOp addD (mVar 2) (mLst (maCons (mC (.str (Str.ofString ".1000000000"))) (maCons (mC (.str (Str.ofString ".1000000001"))) (maCons (mC (.str (Str.ofString ".999999999"))) (maCons (mC (.str (Str.ofString ".-1"))) (maCons (mC (.str (Str.ofString ".+1"))) (maCons (mC (.str (Str.ofString ". 1"))) (maCons (mC (.str (Str.ofString ".1.2"))) (maCons (mVar 1) (maCons (mC (.str (Str.ofString ".a"))) (maCons (mC (.str (Str.ofString "..1"))) maNil)))))))))))))
    (mRet [] (mCall sp_pick (maCons (mVar 0) (maCons (mVar 2) maNil)))))))
theorem ok_mark {P : Program} {w : World} {K : PySem.W.Frag} {mg : Str → Option Value} {base : Heap} {f : Addr} {fd : FuncData} (F : Fun K "_law_mark" "_law_mark" s_mark f fd) (bi_str : mg "str" = none) (bi_int : mg "int" = none) {sp_figures : SpD} (G_figures : Kn P w K mg base "_law_figures" 2 ["_law_purse_here", "_law_size"] sp_figures) {sp_draw : SpD} (G_draw : Kn P w K mg base "_law_draw" 1 ["_law_purse_here", "_law_many"] sp_draw) {sp_pick : SpD} (G_pick : Kn P w K mg base "_law_pick" 2 ["_law_purse_here", "_law_some"] sp_pick) : FnD P w K mg base 3 f fd ["_law_purse_here"] (spOf 1 N_mark.length (m_mark sp_figures sp_draw sp_pick)) := by
  have nd := sc_mark.nd
  refine fnD_of F sc_mark fun cdv A out s H E hr hgd => ?_
  have hu := hr.units
  exact (pdss_cons (pds_set [] 1 nd (pd_callN G_figures hr (by decide) hgd (pda_cons (pd_v 0) (pda_cons (pd_op opd_add pd_int (pd_callN G_draw hr (by decide) hgd (pda_cons (pd_v 0) (pda_cons pd_int pda_nil)))) pda_nil))))
    (pdss_cons (pds_set [] 2 nd (pd_lst (pda_cons pd_str (pda_cons pd_str (pda_cons (pd_op opd_add pd_str (pd_v 1)) (pda_cons (pd_op opd_add pd_str (pd_v 1)) (pda_cons (pd_op opd_add pd_str (pd_callTy cd_str (by rfl) bi_str boot_str (pda_cons (pd_callTy cd_int2 (by rfl) bi_int boot_int (pda_cons (pd_v 1) pda_nil)) pda_nil))) (pda_cons pd_str (pda_cons pd_str (pda_cons (pd_op opd_add pd_str (pd_v 1)) (pda_cons pd_str pda_nil)))))))))))
    (pdss_cons (pds_set [] 2 nd (pd_op opd_add (pd_v 2) (pd_lst (pda_cons pd_str (pda_cons pd_str (pda_cons pd_str (pda_cons pd_str (pda_cons pd_str (pda_cons pd_str (pda_cons pd_str (pda_cons (pd_v 1) (pda_cons pd_str (pda_cons pd_str pda_nil)))))))))))))
    (pdss_one (pds_ret [] (pd_callN G_pick hr (by decide) hgd (pda_cons (pd_v 0) (pda_cons (pd_v 2) pda_nil))))))))
abbrev s_text : Stmt := topS 18
abbrev N_text : List Str := ["_law_purse_here", "_law_head"]
theorem sc_text : FnScope N_text ["_law_purse_here"] (defScope s_text) := ⟨rfl, rfl, rfl, by decide +kernel, rfl, by decide +kernel, by decide +kernel⟩
def m_text (sp_draw sp_letters sp_pick sp_mark : SpD) : MS :=
    (mSeq (mIfS [] (tBl (mOp eqD (mCall sp_draw (maCons (mVar 0) (maCons (mC (.int 3)) maNil))) (mC (.int 0))))
    (mRet [] (mCall sp_letters (maCons (mVar 0) (maCons (mCall sp_pick (maCons (mVar 0) (maCons (mLst (maCons (mC (.int 0)) (maCons (mC (.int 1)) (maCons (mC (.int 2)) (maCons (mC (.int 11)) (maCons (mC (.int 12)) (maCons (mC (.int 12)) (maCons (mC (.int 13)) (maCons (mC (.int 14)) (maCons (mC (.int 24)) (maCons (mC (.int 19000)) (maCons (mOp addD (mC (.int 1)) (mCall sp_draw (maCons (mVar 0) (maCons (mC (.int 12)) maNil)))) maNil)))))))))))) maNil))) maNil))))
    mNext)
    (mSeq (mAsg [] 1 (mCall sp_pick (maCons (mVar 0) (maCons (mLst (maCons (mC (.str (Str.ofString "?"))) (maCons (mC (.str (Str.ofString "?"))) (maCons (mC (.str (Str.ofString "?"))) (maCons (mC (.str (Str.ofString "?"))) (maCons (mC (.str (Str.ofString "?"))) (maCons (mC (.str (Str.ofString ""))) (maCons (mC (.str (Str.ofString "??"))) (maCons (mC (.str (Str.ofString " ?"))) maNil))))))))) maNil))))
    (mRet [] (mOp addD (mOp addD (mVar 1) (mCall sp_letters (maCons (mVar 0) (maCons (mCall sp_pick (maCons (mVar 0) (maCons (mLst (maCons (mC (.int 0)) (maCons (mC (.int 1)) (maCons (mC (.int 1)) (maCons (mC (.int 2)) (maCons (mC (.int 3)) (maCons (mC (.int 3)) (maCons (mC (.int 4)) maNil)))))))) maNil))) maNil)))) (mCall sp_mark (maCons (mVar 0) maNil))))))
theorem ok_text {P : Program} {w : World} {K : PySem.W.Frag} {mg : Str → Option Value} {base : Heap} {f : Addr} {fd : FuncData} (F : Fun K "_law_text" "_law_text" s_text f fd)  {sp_draw : SpD} (G_draw : Kn P w K mg base "_law_draw" 1 ["_law_purse_here", "_law_many"] sp_draw) {sp_letters : SpD} (G_letters : Kn P w K mg base "_law_letters" 3 ["_law_purse_here", "_law_size"] sp_letters) {sp_pick : SpD} (G_pick : Kn P w K mg base "_law_pick" 2 ["_law_purse_here", "_law_some"] sp_pick) {sp_mark : SpD} (G_mark : Kn P w K mg base "_law_mark" 3 ["_law_purse_here"] sp_mark) : FnD P w K mg base 4 f fd ["_law_purse_here"] (spOf 1 N_text.length (m_text sp_draw sp_letters sp_pick sp_mark)) := by
  have nd := sc_text.nd
  refine fnD_of F sc_text fun cdv A out s H E hr hgd => ?_
  have hu := hr.units
  exact (pdss_cons (pds_if [] (pdt_cmp (opd_eq hu) (pd_callN G_draw hr (by decide) hgd (pda_cons (pd_v 0) (pda_cons pd_int pda_nil))) pd_int (nomark _))
    (pdss_one (pds_ret [] (pd_callN G_letters hr (by decide) hgd (pda_cons (pd_v 0) (pda_cons (pd_callN G_pick hr (by decide) hgd (pda_cons (pd_v 0) (pda_cons (pd_lst (pda_cons pd_int (pda_cons pd_int (pda_cons pd_int (pda_cons pd_int (pda_cons pd_int (pda_cons pd_int (pda_cons pd_int (pda_cons pd_int (pda_cons pd_int (pda_cons pd_int (pda_cons (pd_op opd_add pd_int (pd_callN G_draw hr (by decide) hgd (pda_cons (pd_v 0) (pda_cons pd_int pda_nil)))) pda_nil)))))))))))) pda_nil))) pda_nil)))))
    pdss_nil)
    (pdss_cons (pds_set [] 1 nd (pd_callN G_pick hr (by decide) hgd (pda_cons (pd_v 0) (pda_cons (pd_lst (pda_cons pd_str (pda_cons pd_str (pda_cons pd_str (pda_cons pd_str (pda_cons pd_str (pda_cons pd_str (pda_cons pd_str (pda_cons pd_str pda_nil))))))))) pda_nil))))
    (pdss_one (pds_ret [] (pd_op opd_add (pd_op opd_add (pd_v 1) (pd_callN G_letters hr (by decide) hgd (pda_cons (pd_v 0) (pda_cons (pd_callN G_pick hr (by decide) hgd (pda_cons (pd_v 0) (pda_cons (pd_lst (pda_cons pd_int (pda_cons pd_int (pda_cons pd_int (pda_cons pd_int (pda_cons pd_int (pda_cons pd_int (pda_cons pd_int pda_nil)))))))) pda_nil))) pda_nil)))) (pd_callN G_mark hr (by decide) hgd (pda_cons (pd_v 0) pda_nil)))))))
abbrev s_spoilt : Stmt := topS 19
abbrev N_spoilt : List Str := ["_law_purse_here", "_law_text_here", "_law_at", "_law_way", "_law_sign"]
theorem sc_spoilt : FnScope N_spoilt ["_law_purse_here", "_law_text_here", "_law_at", "_law_way"] (defScope s_spoilt) := ⟨rfl, rfl, rfl, by decide +kernel, rfl, by decide +kernel, by decide +kernel⟩
def m_spoilt (sp_pick : SpD) : MS :=
    (mSeq (mAsg [] 4 (mCall sp_pick (maCons (mVar 0) (maCons (mC (.str (Str.ofString "azkmAZK059?.-+ _(),
=<>!#/:;*"))) maNil))))
    (mSeq (mIfS [] (tBl (mOp eqD (mVar 3) (mC (.int 0))))
    (mRet [] (mOp addD (mOp addD (mSl (mVar 1) moNo (moYes (mVar 2))) (mVar 4)) (mSl (mVar 1) (moYes (mVar 2)) moNo)))
    mNext)
    (mSeq (mIfS [] (tBl (mOp eqD (mVar 3) (mC (.int 1))))
    (mRet [] (mOp addD (mOp addD (mSl (mVar 1) moNo (moYes (mVar 2))) (mVar 4)) (mSl (mVar 1) (moYes (mOp addD (mVar 2) (mC (.int 1)))) moNo)))
    mNext)
    (mRet [] (mOp addD (mSl (mVar 1) moNo (moYes (mVar 2))) (mSl (mVar 1) (moYes (mOp addD (mVar 2) (mC (.int 1)))) moNo))))))
theorem ok_spoilt {P : Program} {w : World} {K : PySem.W.Frag} {mg : Str → Option Value} {base : Heap} {f : Addr} {fd : FuncData} (F : Fun K "_law_spoilt" "_law_spoilt" s_spoilt f fd)  {sp_pick : SpD} (G_pick : Kn P w K mg base "_law_pick" 2 ["_law_purse_here", "_law_some"] sp_pick) : FnD P w K mg base 3 f fd ["_law_purse_here", "_law_text_here", "_law_at", "_law_way"] (spOf 4 N_spoilt.length (m_spoilt sp_pick)) := by
  have nd := sc_spoilt.nd
  refine fnD_of F sc_spoilt fun cdv A out s H E hr hgd => ?_
  have hu := hr.units
  exact (pdss_cons (pds_set [] 4 nd (pd_callN G_pick hr (by decide) hgd (pda_cons (pd_v 0) (pda_cons pd_str pda_nil))))
    (pdss_cons (pds_if [] (pdt_cmp (opd_eq hu) (pd_v 3) pd_int (nomark _))
    (pdss_one (pds_ret [] (pd_op opd_add (pd_op opd_add (pd_slice (pd_v 1) pdp_none (pdp_some (pd_v 2))) (pd_v 4)) (pd_slice (pd_v 1) (pdp_some (pd_v 2)) pdp_none))))
    pdss_nil)
    (pdss_cons (pds_if [] (pdt_cmp (opd_eq hu) (pd_v 3) pd_int (nomark _))
    (pdss_one (pds_ret [] (pd_op opd_add (pd_op opd_add (pd_slice (pd_v 1) pdp_none (pdp_some (pd_v 2))) (pd_v 4)) (pd_slice (pd_v 1) (pdp_some (pd_op opd_add (pd_v 2) pd_int)) pdp_none))))
    pdss_nil)
    (pdss_one (pds_ret [] (pd_op opd_add (pd_slice (pd_v 1) pdp_none (pdp_some (pd_v 2))) (pd_slice (pd_v 1) (pdp_some (pd_op opd_add (pd_v 2) pd_int)) pdp_none)))))))
abbrev s_thing : Stmt := topS 20
abbrev N_thing : List Str := ["_law_purse_here", "_law_deep", "_law_way", "_law_some", "_law_text_here", "_law_turn"]
theorem sc_thing : FnScope N_thing ["_law_purse_here", "_law_deep"] (defScope s_thing) := ⟨rfl, rfl, rfl, by decide +kernel, rfl, by decide +kernel, by decide +kernel⟩
def m_thing (sp_draw sp_pick sp_integer sp_text sp_spoilt sp_thing : SpD) : MS :=
    (mSeq (mAsg [] 2 (mCall sp_draw (maCons (mVar 0) (maCons (mC (.int 14)) maNil))))
    (mSeq (mIfS [] (mAndT (tBl (mOp ltD (mVar 2) (mC (.int 3)))) (tBl (mOp gtD (mVar 1) (mC (.int 0)))))
    (mSeq (mAsgS [] 3 (moLc [5] (mRng1 (maCons (mCall sp_draw (maCons (mVar 0) (maCons (mC (.int 3)) maNil))) maNil)) (.nm 5) mYes (mCall sp_thing (maCons (mVar 0) (maCons (mOp subD (mVar 1) (mC (.int 1))) maNil)))))
    (mSeq (mIfS [] (tBl (mOp eqD (mVar 2) (mC (.int 0))))
    (mRet [] (mCB tupleD (maCons (mVar 3) maNil)))
    mNext)
    (mRet [] (mIf (tBl (mOp eqD (mVar 2) (mC (.int 1)))) (mVar 3) (mDisp [.inr (Str.ofString "a"), .inl 0] (maCons (mVar 3) (maCons (mCB tupleD (maCons (mVar 3) maNil)) maNil)))))))
    mNext)
    (mSeq (mIfS [] (tBl (mOp eqD (mVar 2) (mC (.int 3))))
    (mRet [] (mCall sp_pick (maCons (mVar 0) (maCons (mLst (maCons (mC .non) (maCons (mC (.bl true)) (maCons (mC (.bl false)) maNil)))) maNil))))
    mNext)
    (mSeq (mIfS [] (tBl (mOp ltD (mVar 2) (mC (.int 7))))
    (mRet [] (mCall sp_integer (maCons (mVar 0) maNil)))
    mNext)
    (mSeq (mAsg [] 4 (mCall sp_text (maCons (mVar 0) maNil)))
    (mSeq (mIfS [] (tBl (mOp ltD (mVar 2) (mC (.int 11))))
    (mRet [] (mVar 4))
    mNext)
    (mRet [] (mCall sp_spoilt (maCons (mVar 0) (maCons (mVar 4) (maCons (mCall sp_draw (maCons (mVar 0) (maCons (mOp addD (mCB lenD (maCons (mVar 4) maNil)) (mC (.int 1))) maNil))) (maCons (mOp modD (mCB int2D (maCons (mVar 2) maNil)) (mC (.int 3))) maNil))))))))))))
theorem ok_thing {P : Program} {w : World} {K : PySem.W.Frag} {mg : Str → Option Value} {base : Heap} {f : Addr} {fd : FuncData} (F : Fun K "_law_thing" "_law_thing" s_thing f fd) {jj : Nat} (hjj : 4 ≤ jj) (bi_range : mg "range" = none) (bi_tuple : mg "tuple" = none) (bi_int : mg "int" = none) (bi_len : mg "len" = none) {sp_draw : SpD} (G_draw : Kn P w K mg base "_law_draw" 1 ["_law_purse_here", "_law_many"] sp_draw) {sp_pick : SpD} (G_pick : Kn P w K mg base "_law_pick" 2 ["_law_purse_here", "_law_some"] sp_pick) {sp_integer : SpD} (G_integer : Kn P w K mg base "_law_integer" 3 ["_law_purse_here"] sp_integer) {sp_text : SpD} (G_text : Kn P w K mg base "_law_text" 4 ["_law_purse_here"] sp_text) {sp_spoilt : SpD} (G_spoilt : Kn P w K mg base "_law_spoilt" 3 ["_law_purse_here", "_law_text_here", "_law_at", "_law_way"] sp_spoilt) {sp_thing : SpD} (G_thing : Kn P w K mg base "_law_thing" jj ["_law_purse_here", "_law_deep"] sp_thing) : FnD P w K mg base (jj + 1) f fd ["_law_purse_here", "_law_deep"] (spOf 2 N_thing.length (m_thing sp_draw sp_pick sp_integer sp_text sp_spoilt sp_thing)) := by
  have nd := sc_thing.nd
  refine fnD_of F sc_thing fun cdv A out s H E hr hgd => ?_
  have hu := hr.units
  exact (pdss_cons (pds_set [] 2 nd (pd_callN G_draw hr (by omega) hgd (pda_cons (pd_v 0) (pda_cons pd_int pda_nil))))
    (pdss_cons (pds_if [] (PDW.pdt (pdw_and (pdt_cmp (opd_lt hu) (pd_v 2) pd_int (nomark _)) (pdw_and1 (pdt_cmp opd_gt (pd_v 1) pd_int (nomark _)))))
    (pdss_cons (pds_setLcSN (own := [("_law_turn", 5)]) (t := (.nm 5)) (mt := mYes) (me := (mCall sp_thing (maCons (mVar 0) (maCons (mOp subD (mVar 1) (mC (.int 1))) maNil)))) [] (i := 3) rfl nd rfl rfl (sw_true rfl rfl rfl (by decide +kernel)) (PDR.pdi (pdr_1 (by rfl) bi_range (pda_cons (pd_callN G_draw hr (by omega) hgd (pda_cons (pd_v 0) (pda_cons pd_int pda_nil))) pda_nil))) (blkOk_by (N := N_thing) (sc := defScope s_thing) (by decide +kernel)) (by decide) (fun _ _ _ _ _ => (pgt_nm 5 nd)) (fun _ _ _ _ _ => pdts_nil) (fun _ _ _ _ _ => (pd_callN G_thing hr (by omega) hgd (pda_cons (pd_v 0) (pda_cons (pd_op opd_sub (pd_v 1) pd_int) pda_nil)))))
    (pdss_cons (pds_if [] (pdt_cmp (opd_eq hu) (pd_v 2) pd_int (nomark _))
    (pdss_one (pds_ret [] (pd_callTy cd_tuple (by rfl) bi_tuple boot_tuple (pda_cons (pd_v 3) pda_nil))))
    pdss_nil)
    (pdss_one (pds_ret [] (pd_ifExp (pdt_cmp (opd_eq hu) (pd_v 2) pd_int (nomark _)) (pd_v 3) (pd_disp (pdp_cons pk_str (pd_v 3) (pdp_cons pk_int (pd_callTy cd_tuple (by rfl) bi_tuple boot_tuple (pda_cons (pd_v 3) pda_nil)) pdp_nil))))))))
    pdss_nil)
    (pdss_cons (pds_if [] (pdt_cmp (opd_eq hu) (pd_v 2) pd_int (nomark _))
    (pdss_one (pds_ret [] (pd_callN G_pick hr (by omega) hgd (pda_cons (pd_v 0) (pda_cons (pd_lst (pda_cons pd_non (pda_cons pd_bl (pda_cons pd_bl pda_nil)))) pda_nil)))))
    pdss_nil)
    (pdss_cons (pds_if [] (pdt_cmp (opd_lt hu) (pd_v 2) pd_int (nomark _))
    (pdss_one (pds_ret [] (pd_callN G_integer hr (by omega) hgd (pda_cons (pd_v 0) pda_nil))))
    pdss_nil)
    (pdss_cons (pds_set [] 4 nd (pd_callN G_text hr (by omega) hgd (pda_cons (pd_v 0) pda_nil)))
    (pdss_cons (pds_if [] (pdt_cmp (opd_lt hu) (pd_v 2) pd_int (nomark _))
    (pdss_one (pds_ret [] (pd_v 4)))
    pdss_nil)
    (pdss_one (pds_ret [] (pd_callN G_spoilt hr (by omega) hgd (pda_cons (pd_v 0) (pda_cons (pd_v 4) (pda_cons (pd_callN G_draw hr (by omega) hgd (pda_cons (pd_v 0) (pda_cons (pd_op opd_add (pd_callB cd_len (by rfl) bi_len boot_len (pda_cons (pd_v 4) pda_nil)) pd_int) pda_nil))) (pda_cons (pd_op opd_mod (pd_callTy cd_int2 (by rfl) bi_int boot_int (pda_cons (pd_v 2) pda_nil)) pd_int) pda_nil)))))))))))))
abbrev s_wrapped : Stmt := topS 21
abbrev N_wrapped : List Str := ["_law_purse_here", "_law_thing_here", "_law_found", "_law_turn"]
theorem sc_wrapped : FnScope N_wrapped ["_law_purse_here", "_law_thing_here"] (defScope s_wrapped) := ⟨rfl, rfl, rfl, by decide +kernel, rfl, by decide +kernel, by decide +kernel⟩
def m_wrapped (sp_draw : SpD) : MS :=
    (mSeq (mAsg [] 2 (mVar 1))
    (mSeq (mForR [] (mRng1 (maCons (mOp addD (mC (.int 1)) (mCall sp_draw (maCons (mVar 0) (maCons (mC (.int 12)) maNil)))) maNil)) (.nm 3)
    (mAsg [] 2 (mIf (tBl (mOp eqD (mCall sp_draw (maCons (mVar 0) (maCons (mC (.int 2)) maNil))) (mC (.int 0)))) (mTup (maCons (mVar 2) maNil)) (mLst (maCons (mVar 2) maNil)))))
    (mRet [] (mVar 2))))
theorem ok_wrapped {P : Program} {w : World} {K : PySem.W.Frag} {mg : Str → Option Value} {base : Heap} {f : Addr} {fd : FuncData} (F : Fun K "_law_wrapped" "_law_wrapped" s_wrapped f fd) (bi_range : mg "range" = none) {sp_draw : SpD} (G_draw : Kn P w K mg base "_law_draw" 1 ["_law_purse_here", "_law_many"] sp_draw) : FnD P w K mg base 2 f fd ["_law_purse_here", "_law_thing_here"] (spOf 2 N_wrapped.length (m_wrapped sp_draw)) := by
  have nd := sc_wrapped.nd
  refine fnD_of F sc_wrapped fun cdv A out s H E hr hgd => ?_
  have hu := hr.units
  exact (pdss_cons (pds_set [] 2 nd (pd_v 1))
    (pdss_cons (pds_forR [] (t := (.nm 3)) PassesOwn.never rfl (pdr_1 (by rfl) bi_range (pda_cons (pd_op opd_add pd_int (pd_callN G_draw hr (by decide) hgd (pda_cons (pd_v 0) (pda_cons pd_int pda_nil)))) pda_nil)) (pgt_nm 3 nd)
    (pdss_one (pds_set [] 2 nd (pd_ifExp (pdt_cmp (opd_eq hu) (pd_callN G_draw hr (by decide) hgd (pda_cons (pd_v 0) (pda_cons pd_int pda_nil))) pd_int (nomark _)) (pd_tup (pda_cons (pd_v 2) pda_nil)) (pd_lst (pda_cons (pd_v 2) pda_nil))))))
    (pdss_one (pds_ret [] (pd_v 2)))))
abbrev s_are_signs : Stmt := topS 22
abbrev N_are_signs : List Str := ["_law_text_here", "_law_signs", "_law_sign"]
theorem sc_are_signs : FnScope N_are_signs ["_law_text_here", "_law_signs"] (defScope s_are_signs) := ⟨rfl, rfl, rfl, by decide +kernel, rfl, by decide +kernel, by decide +kernel⟩
def m_are_signs : MS :=
    (mRet [] (mOp eqD (mLstO (moLc [2] (mSeqI (mVar 0)) (.nm 2) (tBl (mOp (inU true) (mVar 2) (mVar 1))) (mVar 2))) (mLst maNil)))
theorem ok_are_signs {P : Program} {w : World} {K : PySem.W.Frag} {mg : Str → Option Value} {base : Heap} {f : Addr} {fd : FuncData} (F : Fun K "_law_are_signs" "_law_are_signs" s_are_signs f fd)  : FnD P w K mg base 1 f fd ["_law_text_here", "_law_signs"] (spOf 2 N_are_signs.length (m_are_signs )) := by
  have nd := sc_are_signs.nd
  refine fnD_of F sc_are_signs fun cdv A out s H E hr hgd => ?_
  have hu := hr.units
  exact (pdss_one (pds_ret [] (pd_cmp (opd_eq hu) (pd_ofO (pdo_lcN (own := [("_law_sign", 2)]) (t := (.nm 2)) (mt := (tBl (mOp (inU true) (mVar 2) (mVar 1)))) (me := (mVar 2)) rfl nd (pdi_seq (pd_v 0)) (blkOk_by (N := N_are_signs) (sc := defScope s_are_signs) (by decide +kernel)) (by decide) (fun _ _ _ _ _ => (pgt_nm 2 nd)) (fun _ _ _ _ _ => (pdts_one (pdt_cmp (opd_notinU (u65 hr)) (pd_v 2) (pd_v 1) (by rfl)))) (fun _ _ _ _ _ => (pd_v 2)))) (pd_lst pda_nil) (nomark _))))
abbrev s_lis_value : Stmt := topS 23
abbrev N_lis_value : List Str := ["_law_thing_here"]
theorem sc_lis_value : FnScope N_lis_value ["_law_thing_here"] (defScope s_lis_value) := ⟨rfl, rfl, rfl, by decide +kernel, rfl, by decide +kernel, by decide +kernel⟩
def m_lis_value (sp_are_signs : SpD) : MS :=
    (mSeq (mIfS [] (tBl (mIsi "bool" (mVar 0)))
    (mRet [] (mC (.bl false)))
    mNext)
    (mSeq (mIfS [] (tBl (mIsi "int" (mVar 0)))
    (mRet [] (mAndV (mOp leD (mUn negD (mC (.int 1000000000))) (mVar 0)) (mOp leD (mVar 0) (mC (.int 1000000000)))))
    mNext)
    (mSeq (mIfS [] (mOrT (mNotT (tBl (mIsi "str" (mVar 0)))) (mOrT (tBl (mOp ltD (mCB lenD (maCons (mVar 0) maNil)) (mC (.int 1)))) (tBl (mOp gtD (mCB lenD (maCons (mVar 0) maNil)) (mC (.int 12))))))
    (mRet [] (mC (.bl false)))
    mNext)
    (mRet [] (mCall sp_are_signs (maCons (mVar 0) (maCons (mC (.str (Str.ofString "abcdefghijklmnopqrstuvwxyz"))) maNil)))))))
theorem ok_lis_value {P : Program} {w : World} {K : PySem.W.Frag} {mg : Str → Option Value} {base : Heap} {f : Addr} {fd : FuncData} (F : Fun K "_law_is_value" "_law_is_value" s_lis_value f fd) (bi_isinstance : mg "isinstance" = none) (bi_bool : mg "bool" = none) (bi_int : mg "int" = none) (bi_str : mg "str" = none) (bi_len : mg "len" = none) {sp_are_signs : SpD} (G_are_signs : Kn P w K mg base "_law_are_signs" 1 ["_law_text_here", "_law_signs"] sp_are_signs) : FnD P w K mg base 2 f fd ["_law_thing_here"] (spOf 1 N_lis_value.length (m_lis_value sp_are_signs)) := by
  have nd := sc_lis_value.nd
  refine fnD_of F sc_lis_value fun cdv A out s H E hr hgd => ?_
  have hu := hr.units
  exact (pdss_cons (pds_if [] (pdt_val (pd_isi (pd_v 0) bi_isinstance bi_bool boot_bool))
    (pdss_one (pds_ret [] pd_bl))
    pdss_nil)
    (pdss_cons (pds_if [] (pdt_val (pd_isi (pd_v 0) bi_isinstance bi_int boot_int))
    (pdss_one (pds_ret [] (pd_and (pd_cmp opd_le (pd_un und_neg pd_int) (pd_v 0) (nomark _)) (pd_one (pd_cmp opd_le (pd_v 0) pd_int (nomark _))))))
    pdss_nil)
    (pdss_cons (pds_if [] (PDW.pdt (pdw_or (pdt_not (pdt_val (pd_isi (pd_v 0) bi_isinstance bi_str boot_str))) (pdw_or (pdt_cmp (opd_lt hu) (pd_callB cd_len (by rfl) bi_len boot_len (pda_cons (pd_v 0) pda_nil)) pd_int (nomark _)) (pdw_or1 (pdt_cmp opd_gt (pd_callB cd_len (by rfl) bi_len boot_len (pda_cons (pd_v 0) pda_nil)) pd_int (nomark _))))))
    (pdss_one (pds_ret [] pd_bl))
    pdss_nil)
    (pdss_one (pds_ret [] (pd_callN G_are_signs hr (by decide) hgd (pda_cons (pd_v 0) (pda_cons pd_str pda_nil))))))))
abbrev s_lis_variable : Stmt := topS 24
abbrev N_lis_variable : List Str := ["_law_thing_here", "_law_parts", "_law_figures_here"]
theorem sc_lis_variable : FnScope N_lis_variable ["_law_thing_here"] (defScope s_lis_variable) := ⟨rfl, rfl, rfl, by decide +kernel, rfl, by decide +kernel, by decide +kernel⟩
def m_lis_variable (sp_are_signs : SpD) : MS :=
    (mSeq (mIfS [] (mOrT (mNotT (tBl (mIsi "str" (mVar 0)))) (mOrT (tBl (mOp gtD (mCB lenD (maCons (mVar 0) maNil)) (mC (.int 15)))) (tBl (mOp neD (mSl (mVar 0) moNo (moYes (mC (.int 1)))) (mC (.str (Str.ofString "?")))))))
    (mRet [] (mC (.bl false)))
    mNext)
    (mSeq (mAsg [] 1 (mSplit (mSl (mVar 0) (moYes (mC (.int 1))) moNo) (mC (.str (Str.ofString ".")))))
    (mSeq (mIfS [] (mOrT (tBl (mOp gtD (mCB lenD (maCons (mVar 1) maNil)) (mC (.int 2)))) (mOrT (tBl (mOp ltD (mCB lenD (maCons (mOp ixD (mVar 1) (mC (.int 0))) maNil)) (mC (.int 1)))) (tBl (mOp gtD (mCB lenD (maCons (mOp ixD (mVar 1) (mC (.int 0))) maNil)) (mC (.int 3))))))
    (mRet [] (mC (.bl false)))
    mNext)
    (mSeq (mIfS [] (mNotT (tBl (mCall sp_are_signs (maCons (mOp ixD (mVar 1) (mC (.int 0))) (maCons (mC (.str (Str.ofString "abcdefghijklmnopqrstuvwxyz"))) maNil)))))
    (mRet [] (mC (.bl false)))
    mNext)
    (mSeq (mIfS [] (tBl (mOp eqD (mCB lenD (maCons (mVar 1) maNil)) (mC (.int 1))))
    (mRet [] (mC (.bl true)))
    mNext)
    (mSeq (mAsg [] 2 (mOp ixD (mVar 1) (mC (.int 1))))
    (mSeq (mIfS [] (mOrT (tBl (mOp eqD (mVar 2) (mC (.str (Str.ofString ""))))) (mNotT (tBl (mCall sp_are_signs (maCons (mVar 2) (maCons (mC (.str (Str.ofString "0123456789"))) maNil))))))
    (mRet [] (mC (.bl false)))
    mNext)
    (mSeq (mIfS [] (tBl (mOp eqD (mOp ixD (mVar 2) (mC (.int 0))) (mC (.str (Str.ofString "0")))))
    (mRet [] (mOp eqD (mVar 2) (mC (.str (Str.ofString "0")))))
    mNext)
    (mRet [] (mOp leD (mCB int2D (maCons (mVar 2) maNil)) (mC (.int 1000000000))))))))))))
theorem ok_lis_variable {P : Program} {w : World} {K : PySem.W.Frag} {mg : Str → Option Value} {base : Heap} {f : Addr} {fd : FuncData} (F : Fun K "_law_is_variable" "_law_is_variable" s_lis_variable f fd) (bi_isinstance : mg "isinstance" = none) (bi_str : mg "str" = none) (bi_len : mg "len" = none) (bi_int : mg "int" = none) {sp_are_signs : SpD} (G_are_signs : Kn P w K mg base "_law_are_signs" 1 ["_law_text_here", "_law_signs"] sp_are_signs) : FnD P w K mg base 2 f fd ["_law_thing_here"] (spOf 1 N_lis_variable.length (m_lis_variable sp_are_signs)) := by
  have nd := sc_lis_variable.nd
  refine fnD_of F sc_lis_variable fun cdv A out s H E hr hgd => ?_
  have hu := hr.units
  exact (pdss_cons (pds_if [] (PDW.pdt (pdw_or (pdt_not (pdt_val (pd_isi (pd_v 0) bi_isinstance bi_str boot_str))) (pdw_or (pdt_cmp opd_gt (pd_callB cd_len (by rfl) bi_len boot_len (pda_cons (pd_v 0) pda_nil)) pd_int (nomark _)) (pdw_or1 (pdt_cmp (opd_ne hu) (pd_slice (pd_v 0) pdp_none (pdp_some pd_int)) pd_str (nomark _))))))
    (pdss_one (pds_ret [] pd_bl))
    pdss_nil)
    (pdss_cons (pds_set [] 1 nd (pd_split (pd_slice (pd_v 0) (pdp_some pd_int) pdp_none) pd_str))
    (pdss_cons (pds_if [] (PDW.pdt (pdw_or (pdt_cmp opd_gt (pd_callB cd_len (by rfl) bi_len boot_len (pda_cons (pd_v 1) pda_nil)) pd_int (nomark _)) (pdw_or (pdt_cmp (opd_lt hu) (pd_callB cd_len (by rfl) bi_len boot_len (pda_cons (pd_ix (pd_v 1) pd_int (fun _ _ => rfl)) pda_nil)) pd_int (nomark _)) (pdw_or1 (pdt_cmp opd_gt (pd_callB cd_len (by rfl) bi_len boot_len (pda_cons (pd_ix (pd_v 1) pd_int (fun _ _ => rfl)) pda_nil)) pd_int (nomark _))))))
    (pdss_one (pds_ret [] pd_bl))
    pdss_nil)
    (pdss_cons (pds_if [] (pdt_not (pdt_val (pd_callN G_are_signs hr (by decide) hgd (pda_cons (pd_ix (pd_v 1) pd_int (fun _ _ => rfl)) (pda_cons pd_str pda_nil)))))
    (pdss_one (pds_ret [] pd_bl))
    pdss_nil)
    (pdss_cons (pds_if [] (pdt_cmp (opd_eq hu) (pd_callB cd_len (by rfl) bi_len boot_len (pda_cons (pd_v 1) pda_nil)) pd_int (nomark _))
    (pdss_one (pds_ret [] pd_bl))
    pdss_nil)
    (pdss_cons (pds_set [] 2 nd (pd_ix (pd_v 1) pd_int (fun _ _ => rfl)))
    (pdss_cons (pds_if [] (PDW.pdt (pdw_or (pdt_cmp (opd_eq hu) (pd_v 2) pd_str (nomark _)) (pdw_or1 (pdt_not (pdt_val (pd_callN G_are_signs hr (by decide) hgd (pda_cons (pd_v 2) (pda_cons pd_str pda_nil))))))))
    (pdss_one (pds_ret [] pd_bl))
    pdss_nil)
    (pdss_cons (pds_if [] (pdt_cmp (opd_eq hu) (pd_ix (pd_v 2) pd_int (fun _ _ => rfl)) pd_str (nomark _))
    (pdss_one (pds_ret [] (pd_cmp (opd_eq hu) (pd_v 2) pd_str (nomark _))))
    pdss_nil)
    (pdss_one (pds_ret [] (pd_cmp opd_le (pd_callTy cd_int2 (by rfl) bi_int boot_int (pda_cons (pd_v 2) pda_nil)) pd_int (nomark _))))))))))))
abbrev s_is_told : Stmt := topS 25
abbrev N_is_told : List Str := ["_law_thing_here", "_law_before", "_law_due"]
theorem sc_is_told : FnScope N_is_told ["_law_thing_here"] (defScope s_is_told) := ⟨rfl, rfl, rfl, by decide +kernel, rfl, by decide +kernel, by decide +kernel⟩
def m_is_told (sp_lis_variable sp_lis_value sp_is_variable sp_is_value : SpD) : MS :=
    (mSeq (mAsg [] 1 (mCB repr2D (maCons (mVar 0) maNil)))
    (mSeq (mAsg [] 2 (mCB repr2D (maCons (mLst (maCons (mCall sp_lis_value (maCons (mVar 0) maNil)) (maCons (mCall sp_lis_variable (maCons (mVar 0) maNil)) maNil))) maNil)))
    (mSeq (mIfS [] (tBl (mOp neD (mCB repr2D (maCons (mLst (maCons (mCall sp_is_value (maCons (mVar 0) maNil)) (maCons (mCall sp_is_variable (maCons (mVar 0) maNil)) maNil))) maNil)) (mVar 2)))
    (mRet [] (mC (.bl false)))
    mNext)
    (mSeq (mIfS [] (tBl (mOp neD (mCB repr2D (maCons (mLst (maCons (mCall sp_is_value (maCons (mVar 0) maNil)) (maCons (mCall sp_is_variable (maCons (mVar 0) maNil)) maNil))) maNil)) (mVar 2)))
    (mRet [] (mC (.bl false)))
    mNext)
    (mRet [] (mOp eqD (mCB repr2D (maCons (mVar 0) maNil)) (mVar 1)))))))
theorem ok_is_told {P : Program} {w : World} {K : PySem.W.Frag} {mg : Str → Option Value} {base : Heap} {f : Addr} {fd : FuncData} (F : Fun K "_law_is_told" "_law_is_told" s_is_told f fd) (bi_repr : mg "repr" = none) {sp_lis_variable : SpD} (G_lis_variable : Kn P w K mg base "_law_is_variable" 2 ["_law_thing_here"] sp_lis_variable) {sp_lis_value : SpD} (G_lis_value : Kn P w K mg base "_law_is_value" 2 ["_law_thing_here"] sp_lis_value) {sp_is_variable : SpD} (GK_is_variable : KnK P w K mg base "is_variable" 2 ["value"] sp_is_variable) {sp_is_value : SpD} (GK_is_value : KnK P w K mg base "is_value" 3 ["value"] sp_is_value) : FnD P w K mg base 4 f fd ["_law_thing_here"] (spOf 1 N_is_told.length (m_is_told sp_lis_variable sp_lis_value sp_is_variable sp_is_value)) := by
  have nd := sc_is_told.nd
  have G_is_variable := GK_is_variable.kn
  have G_is_value := GK_is_value.kn
  refine fnD_of F sc_is_told fun cdv A out s H E hr hgd => ?_
  have hu := hr.units
  exact (pdss_cons (pds_set [] 1 nd (pd_callB (cd_repr2 hu hgd) (by rfl) bi_repr boot_repr (pda_cons (pd_v 0) pda_nil)))
    (pdss_cons (pds_set [] 2 nd (pd_callB (cd_repr2 hu hgd) (by rfl) bi_repr boot_repr (pda_cons (pd_lst (pda_cons (pd_callN G_lis_value hr (by decide) hgd (pda_cons (pd_v 0) pda_nil)) (pda_cons (pd_callN G_lis_variable hr (by decide) hgd (pda_cons (pd_v 0) pda_nil)) pda_nil))) pda_nil)))
    (pdss_cons (pds_if [] (pdt_cmp (opd_ne hu) (pd_callB (cd_repr2 hu hgd) (by rfl) bi_repr boot_repr (pda_cons (pd_lst (pda_cons (pd_callN G_is_value hr (by decide) hgd (pda_cons (pd_v 0) pda_nil)) (pda_cons (pd_callN G_is_variable hr (by decide) hgd (pda_cons (pd_v 0) pda_nil)) pda_nil))) pda_nil)) (pd_v 2) (nomark _))
    (pdss_one (pds_ret [] pd_bl))
    pdss_nil)
    (pdss_cons (pds_if [] (pdt_cmp (opd_ne hu) (pd_callB (cd_repr2 hu hgd) (by rfl) bi_repr boot_repr (pda_cons (pd_lst (pda_cons (pd_callNK GK_is_value hr (by decide) hgd (pdk_cons (pd_v 0) pdk_nil)) (pda_cons (pd_callNK GK_is_variable hr (by decide) hgd (pdk_cons (pd_v 0) pdk_nil)) pda_nil))) pda_nil)) (pd_v 2) (nomark _))
    (pdss_one (pds_ret [] pd_bl))
    pdss_nil)
    (pdss_one (pds_ret [] (pd_cmp (opd_eq hu) (pd_callB (cd_repr2 hu hgd) (by rfl) bi_repr boot_repr (pda_cons (pd_v 0) pda_nil)) (pd_v 1) (nomark _))))))))
abbrev s_is_told_near : Stmt := topS 26
abbrev N_is_told_near : List Str := ["_law_purse_here", "_law_text_here", "_law_at", "_law_way"]
theorem sc_is_told_near : FnScope N_is_told_near ["_law_purse_here", "_law_text_here"] (defScope s_is_told_near) := ⟨rfl, rfl, rfl, by decide +kernel, rfl, by decide +kernel, by decide +kernel⟩
def m_is_told_near (sp_is_told sp_spoilt : SpD) : MS :=
    (mSeq (mIfS [] (mNotT (tBl (mCall sp_is_told (maCons (mVar 1) maNil))))
    (mRet [] (mC (.bl false)))
    mNext)
    (mSeq (mForR [] (mRng1 (maCons (mOp addD (mCB lenD (maCons (mVar 1) maNil)) (mC (.int 1))) maNil)) (.nm 2)
    (mForR [] (mRng1 (maCons (mC (.int 3)) maNil)) (.nm 3)
    (mIfS [] (mNotT (tBl (mCall sp_is_told (maCons (mCall sp_spoilt (maCons (mVar 0) (maCons (mVar 1) (maCons (mVar 2) (maCons (mVar 3) maNil))))) maNil))))
    (mRet [] (mC (.bl false)))
    mNext)))
    (mRet [] (mC (.bl true)))))
theorem ok_is_told_near {P : Program} {w : World} {K : PySem.W.Frag} {mg : Str → Option Value} {base : Heap} {f : Addr} {fd : FuncData} (F : Fun K "_law_is_told_near" "_law_is_told_near" s_is_told_near f fd) (bi_range : mg "range" = none) (bi_len : mg "len" = none) {sp_is_told : SpD} (G_is_told : Kn P w K mg base "_law_is_told" 4 ["_law_thing_here"] sp_is_told) {sp_spoilt : SpD} (G_spoilt : Kn P w K mg base "_law_spoilt" 3 ["_law_purse_here", "_law_text_here", "_law_at", "_law_way"] sp_spoilt) : FnD P w K mg base 5 f fd ["_law_purse_here", "_law_text_here"] (spOf 2 N_is_told_near.length (m_is_told_near sp_is_told sp_spoilt)) := by
  have nd := sc_is_told_near.nd
  refine fnD_of F sc_is_told_near fun cdv A out s H E hr hgd => ?_
  have hu := hr.units
  exact (pdss_cons (pds_if [] (pdt_not (pdt_val (pd_callN G_is_told hr (by decide) hgd (pda_cons (pd_v 1) pda_nil))))
    (pdss_one (pds_ret [] pd_bl))
    pdss_nil)
    (pdss_cons (pds_forR [] (t := (.nm 2)) PassesOwn.never rfl (pdr_1 (by rfl) bi_range (pda_cons (pd_op opd_add (pd_callB cd_len (by rfl) bi_len boot_len (pda_cons (pd_v 1) pda_nil)) pd_int) pda_nil)) (pgt_nm 2 nd)
    (pdss_one (pds_forR [] (t := (.nm 3)) PassesOwn.never rfl (pdr_1 (by rfl) bi_range (pda_cons pd_int pda_nil)) (pgt_nm 3 nd)
    (pdss_one (pds_if [] (pdt_not (pdt_val (pd_callN G_is_told hr (by decide) hgd (pda_cons (pd_callN G_spoilt hr (by decide) hgd (pda_cons (pd_v 0) (pda_cons (pd_v 1) (pda_cons (pd_v 2) (pda_cons (pd_v 3) pda_nil))))) pda_nil))))
    (pdss_one (pds_ret [] pd_bl))
    pdss_nil)))))
    (pdss_one (pds_ret [] pd_bl))))
abbrev s_law : Stmt := topS 27
abbrev N_law : List Str := ["_law_script", "_law_purse_here", "_law_turn", "_law_thing_here", "_law_word", "_law_letters_here", "_law_mark_here", "_law_text_here", "_law_edges"]
theorem sc_law : FnScope N_law ["_law_script"] (defScope s_law) := ⟨rfl, rfl, rfl, by decide +kernel, rfl, by decide +kernel, by decide +kernel⟩
/- law: what stands behind the first statement -/
def m_law (sp_thing sp_pick sp_is_told sp_wrapped sp_letters sp_draw sp_is_told_near sp_is_value sp_is_variable : SpD) : MS :=
    (mSeq (mForR [] (mRng1 (maCons (mC (.int 24)) maNil)) (.nm 2)
    (mSeq (mAsg [] 3 (mCall sp_thing (maCons (mVar 1) (maCons (mCall sp_pick (maCons (mVar 1) (maCons (mLst (maCons (mC (.int 0)) (maCons (mC (.int 0)) (maCons (mC (.int 0)) (maCons (mC (.int 3)) maNil))))) maNil))) maNil))))
    (mSeq (mIfS [] (mNotT (tBl (mCall sp_is_told (maCons (mVar 3) maNil))))
    (mRet [] (mC (.bl false)))
    mNext)
    (mIfS [] (mAndT (tBl (mOp eqD (mOp modD (mCB int2D (maCons (mVar 2) maNil)) (mC (.int 6))) (mC (.int 5)))) (mNotT (tBl (mCall sp_is_told (maCons (mCall sp_wrapped (maCons (mVar 1) (maCons (mVar 3) maNil))) maNil)))))
    (mRet [] (mC (.bl false)))
    mNext))))
    (mSeq (mPar2 [] 4 5 (maCons (mCall sp_letters (maCons (mVar 1) (maCons (mOp addD (mC (.int 1)) (mCall sp_draw (maCons (mVar 1) (maCons (mC (.int 12)) maNil)))) maNil))) (maCons (mCall sp_letters (maCons (mVar 1) (maCons (mOp addD (mC (.int 1)) (mCall sp_draw (maCons (mVar 1) (maCons (mC (.int 3)) maNil)))) maNil))) maNil)))
    (mSeq (mAsg [] 6 (mCall sp_pick (maCons (mVar 1) (maCons (mLst (maCons (mC (.int 0)) (maCons (mC (.int 7)) (maCons (mC (.int 10)) (maCons (mOp powD (mC (.int 10)) (mC (.int 9))) (maCons (mCall sp_draw (maCons (mVar 1) (maCons (mOp powD (mC (.int 10)) (mC (.int 9))) maNil))) (maCons (mCall sp_draw (maCons (mVar 1) (maCons (mC (.int 1000)) maNil))) maNil))))))) maNil))))
    (mSeq (mFor [] (mSeqI (mLst (maCons (mVar 4) (maCons (mOp addD (mC (.str (Str.ofString "?"))) (mVar 5)) (maCons (mOp addD (mOp addD (mOp addD (mC (.str (Str.ofString "?"))) (mVar 5)) (mC (.str (Str.ofString ".")))) (mCB strD (maCons (mVar 6) maNil))) maNil))))) (.nm 7)
    (mIfS [] (mNotT (tBl (mCall sp_is_told_near (maCons (mVar 1) (maCons (mVar 7) maNil)))))
    (mRet [] (mC (.bl false)))
    mNext))
    (mSeq (mIfS [] (mOrT (tBl (mOp (isU true) (mCall sp_is_value (maCons (mVar 4) maNil)) (mC (.bl true)))) (tBl (mOp (isU true) (mCall sp_is_variable (maCons (mOp addD (mOp addD (mOp addD (mC (.str (Str.ofString "?"))) (mVar 5)) (mC (.str (Str.ofString ".")))) (mCB strD (maCons (mVar 6) maNil))) maNil)) (mC (.bl true)))))
    (mRet [] (mC (.bl false)))
    mNext)
    (mSeq (mAsg [] 8 (mLst (maCons (mC .non) (maCons (mC (.bl true)) (maCons (mC (.bl false)) (maCons (mC (.str (Str.ofString ""))) (maCons (mC (.str (Str.ofString "?"))) (maCons (mOp mulD (mC (.str (Str.ofString "a"))) (mC (.int 12))) (maCons (mOp mulD (mC (.str (Str.ofString "a"))) (mC (.int 13))) (maCons (mC (.str (Str.ofString "z"))) (maCons (mC (.str (Str.ofString "?abc"))) (maCons (mC (.str (Str.ofString "?abcd"))) (maCons (mC (.str (Str.ofString "?a.0"))) (maCons (mC (.str (Str.ofString "?a.00"))) (maCons (mC (.str (Str.ofString "?a.1000000000"))) maNil)))))))))))))))
    (mSeq (mAsg [] 8 (mOp addD (mVar 8) (mLst (maCons (mOp powD (mC (.int 10)) (mC (.int 9))) (maCons (mUn negD (mOp powD (mC (.int 10)) (mC (.int 9)))) (maCons (mOp addD (mOp powD (mC (.int 10)) (mC (.int 9))) (mC (.int 1))) (maCons (mOp subD (mUn negD (mOp powD (mC (.int 10)) (mC (.int 9)))) (mC (.int 1))) (maCons (mC (.int 0)) (maCons (mC (.str (Str.ofString "0"))) (maCons (mC (.str (Str.ofString "7"))) (maCons (mC (.str (Str.ofString "A"))) (maCons (mC (.str (Str.ofString "a
"))) (maCons (mC (.str (Str.ofString "?a
"))) (maCons (mC (.str (Str.ofString "?a.7
"))) (maCons (mTup maNil) maNil)))))))))))))))
    (mSeq (mAsg [] 8 (mOp addD (mVar 8) (mLst (maCons (mLst maNil) (maCons (mC (dicOf [])) (maCons (mOp addD (mC (.str (Str.ofString "?x."))) (mOp mulD (mC (.str (Str.ofString "9"))) (mC (.int 5000)))) (maCons (mOp addD (mC (.str (Str.ofString "?x.1"))) (mOp mulD (mC (.str (Str.ofString "0"))) (mC (.int 5000)))) (maCons (mOp mulD (mC (.str (Str.ofString "9"))) (mC (.int 5000))) maNil))))))))
    (mSeq (mAsg [] 8 (mOp addD (mVar 8) (mLst (maCons (mTup (maCons (mC (.str (Str.ofString "a"))) maNil)) (maCons (mLst (maCons (mC (.str (Str.ofString "a"))) maNil)) (maCons (mTup (maCons (mC (.int 7)) maNil)) (maCons (mTup (maCons (mC (.str (Str.ofString "?a"))) maNil)) (maCons (mDisp [.inr (Str.ofString "?a")] (maCons (mC (.int 1)) maNil)) (maCons (mC (.str (Str.ofString "?a.1000000001"))) (maCons (mC (.str (Str.ofString "a b"))) (maCons (mC (.str (Str.ofString "?A"))) (maCons (mC (.str (Str.ofString "?a."))) (maCons (mC (.str (Str.ofString "?.7"))) (maCons (mC (.str (Str.ofString "?a.07"))) maNil))))))))))))))
    (mSeq (mFor [] (mSeqI (mVar 8)) (.nm 3)
    (mIfS [] (mNotT (tBl (mCall sp_is_told (maCons (mVar 3) maNil))))
    (mRet [] (mC (.bl false)))
    mNext))
    (mRet [] (mC (.bl true)))))))))))))
theorem rd_law {P : Program} {w : World} {K : PySem.W.Frag} {mg : Str → Option Value} {base : Heap} {f : Addr} {cdv : Value} {A : Around} {out : List PySem.Env} {s : Shared} {H : Hp} {E : XK} (nd : N_law.Nodup) (hr : Room 8 (A.deeper (envOfC "law" (defScope s_law) s.heap.objs.size f cdv))) (hgd : A.guards = some []) (bi_range : mg "range" = none) (bi_int : mg "int" = none) (bi_str : mg "str" = none) {sp_thing : SpD} (G_thing : Kn P w K mg base "_law_thing" 8 ["_law_purse_here", "_law_deep"] sp_thing) {sp_pick : SpD} (G_pick : Kn P w K mg base "_law_pick" 2 ["_law_purse_here", "_law_some"] sp_pick) {sp_is_told : SpD} (G_is_told : Kn P w K mg base "_law_is_told" 4 ["_law_thing_here"] sp_is_told) {sp_wrapped : SpD} (G_wrapped : Kn P w K mg base "_law_wrapped" 2 ["_law_purse_here", "_law_thing_here"] sp_wrapped) {sp_letters : SpD} (G_letters : Kn P w K mg base "_law_letters" 3 ["_law_purse_here", "_law_size"] sp_letters) {sp_draw : SpD} (G_draw : Kn P w K mg base "_law_draw" 1 ["_law_purse_here", "_law_many"] sp_draw) {sp_is_told_near : SpD} (G_is_told_near : Kn P w K mg base "_law_is_told_near" 5 ["_law_purse_here", "_law_text_here"] sp_is_told_near) {sp_is_value : SpD} (G_is_value : Kn P w K mg base "is_value" 3 ["value"] sp_is_value) {sp_is_variable : SpD} (G_is_variable : Kn P w K mg base "is_variable" 2 ["value"] sp_is_variable) : PDSs (cxOf CX0 P w K mg base N_law "law" (defScope s_law) f cdv A out s H E).nox ((defBody s_law).drop 1) (m_law sp_thing sp_pick sp_is_told sp_wrapped sp_letters sp_draw sp_is_told_near sp_is_value sp_is_variable) := by
  have hu := hr.units
  exact (pdss_cons (pds_forR [] (t := (.nm 2)) PassesOwn.never rfl (pdr_1 (by rfl) bi_range (pda_cons pd_int pda_nil)) (pgt_nm 2 nd)
    (pdss_cons (pds_set [] 3 nd (pd_callN G_thing hr (by decide) hgd (pda_cons (pd_v 1) (pda_cons (pd_callN G_pick hr (by decide) hgd (pda_cons (pd_v 1) (pda_cons (pd_lst (pda_cons pd_int (pda_cons pd_int (pda_cons pd_int (pda_cons pd_int pda_nil))))) pda_nil))) pda_nil))))
    (pdss_cons (pds_if [] (pdt_not (pdt_val (pd_callN G_is_told hr (by decide) hgd (pda_cons (pd_v 3) pda_nil))))
    (pdss_one (pds_ret [] pd_bl))
    pdss_nil)
    (pdss_one (pds_if [] (PDW.pdt (pdw_and (pdt_cmp (opd_eq hu) (pd_op opd_mod (pd_callTy cd_int2 (by rfl) bi_int boot_int (pda_cons (pd_v 2) pda_nil)) pd_int) pd_int (nomark _)) (pdw_and1 (pdt_not (pdt_val (pd_callN G_is_told hr (by decide) hgd (pda_cons (pd_callN G_wrapped hr (by decide) hgd (pda_cons (pd_v 1) (pda_cons (pd_v 3) pda_nil))) pda_nil)))))))
    (pdss_one (pds_ret [] pd_bl))
    pdss_nil)))))
    (pdss_cons (pds_p2 [] 4 5 rfl nd (pda_cons (pd_callN G_letters hr (by decide) hgd (pda_cons (pd_v 1) (pda_cons (pd_op opd_add pd_int (pd_callN G_draw hr (by decide) hgd (pda_cons (pd_v 1) (pda_cons pd_int pda_nil)))) pda_nil))) (pda_cons (pd_callN G_letters hr (by decide) hgd (pda_cons (pd_v 1) (pda_cons (pd_op opd_add pd_int (pd_callN G_draw hr (by decide) hgd (pda_cons (pd_v 1) (pda_cons pd_int pda_nil)))) pda_nil))) pda_nil)))
    (pdss_cons (pds_set [] 6 nd (pd_callN G_pick hr (by decide) hgd (pda_cons (pd_v 1) (pda_cons (pd_lst (pda_cons pd_int (pda_cons pd_int (pda_cons pd_int (pda_cons (pd_op opd_pow pd_int pd_int) (pda_cons (pd_callN G_draw hr (by decide) hgd (pda_cons (pd_v 1) (pda_cons (pd_op opd_pow pd_int pd_int) pda_nil))) (pda_cons (pd_callN G_draw hr (by decide) hgd (pda_cons (pd_v 1) (pda_cons pd_int pda_nil))) pda_nil))))))) pda_nil))))
    (pdss_cons (pds_for [] (t := (.nm 7)) PassesOwn.never rfl (pdi_seq (pd_lst (pda_cons (pd_v 4) (pda_cons (pd_op opd_add pd_str (pd_v 5)) (pda_cons (pd_op opd_add (pd_op opd_add (pd_op opd_add pd_str (pd_v 5)) pd_str) (pd_callTy cd_str (by rfl) bi_str boot_str (pda_cons (pd_v 6) pda_nil))) pda_nil))))) (pgt_nm 7 nd)
    (pdss_one (pds_if [] (pdt_not (pdt_val (pd_callN G_is_told_near hr (by decide) hgd (pda_cons (pd_v 1) (pda_cons (pd_v 7) pda_nil)))))
    (pdss_one (pds_ret [] pd_bl))
    pdss_nil)))
    (pdss_cons (pds_if [] (PDW.pdt (pdw_or (pdt_cmp opd_isnotU (pd_callN G_is_value hr (by decide) hgd (pda_cons (pd_v 4) pda_nil)) pd_bl (nomark _)) (pdw_or1 (pdt_cmp opd_isnotU (pd_callN G_is_variable hr (by decide) hgd (pda_cons (pd_op opd_add (pd_op opd_add (pd_op opd_add pd_str (pd_v 5)) pd_str) (pd_callTy cd_str (by rfl) bi_str boot_str (pda_cons (pd_v 6) pda_nil))) pda_nil)) pd_bl (nomark _)))))
    (pdss_one (pds_ret [] pd_bl))
    pdss_nil)
    (pdss_cons (pds_set [] 8 nd (pd_lst (pda_cons pd_non (pda_cons pd_bl (pda_cons pd_bl (pda_cons pd_str (pda_cons pd_str (pda_cons (pd_op opd_mul pd_str pd_int) (pda_cons (pd_op opd_mul pd_str pd_int) (pda_cons pd_str (pda_cons pd_str (pda_cons pd_str (pda_cons pd_str (pda_cons pd_str (pda_cons pd_str pda_nil)))))))))))))))
    (pdss_cons (pds_set [] 8 nd (pd_op opd_add (pd_v 8) (pd_lst (pda_cons (pd_op opd_pow pd_int pd_int) (pda_cons (pd_un und_neg (pd_op opd_pow pd_int pd_int)) (pda_cons (pd_op opd_add (pd_op opd_pow pd_int pd_int) pd_int) (pda_cons (pd_op opd_sub (pd_un und_neg (pd_op opd_pow pd_int pd_int)) pd_int) (pda_cons pd_int (pda_cons pd_str (pda_cons pd_str (pda_cons pd_str (pda_cons pd_str (pda_cons pd_str (pda_cons pd_str (pda_cons (pd_tup pda_nil) pda_nil)))))))))))))))
    (pdss_cons (pds_set [] 8 nd (pd_op opd_add (pd_v 8) (pd_lst (pda_cons (pd_lst pda_nil) (pda_cons pd_dnew (pda_cons (pd_op opd_add pd_str (pd_op opd_mul pd_str pd_int)) (pda_cons (pd_op opd_add pd_str (pd_op opd_mul pd_str pd_int)) (pda_cons (pd_op opd_mul pd_str pd_int) pda_nil))))))))
    (pdss_cons (pds_set [] 8 nd (pd_op opd_add (pd_v 8) (pd_lst (pda_cons (pd_tup (pda_cons pd_str pda_nil)) (pda_cons (pd_lst (pda_cons pd_str pda_nil)) (pda_cons (pd_tup (pda_cons pd_int pda_nil)) (pda_cons (pd_tup (pda_cons pd_str pda_nil)) (pda_cons (pd_disp (pdp_cons pk_str pd_int pdp_nil)) (pda_cons pd_str (pda_cons pd_str (pda_cons pd_str (pda_cons pd_str (pda_cons pd_str (pda_cons pd_str pda_nil))))))))))))))
    (pdss_cons (pds_for [] (t := (.nm 3)) PassesOwn.never rfl (pdi_seq (pd_v 8)) (pgt_nm 3 nd)
    (pdss_one (pds_if [] (pdt_not (pdt_val (pd_callN G_is_told hr (by decide) hgd (pda_cons (pd_v 3) pda_nil))))
    (pdss_one (pds_ret [] pd_bl))
    pdss_nil)))
    (pdss_one (pds_ret [] pd_bl))))))))))))
end K01

/-! Texts: parts, figures; values that come for certain. -/
namespace BV
open PySem PySem.Spec PyProof.Rows L2 Evl

/-- m gives d, whatever is wanted of it -/
def Ev (m : ME) (env : Env) (d : D) : Prop := ∀ R : D → Prop, R d → m env R
def EvT (m : MT) (env : Env) (b : Bool) : Prop := ∀ R : Bool → Prop, R b → m env R
theorem Ev.var {i : Nat} {env : Env} {d : D} (h : env[i]? = some (some d)) : Ev (mVar i) env d := fun R r => ⟨d, h, r⟩
theorem Ev.c {d : D} {env : Env} : Ev (mC d) env d := fun R r => r
theorem Ev.and {ma mb : ME} {env : Env} {a b : Bool} (ha : Ev ma env (.bl a)) (hb : a = true → Ev mb env (.bl b)) : Ev (mAndV ma mb) env (.bl (a && b)) := fun R r => ha _ ⟨a, rfl, by
  cases a with
  | true => exact hb rfl R r
  | false => exact r⟩
theorem Ev.or {ma mb : ME} {env : Env} {a b : Bool} (ha : Ev ma env (.bl a)) (hb : a = false → Ev mb env (.bl b)) : Ev (mOrV ma mb) env (.bl (a || b)) := fun R r => ha _ ⟨a, rfl, by
  cases a with
  | true => exact r
  | false => exact hb rfl R r⟩
theorem Ev.not {ma : ME} {env : Env} {a : Bool} (ha : Ev ma env (.bl a)) : Ev (mNotV ma) env (.bl (!a)) := fun R r => ha _ ⟨a, rfl, r⟩
theorem Ev.op {g : D → D → Option D} {ma mb : ME} {env : Env} {x y u : D} (ha : Ev ma env x) (hb : Ev mb env y) (h : g x y = some u) : Ev (mOp g ma mb) env u := fun R r => ha _ (hb _ ⟨u, h, r⟩)
theorem Ev.isi {T : String} {ma : ME} {env : Env} {x : D} {b : Bool} (ha : Ev ma env x) (h : isiD T x = some b) : Ev (mIsi T ma) env (.bl b) := fun R r => ha _ ⟨b, h, r⟩
theorem Ev.len {ma : ME} {env : Env} {x u : D} (ha : Ev ma env x) (h : lenD [x] = some u) : Ev (mCB lenD (maCons ma maNil)) env u := fun R r => ha _ ⟨u, h, r⟩
theorem Ev.call1 {sp : SpD} {ma : ME} {env : Env} {x u : D} (ha : Ev ma env x) (h : ∀ T : D → Prop, T u → sp [x] T) : Ev (mCall sp (maCons ma maNil)) env u := fun R r => ha _ ⟨fun d => d = u, h _ rfl, fun d e => by rw [e]; exact r⟩
theorem Ev.call2 {sp : SpD} {ma mb : ME} {env : Env} {x y u : D} (ha : Ev ma env x) (hb : Ev mb env y) (h : ∀ T : D → Prop, T u → sp [x, y] T) : Ev (mCall sp (maCons ma (maCons mb maNil))) env u := fun R r => ha _ (hb _ ⟨fun d => d = u, h _ rfl, fun d e => by rw [e]; exact r⟩)
theorem EvT.bl {m : ME} {env : Env} {b : Bool} (h : Ev m env (.bl b)) : EvT (tBl m) env b := fun R r => h _ ⟨b, rfl, r⟩
theorem EvT.not {m : MT} {env : Env} {b : Bool} (h : EvT m env b) : EvT (mNotT m) env (!b) := fun R r => h _ r
theorem EvT.and {ma mb : MT} {env : Env} {a b : Bool} (ha : EvT ma env a) (hb : a = true → EvT mb env b) : EvT (mAndT ma mb) env (a && b) := fun R r => ha _ (by
  cases a with
  | true => exact hb rfl R r
  | false => exact r)
theorem EvT.or {ma mb : MT} {env : Env} {a b : Bool} (ha : EvT ma env a) (hb : a = false → EvT mb env b) : EvT (mOrT ma mb) env (a || b) := fun R r => ha _ (by
  cases a with
  | true => exact r
  | false => exact hb rfl R r)
theorem Ev.of {m : ME} {env : Env} {d e : D} (h : Ev m env d) (q : d = e) : Ev m env e := q ▸ h
theorem EvT.of {m : MT} {env : Env} {d e : Bool} (h : EvT m env d) (q : d = e) : EvT m env e := q ▸ h
/-- if t: a, else b -/
theorem ifS {rs : List Nat} {t : MT} {a b : MS} {E : EndD} {env : SEnv} {c : Bool} (h : EvT t (view rs 0 env) c) (k : if c = true then a E env else b E env) : mIfS rs t a b E env := h _ k
theorem retS {rs : List Nat} {m : ME} {E : EndD} {env : SEnv} {d : D} (h : Ev m (view rs 0 env) d) (k : E.rt d) : mRet rs m E env := h _ k

/-! ### lists of codes -/
theorem part_spec (x : Str) (c : Nat) : (c ∉ x.cps.toList ∧ Txt.partition x ⟨#[c]⟩ = (x, Str.empty, Str.empty)) ∨ ∃ a f : Str, Txt.partition x ⟨#[c]⟩ = (a, ⟨#[c]⟩, f) ∧ x.cps.toList = a.cps.toList ++ c :: f.cps.toList ∧ c ∉ a.cps.toList := by
  rcases PySem.StrLaws.occ_head x ⟨#[c]⟩ 1 (Nat.le_refl _) with ⟨h, hn⟩ | ⟨i, r, h, ha, hn⟩
  · refine .inl ⟨?_, ?_⟩
    · have := PySem.StrLaws.part_free x c 0 x.length (Nat.le_refl _) fun k _ _ => hn k
      rwa [PySem.StrLaws.sub_whole] at this
    · unfold Txt.partition
      rw [h]
  · refine .inr ⟨Builtin.Str.strSub x 0 i, Builtin.Str.strSub x (i + 1) x.length, ?_, ?_, ?_⟩
    · unfold Txt.partition
      rw [h]
      rfl
    · have := PySem.StrLaws.sub_cat x ⟨#[c]⟩ (Nat.zero_le i) ha
      rw [PySem.StrLaws.sub_whole] at this
      have e := congrArg (fun s : Str => s.cps.toList) this
      rw [cps_toList_append, cps_toList_append] at e
      rw [← e, List.append_assoc]
      rfl
    · refine PySem.StrLaws.part_free x c 0 i ?_ fun k _ hk => hn k hk
      have := ha.1
      omega
theorem split_ne (x : Str) (c : Nat) : Txt.split x ⟨#[c]⟩ ≠ [] := fun e => by
  have := split_pos x ⟨#[c]⟩
  rw [e] at this
  simp at this
theorem free_uniq {c : Nat} : ∀ {a b f g : List Nat}, c ∉ a → c ∉ b → a ++ c :: f = b ++ c :: g → a = b ∧ f = g
  | [], [], f, g, _, _, h => ⟨rfl, by simpa using h⟩
  | [], y :: b, f, g, _, hb, h => by
    simp only [List.nil_append, List.cons_append, List.cons.injEq] at h
    exact absurd (by rw [h.1]; simp) hb
  | x :: a, [], f, g, ha, _, h => by
    simp only [List.nil_append, List.cons_append, List.cons.injEq] at h
    exact absurd (by rw [← h.1]; simp) ha
  | x :: a, y :: b, f, g, ha, hb, h => by
    simp only [List.cons_append, List.cons.injEq] at h
    obtain ⟨e1, e2⟩ := free_uniq (fun q => ha (by simp [q])) (fun q => hb (by simp [q])) h.2
    exact ⟨by rw [h.1, e1], e2⟩
/-- the parts: none, one, or more points -/
theorem split_cases (x : Str) (c : Nat) : (c ∉ x.cps.toList ∧ Txt.split x ⟨#[c]⟩ = [x]) ∨ (∃ a f : Str, Txt.split x ⟨#[c]⟩ = [a, f] ∧ x.cps.toList = a.cps.toList ++ c :: f.cps.toList ∧ c ∉ a.cps.toList ∧ c ∉ f.cps.toList) ∨
    ∃ (a : Str) (f : List Nat), 2 < (Txt.split x ⟨#[c]⟩).length ∧ x.cps.toList = a.cps.toList ++ c :: f ∧ c ∉ a.cps.toList ∧ c ∈ f := by
  have hf := PySem.StrLaws.split_free x c
  have hj := PySem.StrLaws.join_split x ⟨#[c]⟩
  have hn := split_ne x c
  generalize Txt.split x ⟨#[c]⟩ = ps at hf hj hn ⊢
  match ps, hf, hj, hn with
  | [], _, _, h => exact absurd rfl h
  | [a], hf, hj, _ =>
    have e : a = x := hj
    subst e
    exact .inl ⟨hf a (by simp), rfl⟩
  | [a, f], hf, hj, _ =>
    refine .inr (.inl ⟨a, f, rfl, ?_, hf a (by simp), hf f (by simp)⟩)
    have e := congrArg (fun s : Str => s.cps.toList) (show a ++ ⟨#[c]⟩ ++ f = x from hj)
    rw [cps_toList_append, cps_toList_append, List.append_assoc] at e
    exact e.symm
  | a :: b :: d :: r, hf, hj, _ =>
    have e := congrArg (fun s : Str => s.cps.toList) (show a ++ ⟨#[c]⟩ ++ (b ++ ⟨#[c]⟩ ++ Str.join ⟨#[c]⟩ (d :: r)) = x from hj)
    rw [cps_toList_append, cps_toList_append, List.append_assoc] at e
    refine .inr (.inr ⟨a, (b ++ (⟨#[c]⟩ : Str) ++ Str.join ⟨#[c]⟩ (d :: r)).cps.toList, by simp, e.symm, hf a (by simp), ?_⟩)
    rw [cps_toList_append, cps_toList_append, List.append_assoc]
    exact List.mem_append_right _ (by show c ∈ c :: _; simp)
end BV

/-! k01: what is a value, what is a variable. -/
namespace K01
open PySem PySem.Spec PyProof.Rows L2 Evl BV

def digB (l : List Nat) : Bool := l.all fun c => decide (48 ≤ c ∧ c ≤ 57)
def lowB (l : List Nat) (n : Nat) : Bool := decide (1 ≤ l.length) && decide (l.length ≤ n) && l.all fun c => decide (97 ≤ c ∧ c ≤ 122)
def markB (f : List Nat) : Bool := decide (1 ≤ f.length) && decide (f.length ≤ 10) && digB f && decide (TL.numL (NumText.digitsVal f) = f) && decide (NumText.digitsVal f ≤ 1000000000)
def tailB (l : List Nat) : Bool := lowB (l.takeWhile (· != 46)) 3 && match l.dropWhile (· != 46) with
  | [] => true
  | _ :: f => markB f
def valB : D → Bool
  | .int i => decide (-1000000000 ≤ i ∧ i ≤ 1000000000)
  | .str s => lowB s.cps.toList 12
  | _ => false
def varB : D → Bool
  | .str s => (match s.cps.toList with
    | 63 :: r => tailB r
    | _ => false)
  | _ => false
/-- what is asked: anything but the purse; texts are printable -/
def isI (d : D) : Bool := match d with | .int _ => true | _ => false
def okT (d : D) : Prop := d ≠ .pur ∧ ∀ s, d = .str s → isA 100000 s
theorem uni : ∀ c < 127, Unicode.isAlpha c = decide (65 ≤ c ∧ c ≤ 90 ∨ 97 ≤ c ∧ c ≤ 122) ∧ Unicode.isLower c = decide (97 ≤ c ∧ c ≤ 122) ∧ (Unicode.isUpper c || Unicode.isTitle c) = decide (65 ≤ c ∧ c ≤ 90) := by decide +kernel
theorem As.lt {s : Str} (h : As s) : ∀ c ∈ s.cps.toList, c < 127 := fun c hc => by have := h c hc; omega
theorem ascii_of {s : Str} (h : As s) : Txt.isascii s = true := by
  show s.cps.all (· < 128) = true
  rw [Array.all_eq_true_iff_forall_mem]
  intro c hc
  have := As.lt h c (Array.mem_toList_iff.mpr hc)
  simp only [decide_eq_true_eq]
  omega
theorem arr_all {a : Array Nat} {p : Nat → Bool} : a.all p = a.toList.all p := by rw [← Array.all_toList]
theorem arr_any {a : Array Nat} {p : Nat → Bool} : a.any p = a.toList.any p := by rw [← Array.any_toList]
theorem all_congr {l : List Nat} {p q : Nat → Bool} (h : ∀ c ∈ l, p c = q c) : l.all p = l.all q := by
  rw [Bool.eq_iff_iff, List.all_eq_true, List.all_eq_true]
  exact ⟨fun k c hc => by rw [← h c hc]; exact k c hc, fun k c hc => by rw [h c hc]; exact k c hc⟩
theorem any_congr {l : List Nat} {p q : Nat → Bool} (h : ∀ c ∈ l, p c = q c) : l.any p = l.any q := by
  rw [Bool.eq_iff_iff, List.any_eq_true, List.any_eq_true]
  exact ⟨fun ⟨c, hc, k⟩ => ⟨c, hc, by rw [← h c hc]; exact k⟩, fun ⟨c, hc, k⟩ => ⟨c, hc, by rw [h c hc]; exact k⟩⟩
theorem lettered {s : Str} (h : As s) (n : Nat) : (decide (s.length ≤ n) && (Txt.isascii s && (Txt.isalpha s && Txt.islower s))) = lowB s.cps.toList n := by
  have hl := As.lt h
  have e1 : Txt.isalpha s = (decide (0 < s.cps.toList.length) && s.cps.toList.all fun c => decide (65 ≤ c ∧ c ≤ 90 ∨ 97 ≤ c ∧ c ≤ 122)) := by
    show (decide (s.length > 0) && s.cps.all Unicode.isAlpha) = _
    rw [arr_all, cps_len, all_congr fun c hc => (uni c (hl c hc)).1]
  have e2 : Txt.islower s = ((s.cps.toList.any fun c => decide (97 ≤ c ∧ c ≤ 122)) && !s.cps.toList.any fun c => decide (65 ≤ c ∧ c ≤ 90)) := by
    show (s.cps.any Unicode.isLower && !s.cps.any fun c => Unicode.isUpper c || Unicode.isTitle c) = _
    rw [arr_any, arr_any, any_congr fun c hc => (uni c (hl c hc)).2.1, any_congr fun c hc => (uni c (hl c hc)).2.2]
  rw [ascii_of h, e1, e2, cps_len s]
  unfold lowB
  generalize s.cps.toList = l at hl
  rw [Bool.eq_iff_iff]
  simp only [Bool.and_eq_true, Bool.true_and, decide_eq_true_eq, List.all_eq_true, List.any_eq_true, Bool.not_eq_true', List.any_eq_false]
  constructor
  · rintro ⟨a, ⟨b, c⟩, d, e⟩
    refine ⟨⟨by omega, a⟩, fun x hx => ?_⟩
    have := c x hx
    have := e x hx
    omega
  · rintro ⟨⟨a, b⟩, c⟩
    refine ⟨b, ⟨by omega, fun x hx => .inr (c x hx)⟩, ?_, fun x hx => by have := c x hx; omega⟩
    match l, a, c with
    | x :: r, _, c => exact ⟨x, by simp, c x (by simp)⟩

def sp_is_integer : SpD := fun ds T => ∃ d, ds = [d] ∧ d ≠ .pur ∧ T (.bl (isI d))
theorem says_is_integer : ∀ ds T, sp_is_integer ds T → spOf 1 N_is_integer.length m_is_integer ds T := by
  rintro ds T ⟨d, rfl, hp, hT⟩
  refine ⟨rfl, ?_⟩
  cases d with
  | pur => exact absurd rfl hp
  | int i => exact ⟨_, rfl, true, rfl, true, rfl, _, rfl, false, rfl, false, rfl, hT⟩
  | bl b => exact ⟨_, rfl, true, rfl, true, rfl, _, rfl, true, rfl, true, rfl, hT⟩
  | _ => exact ⟨_, rfl, false, rfl, false, rfl, hT⟩
def sp_is_lettered : SpD := fun ds T => ∃ s n, ds = [.str s, .int (n : Nat)] ∧ isA 100000 s ∧ T (.bl (lowB s.cps.toList n))
theorem len_a {s : Str} (h : isA 100000 s) : lenD [.str s] = some (.int s.length) := if_pos (BV.sz_of (by have := h.1; omega))
theorem says_is_lettered : ∀ ds T, sp_is_lettered ds T → spOf 2 N_is_lettered.length m_is_lettered ds T := by
  rintro ds T ⟨s, n, rfl, h, hT⟩
  refine ⟨rfl, retS (d := .bl (lowB s.cps.toList n)) (Ev.of ?_ (congrArg D.bl (lettered h.2 n))) hT⟩
  refine Ev.and (Ev.op (Ev.len (Ev.var rfl) (len_a h)) (Ev.var rfl) ?_) fun _ => Ev.and ?_ fun _ => Ev.and ?_ fun _ => ?_
  · show some (D.bl (decide ((s.length : Int) ≤ (n : Int)))) = _
    rw [dec_congr (Int.ofNat_le (m := s.length) (n := n))]
  · exact fun R r => ⟨_, rfl, s, rfl, r⟩
  · exact fun R r => ⟨_, rfl, s, rfl, r⟩
  · exact fun R r => ⟨_, rfl, s, rfl, r⟩
def sp_is_word : SpD := fun ds T => ∃ d, ds = [d] ∧ okT d ∧ T (.bl (match d with | .str s => lowB s.cps.toList 12 | _ => false))
theorem says_is_word : ∀ ds T, sp_is_word ds T → spOf 1 N_is_word.length (m_is_word sp_is_lettered) ds T := by
  rintro ds T ⟨d, rfl, hp, hT⟩
  refine ⟨rfl, ?_⟩
  cases d with
  | pur => exact absurd rfl hp.1
  | str s => exact ⟨_, rfl, true, rfl, true, rfl, _, rfl, _, ⟨s, 12, rfl, hp.2 s rfl, hT⟩, fun d h => h⟩
  | _ => exact ⟨_, rfl, false, rfl, false, rfl, hT⟩
def sp_is_value : SpD := fun ds T => ∃ d, ds = [d] ∧ okT d ∧ T (.bl (valB d))
theorem says_is_value : ∀ ds T, sp_is_value ds T → spOf 1 N_is_value.length (m_is_value sp_is_integer sp_is_word) ds T := by
  rintro ds T ⟨d, rfl, hp, hT⟩
  refine ⟨rfl, ?_⟩
  cases d with
  | pur => exact absurd rfl hp.1
  | int i =>
    refine ifS (c := true) (EvT.bl (Ev.call1 (Ev.var rfl) fun T h => ⟨_, rfl, hp.1, h⟩)) (iteT ⟨_, rfl, _, rfl, _, rfl, ?_⟩)
    show if decide (-1000000000 ≤ i) = true then _ else T (.bl false)
    have e : valB (.int i) = (decide (-1000000000 ≤ i) && decide (i ≤ 1000000000)) := by simp [valB]
    cases h : decide (-1000000000 ≤ i) with
    | true =>
      refine iteT ⟨_, rfl, ?_⟩
      rw [e, h] at hT
      exact hT
    | false =>
      refine iteF ?_
      rw [e, h] at hT
      exact hT
  | _ => exact ifS (c := false) (EvT.bl (Ev.call1 (Ev.var rfl) fun T h => ⟨_, rfl, hp.1, h⟩)) (iteF ⟨_, rfl, T, ⟨_, rfl, hp, hT⟩, fun d h => h⟩)
end K01

/-! k01: marks and variables. -/
namespace K01
open PySem PySem.Spec PyProof.Rows L2 Evl BV

theorem dig_of {l : List Nat} (h : digB l = true) : NumText.AllDigits l := fun c hc => by simpa using List.all_eq_true.mp h c hc
theorem uniD : ∀ c < 127, Unicode.isDigit c = decide (48 ≤ c ∧ c ≤ 57) := by decide +kernel
theorem digit_of {s : Str} (h : As s) : Txt.isdigit s = (decide (1 ≤ s.cps.toList.length) && digB s.cps.toList) := by
  show (decide (s.length > 0) && s.cps.all Unicode.isDigit) = _
  rw [arr_all, cps_len, all_congr fun c hc => uniD c (As.lt h c hc)]
  rfl
theorem str_ofL {n : Nat} : (Str.ofString (toString ((n : Nat) : Int))).cps.toList = TL.numL n := TL.tl_num n
theorem log_small {n : Nat} (h : n ≤ 10000000000) : n.log2 < 1920 := by
  by_cases h0 : n = 0
  · rw [h0]; decide
  · exact (Nat.log2_lt h0).mpr (Nat.lt_of_le_of_lt h (Nat.lt_of_lt_of_le (by decide : 10000000000 < 2 ^ 40) (Nat.pow_le_pow_right (by decide) (by decide))))
theorem str_d {n : Nat} (h : n ≤ 10000000000) : strD [.int (n : Nat)] = some (.str (Str.ofString (toString (n : Int)))) := if_pos (log_small (by simpa using h))
theorem val_lt : ∀ (l : List Nat), NumText.AllDigits l → NumText.digitsVal l < 10 ^ l.length := by
  have key : ∀ (l : List Nat) (a k : Nat), NumText.AllDigits l → a < 10 ^ k → l.foldl (fun acc c => acc * 10 + (c - 48)) a < 10 ^ (k + l.length) := by
    intro l
    induction l with
    | nil => intro a k _ h; exact h
    | cons c l ih =>
      intro a k hd h
      have := hd c (by simp)
      have h2 := ih (a * 10 + (c - 48)) (k + 1) (fun x hx => hd x (by simp [hx])) (by rw [Nat.pow_succ]; omega)
      rw [List.foldl_cons]
      have e : k + (c :: l).length = k + 1 + l.length := by simp only [List.length_cons]; omega
      rw [e]
      exact h2
  intro l h
  have := key l 0 0 h (by decide)
  rwa [Nat.zero_add] at this
theorem int_dig {s : Str} (h : NumText.AllDigits s.cps.toList) (h1 : s.cps.toList ≠ []) (h2 : s.length ≤ 640) : int2D [.str s] = some (.int (NumText.digitsVal s.cps.toList : Nat)) := by
  show (if s.length ≤ 640 then (intText? s).map D.int else none) = _
  rw [if_pos h2, intText_digits h h1 (by omega)]
  rfl
theorem eq_strs {a b : Str} (h : As a) (k : As b) : eqD (.str a) (.str b) = some (.bl (decide (a = b))) := by
  rw [eqD, if_pos ⟨(RL.str h).pl rfl |>.eq (by decide), (RL.str k).pl rfl |>.eq (by decide)⟩]
  congr 2
theorem ne_strs {a b : Str} (h : As a) (k : As b) : neD (.str a) (.str b) = some (.bl (!decide (a = b))) := by
  rw [neD, if_pos ⟨(RL.str h).pl rfl |>.eq (by decide), (RL.str k).pl rfl |>.eq (by decide)⟩]
  congr 3
theorem num_as (n : Nat) : As (Str.ofString (toString (n : Int))) := fun c hc => by
  rw [str_ofL] at hc
  have := TL.numL_digits n c hc
  omega
theorem ext_dec {a b : Str} : decide (a = b) = decide (a.cps.toList = b.cps.toList) := dec_congr ⟨fun e => by rw [e], fun e => str_ext e⟩
def sp_is_mark : SpD := fun ds T => ∃ s, ds = [.str s] ∧ isA 100000 s ∧ T (.bl (markB s.cps.toList))
theorem says_is_mark : ∀ ds T, sp_is_mark ds T → spOf 1 N_is_mark.length m_is_mark ds T := by
  rintro ds T ⟨s, rfl, h, hT⟩
  have hl := cps_len s
  have d1 : Ev (mCB lenD (maCons (mVar 0) maNil)) (view [] 0 (startE N_is_mark.length [.str s])) (.int s.length) := Ev.len (Ev.var rfl) (len_a h)
  have t1 : EvT (mOrT (tBl (mOp gtD (mCB lenD (maCons (mVar 0) maNil)) (mCB lenD (maCons (mCB strD (maCons (mC (.int 1000000000)) maNil)) maNil)))) (mNotT (mAndT (tBl (mStM (fun s => .bl (Txt.isascii s)) (mVar 0))) (tBl (mStM (fun s => .bl (Txt.isdigit s)) (mVar 0)))))) (view [] 0 (startE N_is_mark.length [.str s]))
      (decide (10 < s.length) || !(Txt.isascii s && Txt.isdigit s)) := by
    refine EvT.or (EvT.bl (Ev.op d1 (y := .int 10) (fun R r => ⟨_, rfl, _, rfl, r⟩) ?_)) fun _ => EvT.not (EvT.and (EvT.bl fun R r => ⟨_, rfl, s, rfl, r⟩) fun _ => EvT.bl fun R r => ⟨_, rfl, s, rfl, r⟩)
    show some (D.bl (decide ((10 : Int) < (s.length : Int)))) = _
    rw [dec_congr (show (10 : Int) < (s.length : Int) ↔ 10 < s.length by omega)]
  refine ⟨rfl, ifS t1 ?_⟩
  rw [ascii_of h.2, digit_of h.2, hl, Bool.true_and]
  by_cases c1 : (decide (1 ≤ s.cps.toList.length) && decide (s.cps.toList.length ≤ 10) && digB s.cps.toList) = true
  · simp only [Bool.and_eq_true, decide_eq_true_eq] at c1
    obtain ⟨⟨a, b⟩, c⟩ := c1
    have hd := dig_of c
    have hne : s.cps.toList ≠ [] := fun e => by rw [e] at a; simp at a
    have e0 : (decide (10 < s.cps.toList.length) || !(decide (1 ≤ s.cps.toList.length) && digB s.cps.toList)) = false := by
      rw [decide_eq_false (by omega), decide_eq_true a, c]; rfl
    rw [e0]
    refine iteF ?_
    have hv := val_lt _ hd
    have hv' : NumText.digitsVal s.cps.toList < 10 ^ 10 := Nat.lt_of_lt_of_le hv (Nat.pow_le_pow_right (by decide) b)
    have em : markB s.cps.toList = (decide (NumText.digitsVal s.cps.toList ≤ 1000000000) && decide (TL.numL (NumText.digitsVal s.cps.toList) = s.cps.toList)) := by
      unfold markB
      rw [decide_eq_true a, decide_eq_true b, c]
      simp [Bool.and_comm]
    refine ⟨_, rfl, _, int_dig hd hne (by omega), ?_⟩
    refine retS (d := .bl (markB s.cps.toList)) (Ev.of (Ev.and (a := decide (NumText.digitsVal s.cps.toList ≤ 1000000000)) (b := decide (TL.numL (NumText.digitsVal s.cps.toList) = s.cps.toList)) (Ev.op (Ev.var rfl) Ev.c ?_) fun _ => ?_) (congrArg D.bl em.symm)) hT
    · show some (D.bl (decide (((NumText.digitsVal s.cps.toList : Nat) : Int) ≤ 1000000000))) = _
      rw [dec_congr (show ((NumText.digitsVal s.cps.toList : Nat) : Int) ≤ 1000000000 ↔ NumText.digitsVal s.cps.toList ≤ 1000000000 by omega)]
    · refine fun R r => ⟨_, rfl, _, str_d (n := NumText.digitsVal s.cps.toList) (by omega), _, rfl, _, eq_strs (num_as _) h.2, ?_⟩
      rw [ext_dec, str_ofL]
      exact r
  · have e0 : (decide (10 < s.cps.toList.length) || !(decide (1 ≤ s.cps.toList.length) && digB s.cps.toList)) = true := by
      rw [Bool.not_eq_true] at c1
      cases h1 : decide (1 ≤ s.cps.toList.length) with
      | false => simp
      | true =>
        cases h2 : digB s.cps.toList with
        | false => simp
        | true =>
          rw [h1, h2] at c1
          simp only [Bool.true_and, Bool.and_true, decide_eq_false_iff_not] at c1
          rw [decide_eq_true (show 10 < s.cps.toList.length by omega)]
          rfl
    rw [e0]
    have em : markB s.cps.toList = false := by
      unfold markB
      rw [Bool.not_eq_true] at c1
      rw [c1]
      rfl
    rw [em] at hT
    exact iteT hT
end K01

/-! k01: variables, by the program. -/
namespace K01
open PySem PySem.Spec PyProof.Rows L2 Evl BV

theorem cut_take {α : Type} (l : List α) (c : Nat) : BV.cutD l none (some (c : Int)) = l.take c := by
  unfold BV.cutD
  have e : HT.sIx l.length l.length (some (c : Int)) = min c l.length := by
    show (if (c : Int) < 0 then ((c : Int) + (l.length : Int)).toNat else min (c : Int).toNat l.length) = _
    rw [if_neg (by omega), Int.toNat_natCast]
  rw [e]
  show (l.drop 0).take (min c l.length - 0) = _
  rw [List.drop_zero, Nat.sub_zero]
  by_cases h : c ≤ l.length
  · rw [Nat.min_eq_left h]
  · rw [Nat.min_eq_right (by omega), List.take_of_length_le (Nat.le_refl _), List.take_of_length_le (by omega)]
theorem cut_drop {α : Type} (l : List α) (c : Nat) : BV.cutD l (some (c : Int)) none = l.drop c := by
  unfold BV.cutD
  have e : HT.sIx l.length 0 (some (c : Int)) = min c l.length := by
    show (if (c : Int) < 0 then ((c : Int) + (l.length : Int)).toNat else min (c : Int).toNat l.length) = _
    rw [if_neg (by omega), Int.toNat_natCast]
  rw [e]
  show (l.drop (min c l.length)).take (l.length - min c l.length) = _
  by_cases h : c ≤ l.length
  · rw [Nat.min_eq_left h, List.take_of_length_le (by rw [List.length_drop]; omega)]
  · rw [Nat.min_eq_right (by omega), List.drop_of_length_le (Nat.le_refl _), List.drop_of_length_le (by omega), List.take_nil]
def mk (l : List Nat) : Str := ⟨l.toArray⟩
theorem mk_l (l : List Nat) : (mk l).cps.toList = l := rfl
theorem mk_len (l : List Nat) : (mk l).length = l.length := by rw [cps_len]; rfl
theorem mk_as {l : List Nat} {s : Str} (h : As s) (hl : ∀ c ∈ l, c ∈ s.cps.toList) : As (mk l) := fun c hc => h c (hl c hc)
theorem sl_to {s : Str} {n : Nat} (h : isA n s) (hn : n ≤ 4000000) (c : Nat) : slD (.str s) none (some (c : Int)) = some (.str (mk (s.cps.toList.take c))) := by
  show (if szOk s.length = true then some (D.str ⟨(BV.cutD s.cps.toList none (some (c : Int))).toArray⟩) else none) = _
  rw [if_pos (BV.sz_of (by have := h.1; omega)), cut_take]
  rfl
theorem sl_from {s : Str} {n : Nat} (h : isA n s) (hn : n ≤ 4000000) (c : Nat) : slD (.str s) (some (c : Int)) none = some (.str (mk (s.cps.toList.drop c))) := by
  show (if szOk s.length = true then some (D.str ⟨(BV.cutD s.cps.toList (some (c : Int)) none).toArray⟩) else none) = _
  rw [if_pos (BV.sz_of (by have := h.1; omega)), cut_drop]
  rfl
theorem take_a {s : Str} {n : Nat} (h : isA n s) (c : Nat) : isA n (mk (s.cps.toList.take c)) := ⟨by have := h.1; rw [cps_len] at this; rw [mk_len, List.length_take]; omega, mk_as h.2 fun x hx => List.mem_of_mem_take hx⟩
theorem drop_a {s : Str} {n : Nat} (h : isA n s) (c : Nat) : isA n (mk (s.cps.toList.drop c)) := ⟨by have := h.1; rw [cps_len] at this; rw [mk_len, List.length_drop]; omega, mk_as h.2 fun x hx => List.mem_of_mem_drop hx⟩
theorem q_as : As (Str.ofString "?") := As.lit "?" (by decide +kernel)
theorem q_l : (Str.ofString "?").cps.toList = [63] := by decide +kernel
def qB (s : Str) : Bool := decide (s.cps.toList.take 1 = [63])
def headB : D → Bool
  | .str s => !qB s
  | _ => true
/-- not a text, or not with a question mark ahead -/
theorem head_t {env : BV.Env} {d : D} (h : env[0]? = some (some d)) (hd : okT d) :
    EvT (mOrT (mNotT (tBl (mIsi "str" (mVar 0)))) (tBl (mOp neD (mSl (mVar 0) moNo (moYes (mC (.int 1)))) (mC (.str (Str.ofString "?")))))) env (headB d) := by
  cases d with
  | pur => exact absurd rfl hd.1
  | str s =>
    refine EvT.of (EvT.or (a := false) (b := !qB s) (EvT.not (b := true) (EvT.bl (Ev.isi (Ev.var h) rfl))) fun _ => EvT.bl fun R r => ⟨_, h, ?_⟩) rfl
    refine ⟨1, rfl, _, sl_to (hd.2 s rfl) (by decide) 1, _, ne_strs (take_a (hd.2 s rfl) 1).2 q_as, ?_⟩
    rw [ext_dec, q_l]
    exact r
  | _ => exact EvT.of (EvT.or (a := true) (b := true) (EvT.not (b := false) (EvT.bl (Ev.isi (Ev.var h) rfl))) fun e => nomatch e) rfl
theorem free_take {c : Nat} : ∀ {a f : List Nat}, c ∉ a → (a ++ c :: f).takeWhile (· != c) = a ∧ (a ++ c :: f).dropWhile (· != c) = c :: f
  | [], f, _ => by simp
  | x :: a, f, h => by
    have hx : x ≠ c := fun e => h (by simp [e])
    have ha : c ∉ a := fun q => h (List.mem_cons_of_mem _ q)
    obtain ⟨h1, h2⟩ := free_take (a := a) (f := f) ha
    rw [List.cons_append, List.takeWhile_cons_of_pos (by simpa using hx), List.dropWhile_cons_of_pos (by simpa using hx), h1, h2]
    exact ⟨rfl, rfl⟩
theorem free_all {c : Nat} : ∀ {a : List Nat}, c ∉ a → a.takeWhile (· != c) = a ∧ a.dropWhile (· != c) = []
  | [], _ => ⟨rfl, rfl⟩
  | x :: a, h => by
    have hx : x ≠ c := fun e => h (by simp [e])
    have ha : c ∉ a := fun q => h (List.mem_cons_of_mem _ q)
    obtain ⟨h1, h2⟩ := free_all (a := a) ha
    rw [List.takeWhile_cons_of_pos (by simpa using hx), List.dropWhile_cons_of_pos (by simpa using hx), h1, h2]
    exact ⟨rfl, rfl⟩
theorem var_of {s : Str} (h : qB s = true) : varB (.str s) = tailB (s.cps.toList.drop 1) := by
  unfold qB at h
  show (match s.cps.toList with | 63 :: r => tailB r | _ => false) = _
  generalize s.cps.toList = l at h
  match l, h with
  | c :: r, h =>
    have : c = 63 := by simpa using h
    subst this
    rfl
theorem not_var {s : Str} (h : qB s = false) : varB (.str s) = false := by
  unfold qB at h
  show (match s.cps.toList with | 63 :: r => tailB r | _ => false) = _
  generalize s.cps.toList = l at h
  split
  · simp at h
  · rfl
def sp_is_variable : SpD := fun ds T => ∃ d, ds = [d] ∧ okT d ∧ T (.bl (varB d))
theorem dot : Str.ofString "." = ⟨#[46]⟩ := by decide +kernel
theorem says_is_variable : ∀ ds T, sp_is_variable ds T → spOf 1 N_is_variable.length (m_is_variable sp_is_lettered sp_is_mark) ds T := by
  rintro ds T ⟨d, rfl, hp, hT⟩
  have hd := head_t (env := view [] 0 (startE N_is_variable.length [d])) (d := d) rfl hp
  refine ⟨rfl, ?_⟩
  cases d with
  | pur => exact absurd rfl hp.1
  | str s =>
    have hs := hp.2 s rfl
    cases hq : qB s with
    | false =>
      rw [not_var hq] at hT
      exact ifS (EvT.of hd (show (!qB s) = true by rw [hq]; rfl)) (iteT hT)
    | true =>
      rw [var_of hq] at hT
      have ht := drop_a hs 1
      have hl := mk_l (s.cps.toList.drop 1)
      refine ifS (EvT.of hd (show (!qB s) = false by rw [hq]; rfl)) (iteF ?_)
      refine ⟨_, rfl, 1, rfl, _, sl_from hs (by decide) 1, _, rfl, _, rfl, by decide +kernel, BV.sz_of (by have := ht.1; omega), ?_⟩
      rw [dot]
      generalize mk (s.cps.toList.drop 1) = t at ht hl ⊢
      have hT' : T (.bl (tailB t.cps.toList)) := by rw [hl]; exact hT
      refine ⟨_, rfl, ?_⟩
      rcases part_spec t 46 with ⟨n, e⟩ | ⟨a, f, e, el, n⟩
      · rw [e]
        refine retS (d := .bl (tailB t.cps.toList)) (Ev.of (Ev.and (a := lowB t.cps.toList 3) (b := true) (Ev.call2 (Ev.var rfl) Ev.c fun T h => ⟨t, 3, rfl, ht, h⟩) fun _ => Ev.of (Ev.or (a := true) (b := true) (Ev.op (Ev.var rfl) Ev.c ?_) fun e => nomatch e) rfl) ?_) hT'
        · exact (eq_strs (a := Str.empty) (b := Str.ofString "") (fun c hc => by cases hc) (As.lit "" (by decide +kernel))).trans (by rw [show decide (Str.empty = Str.ofString "") = true by decide +kernel])
        · unfold tailB
          rw [(free_all n).1, (free_all n).2]
      · rw [e]
        have hlen : t.length = a.length + 1 + f.length := by rw [cps_len t, cps_len a, cps_len f, el]; simp; omega
        have ha : isA 100000 a := ⟨by have := ht.1; omega, fun c hc => ht.2 c (by rw [el]; exact List.mem_append_left _ hc)⟩
        have hf : isA 100000 f := ⟨by have := ht.1; omega, fun c hc => ht.2 c (by rw [el]; exact List.mem_append_right _ (List.mem_cons_of_mem _ hc))⟩
        refine retS (d := .bl (tailB t.cps.toList)) (Ev.of (Ev.and (a := lowB a.cps.toList 3) (b := markB f.cps.toList) (Ev.call2 (Ev.var rfl) Ev.c fun T h => ⟨a, 3, rfl, ha, h⟩) fun _ => Ev.of (Ev.or (a := false) (b := markB f.cps.toList) (Ev.op (Ev.var rfl) Ev.c ?_) fun _ => Ev.call1 (Ev.var rfl) fun T h => ⟨f, rfl, hf, h⟩) (by simp)) ?_) hT'
        · exact (eq_strs (a := ⟨#[46]⟩) (b := Str.ofString "") (by rw [← dot]; exact As.lit "." (by decide +kernel)) (As.lit "" (by decide +kernel))).trans (by rw [show decide ((⟨#[46]⟩ : Str) = Str.ofString "") = false by decide +kernel])
        · unfold tailB
          rw [el, (free_take n).1, (free_take n).2]
  | _ => exact ifS hd (iteT hT)
end K01

/-! k01: values and variables, by the law. -/
namespace K01
open PySem PySem.Spec PyProof.Rows L2 Evl BV

theorem in_sign {c : Nat} {z : Str} : inU true (.str ⟨#[c]⟩) (.str z) = some (.bl (!decide (c ∈ z.cps.toList))) := rfl
theorem one_as {s : Str} (h : As s) {c : Nat} (hc : c ∈ s.cps.toList) : As ⟨#[c]⟩ := fun x hx => by
  have : x = c := by simpa using hx
  rw [this]; exact h c hc
theorem chars_as {s : Str} (h : As s) : ∀ d ∈ chars s, PL 0 4 d := fun d hd => by
  obtain ⟨c, hc, rfl⟩ := List.mem_map.mp hd
  exact (RL.str (one_as h hc)).pl rfl
theorem chars_len (s : Str) : (chars s).length = s.length := by rw [cps_len]; exact List.length_map _
def noS (z : Str) (d : D) : Bool := match d with
  | .str x => (match x.cps.toList with
    | [c] => !decide (c ∈ z.cps.toList)
    | _ => false)
  | _ => false
def sp_are_signs : SpD := fun ds T => ∃ s z : Str, ds = [.str s, .str z] ∧ isA 1000 s ∧ T (.bl (s.cps.toList.all fun c => decide (c ∈ z.cps.toList)))
theorem says_are_signs : ∀ ds T, sp_are_signs ds T → spOf 2 N_are_signs.length m_are_signs ds T := by
  rintro ds T ⟨s, z, rfl, h, hT⟩
  refine ⟨rfl, _, rfl, _, rfl, BV.sz_of (by rw [chars_len]; have := h.1; omega), ?_⟩
  have p : ∀ d ∈ chars s, ∃ c ∈ s.cps.toList, d = .str ⟨#[c]⟩ := fun d hd => by
    obtain ⟨c, hc, rfl⟩ := List.mem_map.mp hd
    exact ⟨c, hc, rfl⟩
  refine lcGo_filter (noS z) _ [] (fun x hx => ?_) ?_
  · obtain ⟨c, hc, rfl⟩ := p x hx
    refine ⟨_, rfl, fun R S k1 k2 => ⟨_, rfl, _, rfl, _, in_sign, _, rfl, ?_⟩⟩
    cases e : !decide (c ∈ z.cps.toList) with
    | true => exact iteT ⟨_, rfl, k1 e⟩
    | false => exact iteF (k2 e)
  · have hf : ∀ d ∈ (chars s).filter (noS z), PL 0 4 d := fun d hd => chars_as h.2 d (List.mem_filter.mp hd).1
    have hl : ((chars s).filter (noS z)).length ≤ 1000 := Nat.le_trans (List.length_filter_le _ _) (by rw [chars_len]; exact h.1)
    have e : (decide ((chars s).filter (noS z) = [])) = s.cps.toList.all fun c => decide (c ∈ z.cps.toList) := by
      rw [Bool.eq_iff_iff, decide_eq_true_iff, List.filter_eq_nil_iff, List.all_eq_true]
      constructor
      · intro k c hc
        have := k (.str ⟨#[c]⟩) (List.mem_map_of_mem hc)
        simpa [noS] using this
      · intro k d hd
        obtain ⟨c, hc, rfl⟩ := p d hd
        have := k c hc
        simpa [noS] using this
    rw [← e] at hT
    rw [List.nil_append]
    generalize (chars s).filter (noS z) = l at hf hl hT
    refine ⟨rfl, _, ?_, hT⟩
    rw [eqD, if_pos ⟨(PL.lst hf).eq (by decide), (PL.lst (ds := []) (k := 0) (m := 0) fun d hd => by cases hd).eq (by decide)⟩]
    cases l <;> rfl
theorem az_mem {c : Nat} : c ∈ (Str.ofString "abcdefghijklmnopqrstuvwxyz").cps.toList ↔ 97 ≤ c ∧ c ≤ 122 := by
  have e : (Str.ofString "abcdefghijklmnopqrstuvwxyz").cps.toList = [97, 98, 99, 100, 101, 102, 103, 104, 105, 106, 107, 108, 109, 110, 111, 112, 113, 114, 115, 116, 117, 118, 119, 120, 121, 122] := by decide +kernel
  rw [e]
  simp only [List.mem_cons, List.not_mem_nil, or_false]
  omega
theorem fig_mem {c : Nat} : c ∈ (Str.ofString "0123456789").cps.toList ↔ 48 ≤ c ∧ c ≤ 57 := by
  have e : (Str.ofString "0123456789").cps.toList = [48, 49, 50, 51, 52, 53, 54, 55, 56, 57] := by decide +kernel
  rw [e]
  simp only [List.mem_cons, List.not_mem_nil, or_false]
  omega
theorem az_all (l : List Nat) : (l.all fun c => decide (c ∈ (Str.ofString "abcdefghijklmnopqrstuvwxyz").cps.toList)) = l.all fun c => decide (97 ≤ c ∧ c ≤ 122) := all_congr fun c _ => dec_congr az_mem
theorem fig_all (l : List Nat) : (l.all fun c => decide (c ∈ (Str.ofString "0123456789").cps.toList)) = digB l := all_congr fun c _ => dec_congr fig_mem
def sp_lis_value : SpD := sp_is_value
theorem says_lis_value : ∀ ds T, sp_is_value ds T → spOf 1 N_lis_value.length (m_lis_value sp_are_signs) ds T := by
  rintro ds T ⟨d, rfl, hp, hT⟩
  refine ⟨rfl, ?_⟩
  cases d with
  | pur => exact absurd rfl hp.1
  | bl b => exact ⟨_, rfl, true, rfl, true, rfl, hT⟩
  | int i =>
    refine ⟨_, rfl, false, rfl, false, rfl, iteF ⟨_, rfl, true, rfl, true, rfl, iteT ?_⟩⟩
    refine retS (d := .bl (valB (.int i))) (Ev.of (Ev.and (a := decide (-1000000000 ≤ i)) (b := decide (i ≤ 1000000000)) (Ev.op (fun R r => ⟨_, rfl, r⟩) (Ev.var rfl) rfl) fun _ => Ev.op (Ev.var rfl) Ev.c rfl) ?_) hT
    simp [valB]
  | str s =>
    have h := hp.2 s rfl
    have hl := cps_len s
    have d1 : Ev (mCB lenD (maCons (mVar 0) maNil)) (view [] 0 (startE N_lis_value.length [.str s])) (.int s.length) := Ev.len (Ev.var rfl) (len_a h)
    refine ⟨_, rfl, false, rfl, false, rfl, iteF ⟨_, rfl, false, rfl, false, rfl, iteF ?_⟩⟩
    refine ifS (c := decide (s.length < 1) || decide (12 < s.length)) (EvT.of (EvT.or (a := false) (EvT.not (b := true) (EvT.bl (Ev.isi (Ev.var rfl) rfl))) fun _ => EvT.or (a := decide (s.length < 1)) (b := decide (12 < s.length)) (EvT.bl (Ev.op d1 Ev.c ?_)) fun _ => EvT.bl (Ev.op d1 Ev.c ?_)) (by simp)) ?_
    · rw [ltD, if_pos ⟨rfl, rfl, by show (0 : Nat) ≤ 60; decide⟩]
      show some (D.bl (decide ((s.length : Int) < 1))) = _
      rw [dec_congr (show (s.length : Int) < 1 ↔ s.length < 1 by omega)]
    · show some (D.bl (decide ((12 : Int) < (s.length : Int)))) = _
      rw [dec_congr (show (12 : Int) < (s.length : Int) ↔ 12 < s.length by omega)]
    · by_cases c1 : 1 ≤ s.length ∧ s.length ≤ 12
      · rw [decide_eq_false (show ¬ s.length < 1 by omega), decide_eq_false (show ¬ 12 < s.length by omega)]
        refine iteF ⟨_, rfl, _, ⟨s, _, rfl, ⟨by omega, h.2⟩, ?_⟩, fun d h => h⟩
        rw [az_all]
        have e : valB (.str s) = s.cps.toList.all fun c => decide (97 ≤ c ∧ c ≤ 122) := by
          show lowB s.cps.toList 12 = _
          unfold lowB
          rw [← hl, decide_eq_true c1.1, decide_eq_true c1.2]
          rfl
        rw [e] at hT
        exact hT
      · have e0 : (decide (s.length < 1) || decide (12 < s.length)) = true := by
          simp only [Bool.or_eq_true, decide_eq_true_eq]
          omega
        rw [e0]
        have e : valB (.str s) = false := by
          show lowB s.cps.toList 12 = _
          unfold lowB
          rw [← hl, Bool.eq_false_iff]
          intro k
          simp only [Bool.and_eq_true, decide_eq_true_eq] at k
          omega
        rw [e] at hT
        exact iteT hT
  | non => exact ⟨_, rfl, false, rfl, false, rfl, iteF ⟨_, rfl, false, rfl, false, rfl, iteF (ifS (c := true) (EvT.or (a := true) (b := true) (EvT.not (b := false) (EvT.bl (Ev.isi (Ev.var rfl) rfl))) fun e => nomatch e) (iteT hT))⟩⟩
  | tup l => exact ⟨_, rfl, false, rfl, false, rfl, iteF ⟨_, rfl, false, rfl, false, rfl, iteF (ifS (c := true) (EvT.or (a := true) (b := true) (EvT.not (b := false) (EvT.bl (Ev.isi (Ev.var rfl) rfl))) fun e => nomatch e) (iteT hT))⟩⟩
  | lst l => exact ⟨_, rfl, false, rfl, false, rfl, iteF ⟨_, rfl, false, rfl, false, rfl, iteF (ifS (c := true) (EvT.or (a := true) (b := true) (EvT.not (b := false) (EvT.bl (Ev.isi (Ev.var rfl) rfl))) fun e => nomatch e) (iteT hT))⟩⟩
  | pr l => exact ⟨_, rfl, false, rfl, false, rfl, iteF ⟨_, rfl, false, rfl, false, rfl, iteF (ifS (c := true) (EvT.or (a := true) (b := true) (EvT.not (b := false) (EvT.bl (Ev.isi (Ev.var rfl) rfl))) fun e => nomatch e) (iteT hT))⟩⟩
  | dic a b => exact ⟨_, rfl, false, rfl, false, rfl, iteF ⟨_, rfl, false, rfl, false, rfl, iteF (ifS (c := true) (EvT.or (a := true) (b := true) (EvT.not (b := false) (EvT.bl (Ev.isi (Ev.var rfl) rfl))) fun e => nomatch e) (iteT hT))⟩⟩
end K01

/-! k01: variables, by the law. -/
namespace K01
open PySem PySem.Spec PyProof.Rows L2 Evl BV

theorem chr_dig {c : Nat} (h : 48 ≤ c ∧ c ≤ 57) : (Char.ofNat c).toNat = c := by
  have : ∀ c < 58, 48 ≤ c → (Char.ofNat c).toNat = c := by decide
  exact this c (by omega) h.1
theorem chr_digs : ∀ {l : List Nat}, NumText.AllDigits l → (l.map Char.ofNat).map Char.toNat = l
  | [], _ => rfl
  | c :: l, h => by
    rw [List.map_cons, List.map_cons, chr_dig (h c (by simp)), chr_digs fun x hx => h x (by simp [hx])]
theorem num_all {f : List Nat} (h : NumText.AllDigits f) : TL.numL (NumText.digitsVal f) = match f.dropWhile (· == 48) with
    | [] => [48]
    | c :: r => c :: r := by
  unfold TL.numL
  rw [NumText.toDigits_all f h]
  have hs : NumText.AllDigits (f.dropWhile (· == 48)) := fun c hc => h c ((List.dropWhile_sublist _).subset hc)
  generalize f.dropWhile (· == 48) = g at hs
  cases g with
  | nil => rfl
  | cons c r => exact chr_digs hs
theorem num_can {c : Nat} {r : List Nat} (h : NumText.AllDigits (c :: r)) (hc : c ≠ 48) : TL.numL (NumText.digitsVal (c :: r)) = c :: r := by
  rw [num_all h, List.dropWhile_cons_of_neg (by simpa using hc)]
theorem zero_can {r : List Nat} (h : NumText.AllDigits (48 :: r)) : TL.numL (NumText.digitsVal (48 :: r)) = 48 :: r ↔ r = [] := by
  rw [num_all h, List.dropWhile_cons_of_pos (by simp)]
  have hl := (List.dropWhile_sublist (· == 48) (l := r)).length_le
  constructor
  · intro e
    generalize r.dropWhile (· == 48) = g at e hl
    cases g with
    | nil => simpa using e.symm
    | cons c g =>
      have := congrArg List.length e
      simp only [List.length_cons] at this hl
      omega
  · rintro rfl
    rfl
theorem mark_zero {r : List Nat} (h : digB (48 :: r) = true) : markB (48 :: r) = decide (r = []) := by
  unfold markB
  rw [h, dec_congr (zero_can (dig_of h))]
  cases r with
  | nil => decide
  | cons c r => simp
theorem mark_one {c : Nat} {r : List Nat} (h : digB (c :: r) = true) (hc : c ≠ 48) : markB (c :: r) = decide (NumText.digitsVal (c :: r) ≤ 1000000000) := by
  have e := num_can (dig_of h) hc
  unfold markB
  rw [h, e]
  by_cases hv : NumText.digitsVal (c :: r) ≤ 1000000000
  · have := TL.numL_len (n := NumText.digitsVal (c :: r)) (k := 10) (by decide) (by omega)
    rw [e] at this
    rw [decide_eq_true hv, decide_eq_true this]
    simp
  · rw [decide_eq_false hv]
    simp
theorem mark_not {f : List Nat} (h : f = [] ∨ digB f = false) : markB f = false := by
  unfold markB
  rcases h with rfl | h
  · rfl
  · rw [h]; simp
theorem tail_len {l : List Nat} (h : tailB l = true) : l.length ≤ 14 := by
  unfold tailB at h
  have e := List.takeWhile_append_dropWhile (p := (· != 46)) (l := l)
  simp only [Bool.and_eq_true] at h
  obtain ⟨h1, h2⟩ := h
  unfold lowB at h1
  simp only [Bool.and_eq_true, decide_eq_true_eq] at h1
  have e2 := congrArg List.length e
  rw [List.length_append] at e2
  generalize l.dropWhile (· != 46) = g at h2 e2
  cases g with
  | nil => simp only [List.length_nil] at e2; omega
  | cons c f =>
    have h2 : markB f = true := h2
    unfold markB at h2
    simp only [Bool.and_eq_true, decide_eq_true_eq] at h2
    simp only [List.length_cons] at e2
    omega
theorem long_var {s : Str} (h : 15 < s.length) : varB (.str s) = false := by
  rw [cps_len] at h
  show (match s.cps.toList with | 63 :: r => tailB r | _ => false) = _
  generalize s.cps.toList = l at h
  split
  · rename_i r
    rw [Bool.eq_false_iff]
    intro k
    have := tail_len k
    simp only [List.length_cons] at h
    omega
  · rfl
theorem len_l (xs : List D) : lenD [.lst xs] = some (.int xs.length) := rfl
theorem lt_int (a b : Int) : ltD (.int a) (.int b) = some (.bl (decide (a < b))) := by
  rw [ltD, if_pos ⟨rfl, rfl, by show (0 : Nat) ≤ 60; decide⟩]
  rfl
theorem eq_int (a b : Int) : eqD (.int a) (.int b) = some (.bl (decide (a = b))) := by
  rw [eqD, if_pos ⟨rfl, rfl⟩]
  congr 2
theorem nat_lt {a b : Nat} {x : Int} (h : x = (b : Int)) : decide ((a : Int) < x) = decide (a < b) := dec_congr (by rw [h]; omega)
theorem nat_gt {a b : Nat} {x : Int} (h : x = (b : Int)) : decide (x < (a : Int)) = decide (b < a) := dec_congr (by rw [h]; omega)
def restL : MS :=
    (mSeq (mIfS [] (mOrT (tBl (mOp gtD (mCB lenD (maCons (mVar 1) maNil)) (mC (.int 2)))) (mOrT (tBl (mOp ltD (mCB lenD (maCons (mOp ixD (mVar 1) (mC (.int 0))) maNil)) (mC (.int 1)))) (tBl (mOp gtD (mCB lenD (maCons (mOp ixD (mVar 1) (mC (.int 0))) maNil)) (mC (.int 3))))))
    (mRet [] (mC (.bl false)))
    mNext)
    (mSeq (mIfS [] (mNotT (tBl (mCall sp_are_signs (maCons (mOp ixD (mVar 1) (mC (.int 0))) (maCons (mC (.str (Str.ofString "abcdefghijklmnopqrstuvwxyz"))) maNil)))))
    (mRet [] (mC (.bl false)))
    mNext)
    (mSeq (mIfS [] (tBl (mOp eqD (mCB lenD (maCons (mVar 1) maNil)) (mC (.int 1))))
    (mRet [] (mC (.bl true)))
    mNext)
    (mSeq (mAsg [] 2 (mOp ixD (mVar 1) (mC (.int 1))))
    (mSeq (mIfS [] (mOrT (tBl (mOp eqD (mVar 2) (mC (.str (Str.ofString ""))))) (mNotT (tBl (mCall sp_are_signs (maCons (mVar 2) (maCons (mC (.str (Str.ofString "0123456789"))) maNil))))))
    (mRet [] (mC (.bl false)))
    mNext)
    (mSeq (mIfS [] (tBl (mOp eqD (mOp ixD (mVar 2) (mC (.int 0))) (mC (.str (Str.ofString "0")))))
    (mRet [] (mOp eqD (mVar 2) (mC (.str (Str.ofString "0")))))
    mNext)
    (mRet [] (mOp leD (mCB int2D (maCons (mVar 2) maNil)) (mC (.int 1000000000))))))))))
theorem rest_says {s t : Str} (ht : isA 15 t) (x2 : Option (Bool × D)) {T : D → Prop} (hT : T (.bl (tailB t.cps.toList))) : restL (endF T) [some (false, .str s), some (false, .lst ((Txt.split t ⟨#[46]⟩).map D.str)), x2] := by
  have sub : ∀ a : Str, a.length ≤ t.length → (∀ c ∈ a.cps.toList, c ∈ t.cps.toList) → isA 100 a := fun a h k => ⟨by have := ht.1; omega, fun c hc => ht.2 c (k c hc)⟩
  have zero : ∀ (a : Str) (r : List Str), atI ((a :: r).map D.str) 0 = some (.str a) := fun a r => by
    show atI ((a :: r).map D.str) ((0 : Nat) : Int) = _
    exact atI_nat rfl
  -- the first test, by the number of parts and the first one
  have t1 : ∀ (a : Str) (r : List Str), isA 100 a → EvT (mOrT (tBl (mOp gtD (mCB lenD (maCons (mVar 1) maNil)) (mC (.int 2)))) (mOrT (tBl (mOp ltD (mCB lenD (maCons (mOp ixD (mVar 1) (mC (.int 0))) maNil)) (mC (.int 1)))) (tBl (mOp gtD (mCB lenD (maCons (mOp ixD (mVar 1) (mC (.int 0))) maNil)) (mC (.int 3))))))
      (view [] 0 [some (false, .str s), some (false, .lst ((a :: r).map D.str)), x2]) (decide (2 < (a :: r).length) || (decide (a.length < 1) || decide (3 < a.length))) := fun a r ha => by
    have la : lenD [.str a] = some (.int a.length) := if_pos (BV.sz_of (by have := ha.1; omega))
    have ia : BV.Ev (mOp ixD (mVar 1) (mC (.int 0))) (view [] 0 [some (false, .str s), some (false, .lst ((a :: r).map D.str)), x2]) (.str a) := Ev.op (Ev.var rfl) Ev.c (zero a r)
    refine EvT.or (EvT.bl (Ev.op (Ev.len (Ev.var rfl) (len_l _)) Ev.c ?_)) fun _ => EvT.or (EvT.bl (Ev.op (Ev.len ia la) Ev.c ?_)) fun _ => EvT.bl (Ev.op (Ev.len ia la) Ev.c ?_)
    · show some (D.bl (decide ((2 : Int) < (((a :: r).map D.str).length : Int)))) = _
      rw [List.length_map, nat_gt (x := 2) (b := 2) rfl]
    · rw [lt_int, nat_lt (x := 1) (b := 1) rfl]
    · show some (D.bl (decide ((3 : Int) < (a.length : Int)))) = _
      rw [nat_gt (x := 3) (b := 3) rfl]
  have low : ∀ a : Str, lowB a.cps.toList 3 = (decide (1 ≤ a.length) && decide (a.length ≤ 3) && (a.cps.toList.all fun c => decide (97 ≤ c ∧ c ≤ 122))) := fun a => by
    unfold lowB
    rw [cps_len a]
  -- behind the first test: letters
  have t2 : ∀ (a : Str) (r : List Str), isA 100 a → EvT (mNotT (tBl (mCall sp_are_signs (maCons (mOp ixD (mVar 1) (mC (.int 0))) (maCons (mC (.str (Str.ofString "abcdefghijklmnopqrstuvwxyz"))) maNil))))) (view [] 0 [some (false, .str s), some (false, .lst ((a :: r).map D.str)), x2]) (!(a.cps.toList.all fun c => decide (97 ≤ c ∧ c ≤ 122))) := fun a r ha => by
    refine EvT.not (EvT.bl (Ev.call2 (Ev.op (Ev.var rfl) Ev.c (zero a r)) Ev.c fun T h => ⟨a, _, rfl, ha.mono (by decide), ?_⟩))
    rw [az_all]
    exact h
  have t3 : ∀ (a : Str) (r : List Str), EvT (tBl (mOp eqD (mCB lenD (maCons (mVar 1) maNil)) (mC (.int 1)))) (view [] 0 [some (false, .str s), some (false, .lst ((a :: r).map D.str)), x2]) (decide (r = [])) := fun a r => by
    refine EvT.bl (Ev.op (Ev.len (Ev.var rfl) (len_l _)) Ev.c ?_)
    rw [eq_int, List.length_map]
    congr 2
    apply dec_congr
    cases r with
    | nil => simp
    | cons b r => simp only [List.length_cons]; constructor
                  · intro h; omega
                  · intro h; cases h
  unfold tailB at hT
  rcases split_cases t 46 with ⟨n, e⟩ | ⟨a, f, e, el, n1, n2⟩ | ⟨a, f, hl, el, n1, n2⟩
  · rw [(free_all n).1, (free_all n).2, low] at hT
    rw [e]
    have ha := sub t (Nat.le_refl _) fun c h => h
    refine ifS (t1 t [] ha) ?_
    by_cases c1 : 1 ≤ t.length ∧ t.length ≤ 3
    · rw [show (decide (2 < [t].length) || (decide (t.length < 1) || decide (3 < t.length))) = false by simp; omega]
      rw [decide_eq_true c1.1, decide_eq_true c1.2] at hT
      refine iteF (ifS (t2 t [] ha) ?_)
      cases hA : t.cps.toList.all fun c => decide (97 ≤ c ∧ c ≤ 122) with
      | false => rw [hA] at hT; exact iteT hT
      | true => rw [hA] at hT; exact iteF (ifS (t3 t []) (iteT hT))
    · rw [show (decide (2 < [t].length) || (decide (t.length < 1) || decide (3 < t.length))) = true by simp; omega]
      rw [show (decide (1 ≤ t.length) && decide (t.length ≤ 3)) = false by simp; omega] at hT
      exact iteT hT
  · rw [el, (free_take n1).1, (free_take n1).2, low] at hT
    have hT : T (.bl ((decide (1 ≤ a.length) && decide (a.length ≤ 3) && (a.cps.toList.all fun c => decide (97 ≤ c ∧ c ≤ 122))) && markB f.cps.toList)) := hT
    rw [e]
    have hlen : t.length = a.length + 1 + f.length := by rw [cps_len t, cps_len a, cps_len f, el]; simp; omega
    have ha := sub a (by omega) fun c h => by rw [el]; exact List.mem_append_left _ h
    have hf := sub f (by omega) fun c h => by rw [el]; exact List.mem_append_right _ (List.mem_cons_of_mem _ h)
    refine ifS (t1 a [f] ha) ?_
    by_cases c1 : 1 ≤ a.length ∧ a.length ≤ 3
    · rw [show (decide (2 < [a, f].length) || (decide (a.length < 1) || decide (3 < a.length))) = false by simp; omega]
      rw [decide_eq_true c1.1, decide_eq_true c1.2] at hT
      refine iteF (ifS (t2 a [f] ha) ?_)
      cases hA : a.cps.toList.all fun c => decide (97 ≤ c ∧ c ≤ 122) with
      | false => rw [hA] at hT; exact iteT hT
      | true =>
        rw [hA] at hT
        refine iteF (ifS (t3 a [f]) (iteF ?_))
        refine ⟨_, rfl, _, rfl, ?_⟩
        dsimp only
        rw [aft_nil]
        refine ifS (c := decide (f = Str.ofString "") || !digB f.cps.toList) (EvT.or (EvT.bl (Ev.op (Ev.var rfl) Ev.c (eq_strs hf.2 (As.lit "" (by decide +kernel))))) fun _ => EvT.not (EvT.bl (Ev.call2 (Ev.var rfl) Ev.c fun T h => ⟨f, _, rfl, hf.mono (by decide), by rw [fig_all]; exact h⟩))) ?_
        rw [ext_dec, show (Str.ofString "").cps.toList = [] by decide +kernel]
        have hfl := hf.1
        rw [cps_len] at hfl
        cases hd : digB f.cps.toList with
        | false =>
          rw [mark_not (.inr hd)] at hT
          rw [show (decide (f.cps.toList = []) || !false) = true by simp]
          exact iteT hT
        | true =>
          cases hc : f.cps.toList with
          | nil =>
            rw [hc, mark_not (.inl rfl)] at hT
            exact iteT hT
          | cons c r =>
            rw [hc] at hd hfl
            have hne : f.cps.toList ≠ [] := fun e => by rw [hc] at e; cases e
            refine iteF ?_
            have i0 : ixD (.str f) (.int 0) = some (.str ⟨#[c]⟩) := by
              show (if szOk f.length = true then (atI f.cps.toList 0).map fun c => D.str ⟨#[c]⟩ else none) = _
              have e0 : atI (c :: r) 0 = some c := by
                show atI (c :: r) ((0 : Nat) : Int) = _
                exact atI_nat rfl
              rw [if_pos (BV.sz_of (by have := hf.1; omega)), hc, e0]
              rfl
            have z0 : (Str.ofString "0").cps.toList = [48] := by decide +kernel
            refine ifS (c := decide (c = 48)) (EvT.bl (Ev.op (Ev.op (Ev.var rfl) Ev.c i0) Ev.c ?_)) ?_
            · rw [eq_strs (fun x hx => by
                have : x = c := by simpa using hx
                rw [this]; exact hf.2 c (by rw [hc]; simp)) (As.lit "0" (by decide +kernel)), ext_dec, z0]
              congr 2
              exact dec_congr (by simp)
            · by_cases h48 : c = 48
              · subst h48
                rw [hc, mark_zero hd] at hT
                refine iteT (retS (d := .bl (decide (r = []))) (Ev.op (Ev.var rfl) Ev.c ?_) hT)
                rw [eq_strs hf.2 (As.lit "0" (by decide +kernel)), ext_dec, z0, hc]
                congr 2
                exact dec_congr (by simp)
              · rw [hc, mark_one hd h48] at hT
                rw [decide_eq_false h48]
                refine iteF ?_
                show mRet [] (mOp leD (mCB int2D (maCons (mVar 2) maNil)) (mC (.int 1000000000))) (endF T) _
                refine retS (d := .bl (decide (NumText.digitsVal (c :: r) ≤ 1000000000))) (fun R k => ⟨_, rfl, _, int_dig (s := f) (by rw [hc]; exact dig_of hd) hne (by have := hf.1; omega), _, rfl, ?_⟩) hT
                rw [hc]
                rw [dec_congr (show ((NumText.digitsVal (c :: r) : Nat) : Int) ≤ 1000000000 ↔ NumText.digitsVal (c :: r) ≤ 1000000000 by omega)]
                exact k
    · rw [show (decide (2 < [a, f].length) || (decide (a.length < 1) || decide (3 < a.length))) = true by simp; omega]
      rw [show (decide (1 ≤ a.length) && decide (a.length ≤ 3)) = false by simp; omega] at hT
      exact iteT hT
  · rw [el, (free_take n1).1, (free_take n1).2] at hT
    have hm : markB f = false := mark_not (.inr (by
      rw [Bool.eq_false_iff]
      intro k
      have := dig_of k 46 n2
      omega))
    have hT : T (.bl (lowB a.cps.toList 3 && markB f)) := hT
    rw [hm, Bool.and_false] at hT
    cases hs : Txt.split t ⟨#[46]⟩ with
    | nil => exact absurd hs (split_ne t 46)
    | cons b r =>
      rw [hs] at hl
      have hb : isA 100 b := by
        have hmem : ∀ c ∈ b.cps.toList, c ∈ t.cps.toList := fun c hc => by
          have hj := PySem.StrLaws.join_split t ⟨#[46]⟩
          rw [hs] at hj
          rw [← hj]
          cases r with
          | nil => exact hc
          | cons d r =>
            show c ∈ (b ++ ⟨#[46]⟩ ++ Str.join ⟨#[46]⟩ (d :: r)).cps.toList
            rw [cps_toList_append, cps_toList_append]
            exact List.mem_append_left _ (List.mem_append_left _ hc)
        refine sub b ?_ hmem
        have hj := PySem.StrLaws.join_split t ⟨#[46]⟩
        rw [hs] at hj
        rw [← hj]
        cases r with
        | nil => exact Nat.le_refl _
        | cons d r =>
          show b.length ≤ (b ++ ⟨#[46]⟩ ++ Str.join ⟨#[46]⟩ (d :: r)).length
          rw [str_len_app, str_len_app]
          omega
      refine ifS (t1 b r hb) ?_
      rw [decide_eq_true hl]
      exact iteT hT
theorem says_lis_variable : ∀ ds T, sp_is_variable ds T → spOf 1 N_lis_variable.length (m_lis_variable sp_are_signs) ds T := by
  rintro ds T ⟨d, rfl, hp, hT⟩
  refine ⟨rfl, ?_⟩
  have nostr : isiD "str" d = some false → varB d = false → m_lis_variable sp_are_signs (endF T) (startE N_lis_variable.length [d]) := fun h1 h2 => by
    rw [h2] at hT
    exact ifS (c := true) (EvT.or (a := true) (b := true) (EvT.not (b := false) (EvT.bl (Ev.isi (Ev.var rfl) h1))) fun e => nomatch e) (iteT hT)
  cases d with
  | pur => exact absurd rfl hp.1
  | str s =>
    have h := hp.2 s rfl
    refine ifS (c := decide (15 < s.length) || !qB s) (EvT.of (EvT.or (a := false) (b := decide (15 < s.length) || !qB s) (EvT.not (b := true) (EvT.bl (Ev.isi (Ev.var rfl) rfl))) fun _ => EvT.or (EvT.bl (Ev.op (Ev.len (Ev.var rfl) (len_a h)) Ev.c ?_)) fun _ => EvT.bl fun R r => ⟨_, rfl, 1, rfl, _, sl_to h (by decide) 1, _, ne_strs (take_a h 1).2 q_as, by rw [ext_dec, q_l]; exact r⟩) (by simp)) ?_
    · show some (D.bl (decide ((15 : Int) < (s.length : Int)))) = _
      rw [nat_gt (x := 15) (b := 15) rfl]
    · by_cases hl : 15 < s.length
      · rw [long_var hl] at hT
        rw [decide_eq_true hl]
        exact iteT hT
      · rw [decide_eq_false hl]
        cases hq : qB s with
        | false =>
          rw [not_var hq] at hT
          exact iteT hT
        | true =>
          rw [var_of hq] at hT
          have ht : isA 15 (mk (s.cps.toList.drop 1)) := ⟨by rw [mk_len, List.length_drop, ← cps_len]; omega, (drop_a h 1).2⟩
          refine iteF ⟨_, rfl, 1, rfl, _, sl_from h (by decide) 1, _, rfl, _, rfl, by decide +kernel, BV.sz_of (by have := ht.1; omega), ?_⟩
          dsimp only
          rw [aft_nil, dot]
          exact rest_says ht none (T := T) (by rw [mk_l]; exact hT)
  | _ => exact nostr rfl rfl
end K01

/-! k01: what is drawn. -/
namespace K01
open PySem PySem.Spec PyProof.Rows L2 Evl BV

def sp_pick : SpD := fun ds T => (∃ xs, (ds = [.pur, .lst xs] ∨ ds = [.pur, .tup xs]) ∧ xs ≠ [] ∧ xs.length ≤ 1000000 ∧ ∀ x ∈ xs, T x) ∨ (∃ s, ds = [.pur, .str s] ∧ s.cps.toList ≠ [] ∧ s.length ≤ 1000000 ∧ ∀ c ∈ s.cps.toList, T (.str ⟨#[c]⟩))
theorem says_pick : ∀ ds T, sp_pick ds T → spOf 2 N_pick.length (m_pick spDraw) ds T := by
  rintro ds T (⟨xs, (rfl | rfl), h0, h1, hT⟩ | ⟨s, rfl, h0, h1, hT⟩)
  · have hl : 0 < xs.length := List.length_pos_iff.mpr h0
    refine ⟨rfl, .lst xs, rfl, .pur, rfl, .lst xs, rfl, _, rfl, fun d => ∃ i : Nat, d = .int i ∧ i < xs.length, ⟨_, rfl, by omega, by omega, fun i a b => ⟨i.toNat, by rw [Int.toNat_of_nonneg a], by omega⟩⟩, fun d hd => ?_⟩
    obtain ⟨i, rfl, hi⟩ := hd
    exact ⟨xs[i], atI_nat (List.getElem?_eq_getElem hi), hT _ (List.getElem_mem hi)⟩
  · have hl : 0 < xs.length := List.length_pos_iff.mpr h0
    refine ⟨rfl, .tup xs, rfl, .pur, rfl, .tup xs, rfl, _, rfl, fun d => ∃ i : Nat, d = .int i ∧ i < xs.length, ⟨_, rfl, by omega, by omega, fun i a b => ⟨i.toNat, by rw [Int.toNat_of_nonneg a], by omega⟩⟩, fun d hd => ?_⟩
    obtain ⟨i, rfl, hi⟩ := hd
    exact ⟨xs[i], atI_nat (List.getElem?_eq_getElem hi), hT _ (List.getElem_mem hi)⟩
  · have hl : 0 < s.cps.toList.length := List.length_pos_iff.mpr h0
    have hs : szOk s.length = true := by simp only [szOk, decide_eq_true_eq]; omega
    rw [cps_len] at h1
    refine ⟨rfl, .str s, rfl, .pur, rfl, .str s, rfl, _, (if_pos hs), fun d => ∃ i : Nat, d = .int i ∧ i < s.cps.toList.length, ⟨_, rfl, by rw [cps_len]; omega, by rw [cps_len]; omega, fun i a b => ⟨i.toNat, by rw [Int.toNat_of_nonneg a], by rw [cps_len] at b; omega⟩⟩, fun d hd => ?_⟩
    obtain ⟨i, rfl, hi⟩ := hd
    refine ⟨.str ⟨#[s.cps.toList[i]]⟩, ?_, hT _ (List.getElem_mem hi)⟩
    show (if szOk s.length = true then (atI s.cps.toList (i : Int)).map fun c => D.str ⟨#[c]⟩ else none) = _
    rw [if_pos hs, atI_nat (List.getElem?_eq_getElem hi)]
    rfl
theorem e_l : (Str.ofString "").cps.toList = [] := by decide +kernel
theorem join0 : ∀ ys : List Str, (Txt.join (Str.ofString "") ys).cps.toList = (ys.map fun s => s.cps.toList).flatten := by
  have key : ∀ ys : List Str, (Str.join (Str.ofString "") ys).cps.toList = (ys.map fun s => s.cps.toList).flatten := by
    intro ys
    induction ys with
    | nil => rfl
    | cons y ys ih =>
      cases ys with
      | nil => simp [Str.join]
      | cons z ys =>
        show (y ++ Str.ofString "" ++ Str.join (Str.ofString "") (z :: ys)).cps.toList = _
        rw [cps_toList_append, cps_toList_append, ih, e_l]
        simp
  intro ys
  rw [TL.join_eq]
  exact key ys
theorem strsOf_map : ∀ ys : List Str, strsOf (ys.map D.str) = some ys
  | [] => rfl
  | y :: ys => by simp [strsOf, strsOf_map ys]
theorem strs_to {P : Str → Prop} : ∀ {ys : List D}, (∀ y ∈ ys, ∃ s : Str, y = .str s ∧ P s) → ∃ xs : List Str, ys = xs.map D.str ∧ ∀ s ∈ xs, P s
  | [], _ => ⟨[], rfl, fun p hp => by cases hp⟩
  | y :: ys, h => by
    obtain ⟨s, e, hp⟩ := h y (by simp)
    obtain ⟨xs, e2, h2⟩ := strs_to (ys := ys) fun z hz => h z (by simp [hz])
    exact ⟨s :: xs, by rw [e, e2]; rfl, fun p hp' => (List.mem_cons.mp hp').elim (fun e => by rw [e]; exact hp) (h2 p)⟩
theorem call_draw {n : Int} {Q : D → Prop} (h1 : 1 ≤ n) (h2 : n < 1073741824) (k : ∀ i : Int, 0 ≤ i → i < n → Q (.int i)) : ∃ T : D → Prop, spDraw [.pur, .int n] T ∧ ∀ d, T d → Q d := ⟨Q, ⟨n, rfl, h1, h2, k⟩, fun d h => h⟩
theorem call_pick {xs : List D} {Q : D → Prop} (h0 : xs ≠ []) (h1 : xs.length ≤ 1000000) (k : ∀ x ∈ xs, Q x) : ∃ T : D → Prop, sp_pick [.pur, .lst xs] T ∧ ∀ d, T d → Q d := ⟨Q, .inl ⟨xs, .inl rfl, h0, h1, k⟩, fun d h => h⟩
theorem call_sign {s : Str} {Q : D → Prop} (h0 : s.cps.toList ≠ []) (h1 : s.length ≤ 1000000) (k : ∀ c ∈ s.cps.toList, Q (.str ⟨#[c]⟩)) : ∃ T : D → Prop, sp_pick [.pur, .str s] T ∧ ∀ d, T d → Q d := ⟨Q, .inr ⟨s, rfl, h0, h1, k⟩, fun d h => h⟩

def Dig (s : Str) : Prop := NumText.AllDigits s.cps.toList
theorem Dig.as {s : Str} (h : Dig s) : As s := fun c hc => by have := h c hc; omega
theorem join_one {P : Nat → Prop} {ys : List Str} (h : ∀ s ∈ ys, (∀ c ∈ s.cps.toList, P c) ∧ s.length = 1) : (∀ c ∈ (Txt.join (Str.ofString "") ys).cps.toList, P c) ∧ (Txt.join (Str.ofString "") ys).length = ys.length := by
  rw [cps_len, join0]
  refine ⟨fun c hc => ?_, ?_⟩
  · obtain ⟨l, h1, h2⟩ := List.mem_flatten.mp hc
    obtain ⟨s, hs, rfl⟩ := List.mem_map.mp h1
    exact (h s hs).1 c h2
  · induction ys with
    | nil => rfl
    | cons y ys ih =>
      have := (h y (by simp)).2
      rw [cps_len] at this
      rw [List.map_cons, List.flatten_cons, List.length_append, ih fun s hs => h s (by simp [hs]), this]
      simp only [List.length_cons]
      omega
theorem sum_one {ys : List Str} (h : ∀ s ∈ ys, s.length = 1) : (ys.map (·.length)).sum = ys.length := by
  induction ys with
  | nil => rfl
  | cons y ys ih => rw [List.map_cons, List.sum_cons, h y (by simp), ih fun s hs => h s (by simp [hs])]; simp only [List.length_cons]; omega
theorem e_len : (Str.ofString "").length = 0 := by decide +kernel
/-- "".join([.. for .. in range(n)]) of single signs -/
theorem join_go {P : Nat → Prop} {n : Int} {me : ME} {t : Nat} {env : BV.Env} {Q : D → Prop} (h0 : 0 ≤ n) (h1 : n ≤ 20000) (hs : ∀ x ∈ rngL 0 n.toNat, ∀ R : D → Prop, (∀ s : Str, (∀ c ∈ s.cps.toList, P c) → s.length = 1 → R (.str s)) → me (env.set t (some x)) R)
    (k : ∀ s : Str, (∀ c ∈ s.cps.toList, P c) → s.length = n.toNat → Q (.str s)) (acc : List D) (hacc : acc = []) :
    lcGo (.nm t) mYes me env (rngL 0 n.toNat) acc fun ds => ∃ ds' ys, D.lst ds = .lst ds' ∧ strsOf ds' = some ys ∧ (ys.map (·.length)).sum + ys.length * (Str.ofString "").length ≤ 4000000 ∧ Q (.str (Txt.join (Str.ofString "") ys)) := by
  subst hacc
  refine lcGo_map (fun _ y => ∃ s : Str, y = .str s ∧ (∀ c ∈ s.cps.toList, P c) ∧ s.length = 1) _ [] (fun x hx => ⟨_, rfl, fun R S k => yes_go (hs x hx _ fun s a b => k _ ⟨s, rfl, a, b⟩)⟩) fun ys p => ?_
  have hyl := paired_len p
  rw [rng_len] at hyl
  obtain ⟨xs, rfl, hx⟩ := strs_to (paired_all p)
  rw [List.length_map] at hyl
  obtain ⟨q1, q2⟩ := join_one hx
  exact ⟨_, xs, rfl, by rw [List.nil_append]; exact strsOf_map xs, by rw [sum_one fun s hs => (hx s hs).2, e_len]; omega, k _ q1 (by rw [q2, hyl])⟩
def sp_figures : SpD := fun ds T => ∃ n : Int, ds = [.pur, .int n] ∧ 0 ≤ n ∧ n ≤ 600 ∧ ∀ s : Str, Dig s → s.length = n.toNat → T (.str s)
theorem says_figures : ∀ ds T, sp_figures ds T → spOf 2 N_figures.length (m_figures spDraw) ds T := by
  rintro ds T ⟨n, rfl, n0, n1, hT⟩
  refine ⟨rfl, _, rfl, .int n, rfl, n, rfl, by omega, by omega, BV.sz_of (by rw [rng_len]; omega), ?_⟩
  refine join_go (P := fun c => 48 ≤ c ∧ c ≤ 57) n0 (by omega) (fun x hx R k => ⟨_, rfl, call_draw (by decide) (by decide) fun i a b => ?_⟩) hT [] rfl
  obtain ⟨j, rfl⟩ := Int.eq_ofNat_of_zero_le a
  refine ⟨_, str_d (n := j) (by omega), k _ (fun c hc => ?_) ?_⟩
  · rw [str_ofL] at hc
    exact TL.numL_digits j c hc
  · rw [cps_len, str_ofL, TL.numL_lt (by omega)]
    rfl
def sp_letters : SpD := fun ds T => ∃ n : Int, ds = [.pur, .int n] ∧ 0 ≤ n ∧ n ≤ 19000 ∧ ∀ s : Str, Low s → s.length = n.toNat → T (.str s)
theorem Low.as {s : Str} (h : Low s) : As s := fun c hc => by have := h c hc; omega
theorem az_low : ∀ c ∈ (Str.ofString "abcdefghijklmnopqrstuvwxyz").cps.toList, 97 ≤ c ∧ c ≤ 122 := fun c hc => az_mem.mp hc
theorem az_ne : (Str.ofString "abcdefghijklmnopqrstuvwxyz").cps.toList ≠ [] := by decide +kernel
theorem one_all {P : Nat → Prop} {c : Nat} (h : P c) : ∀ x ∈ (⟨#[c]⟩ : Str).cps.toList, P x := fun x hx => by
  have : x = c := by simpa using hx
  rw [this]; exact h
theorem says_letters : ∀ ds T, sp_letters ds T → spOf 2 N_letters.length (m_letters spDraw sp_pick) ds T := by
  rintro ds T ⟨n, rfl, n0, n1, hT⟩
  refine ⟨rfl, ?_⟩
  have go : ∀ env : BV.Env, env[0]? = some (some .pur) → env[2]? = some (some (.str (Str.ofString "abcdefghijklmnopqrstuvwxyz"))) → ∀ R : D → Prop, (∀ s : Str, (∀ c ∈ s.cps.toList, 97 ≤ c ∧ c ≤ 122) → s.length = 1 → R (.str s)) → mCall sp_pick (maCons (mVar 0) (maCons (mVar 2) maNil)) env R := fun env h0 h2 R k =>
    ⟨_, h0, _, h2, call_sign az_ne (by decide +kernel) fun c hc => k _ (one_all (az_low c hc)) rfl⟩
  have p1 : mRet [] (mOp mulD (mCall sp_pick (maCons (mVar 0) (maCons (mVar 2) maNil))) (mVar 1)) (endF T) [some (false, .pur), some (false, .int n), some (false, .str (Str.ofString "abcdefghijklmnopqrstuvwxyz")), none] := by
    refine go _ rfl rfl _ fun s a b => ⟨_, rfl, .str (repS s n.toNat), ?_, hT _ (low_rep a _) (by rw [rep_len, b]; omega)⟩
    show (if 0 ≤ n ∧ n ≤ 4000000 ∧ s.length * n.toNat ≤ 4000000 then some (D.str (repS s n.toNat)) else none) = _
    rw [if_pos ⟨n0, by omega, by rw [b]; omega⟩]
  have p2 : n ≤ 24 → mRet [] (mJoin (mC (.str (Str.ofString ""))) (mLstO (moLc [3] (mRng1 (maCons (mVar 1) maNil)) (.nm 3) mYes (mCall sp_pick (maCons (mVar 0) (maCons (mVar 2) maNil)))))) (endF T) [some (false, .pur), some (false, .int n), some (false, .str (Str.ofString "abcdefghijklmnopqrstuvwxyz")), none] := fun h => by
    refine ⟨_, rfl, .int n, rfl, n, rfl, by omega, by omega, BV.sz_of (by rw [rng_len]; omega), ?_⟩
    exact join_go (P := fun c => 97 ≤ c ∧ c ≤ 122) n0 (by omega) (fun x hx R k => go _ rfl rfl R k) hT [] rfl
  refine ⟨_, rfl, .bl (decide (24 < n)), rfl, _, rfl, ?_⟩
  cases h : decide (24 < n) with
  | true => exact iteT (iteT p1)
  | false =>
    have hn : n ≤ 24 := by have := of_decide_eq_false h; omega
    refine iteF ⟨_, rfl, call_draw (by decide) (by decide) fun i a b => ⟨_, eq_int i 0, _, rfl, ?_⟩⟩
    cases decide (i = 0) with
    | true => exact iteT p1
    | false => exact iteF (p2 hn)
end K01

/-! k01: numbers, texts, things. -/
namespace K01
open PySem PySem.Spec PyProof.Rows L2 Evl BV

theorem mul_sign {s j : Int} (h : s = 1 ∨ s = -1) : mulD (.int s) (.int j) = some (.int (s * j)) := if_pos (.inl (by rcases h with rfl | rfl <;> decide))
theorem sign_abs {s j : Int} (h : s = 1 ∨ s = -1) : (s * j).natAbs = j.natAbs := by rcases h with rfl | rfl <;> simp
theorem abs_lt {s j : Int} {n : Nat} (h : s = 1 ∨ s = -1) (k : j.natAbs < n) : (s * j).natAbs < n := by rw [sign_abs h]; exact k
theorem pow_up {a m n : Nat} (h : a < 10 ^ m) (k : m ≤ n) : a < 10 ^ n := Nat.lt_of_lt_of_le h (Nat.pow_le_pow_right (by decide) k)
theorem rep_all {P : Nat → Prop} {s : Str} (h : ∀ c ∈ s.cps.toList, P c) (n : Nat) : ∀ c ∈ (repS s n).cps.toList, P c := fun c hc => by
  simp only [repS] at hc
  have hc : c ∈ (List.replicate n s.cps.toList).flatten := by simpa using hc
  obtain ⟨l, h1, h2⟩ := List.mem_flatten.mp hc
  rw [(List.mem_replicate.mp h1).2] at h2
  exact h c h2
theorem mul_str {s : Str} {n : Int} (h0 : 0 ≤ n) (h1 : n ≤ 4000000) (h2 : s.length * n.toNat ≤ 4000000) : mulD (.str s) (.int n) = some (.str (repS s n.toNat)) := if_pos ⟨h0, h1, h2⟩
def sp_integer : SpD := fun ds T => ds = [.pur] ∧ ∀ i : Int, i.natAbs < 10 ^ 420 → T (.int i)
theorem says_integer : ∀ ds T, sp_integer ds T → spOf 1 N_integer.length (m_integer spDraw sp_pick sp_figures) ds T := by
  rintro ds T ⟨rfl, hT⟩
  refine ⟨rfl, _, rfl, _, rfl, rfl, call_pick (by simp) (by simp) fun x hx => ⟨_, rfl, call_draw (by decide) (by decide) fun w w0 w1 => ?_⟩⟩
  obtain ⟨s, rfl, hs⟩ : ∃ s : Int, x = .int s ∧ (s = 1 ∨ s = -1) := by
    simp only [List.mem_cons, List.not_mem_nil, or_false] at hx
    rcases hx with rfl | rfl
    · exact ⟨_, rfl, .inl rfl⟩
    · exact ⟨_, rfl, .inr rfl⟩
  refine ⟨_, _, rfl, ?_⟩
  dsimp only
  rw [aftL_nil]
  refine ⟨_, rfl, _, eq_int w 0, _, rfl, ?_⟩
  cases decide (w = 0) with
  | true => exact iteT ⟨_, rfl, _, rfl, call_draw (by decide) (by decide) fun i a b => ⟨_, mul_sign hs, hT _ (abs_lt hs (pow_up (m := 3) (by omega) (by decide)))⟩⟩
  | false =>
    refine iteF ⟨_, rfl, _, eq_int w 1, _, rfl, ?_⟩
    cases decide (w = 1) with
    | true =>
      refine iteT ⟨_, rfl, _, pow109, _, rfl, _, rfl, rfl, call_pick (by simp) (by simp) fun x hx => ?_⟩
      obtain ⟨j, rfl, hj⟩ : ∃ j : Int, x = .int j ∧ j.natAbs ≤ 2 := by
        simp only [List.mem_cons, List.not_mem_nil, or_false] at hx
        rcases hx with rfl | rfl | rfl | rfl | rfl <;> exact ⟨_, rfl, by decide⟩
      exact ⟨_, rfl, _, mul_sign hs, hT _ (abs_lt hs (pow_up (m := 10) (by omega) (by decide)))⟩
    | false =>
      refine iteF ⟨_, rfl, _, eq_int w 2, _, rfl, ?_⟩
      cases decide (w = 2) with
      | true =>
        refine iteT ⟨_, rfl, _, rfl, _, rfl, call_draw (by decide) (by decide) fun i a b => ⟨_, rfl, _, ⟨1 + i, rfl, by omega, by omega, fun f f1 f2 => ?_⟩, fun d h => h⟩⟩
        have hne : f.cps.toList ≠ [] := fun e => by rw [cps_len, e] at f2; simp at f2; omega
        refine ⟨_, int_dig f1 hne (by omega), _, mul_sign hs, hT _ (abs_lt hs ?_)⟩
        have := val_lt _ f1
        rw [← cps_len] at this
        simpa using pow_up this (by omega)
      | false =>
        refine iteF ⟨_, rfl, _, rfl, call_sign (by decide +kernel) (by decide +kernel) fun c hc => ⟨_, rfl, rfl, call_pick (by simp) (by simp) fun x hx => ?_⟩⟩
        obtain ⟨j, rfl, hj0, hj⟩ : ∃ j : Int, x = .int j ∧ 1 ≤ j ∧ j ≤ 400 := by
          simp only [List.mem_cons, List.not_mem_nil, or_false] at hx
          rcases hx with rfl | rfl | rfl | rfl | rfl <;> exact ⟨_, rfl, by decide, by decide⟩
        have h1 : (⟨#[c]⟩ : Str).length = 1 := rfl
        have hd : 48 ≤ c ∧ c ≤ 57 := by
          have : ∀ c ∈ (Str.ofString "123456789").cps.toList, 48 ≤ c ∧ c ≤ 57 := by decide +kernel
          exact this c hc
        refine ⟨_, mul_str (s := ⟨#[c]⟩) (n := j) (by omega) (by omega) (by rw [h1]; omega), ?_⟩
        have f1 : NumText.AllDigits (repS ⟨#[c]⟩ j.toNat).cps.toList := rep_all (one_all hd) _
        have f2 : (repS ⟨#[c]⟩ j.toNat).length = j.toNat := by rw [rep_len, h1]; omega
        have hne : (repS ⟨#[c]⟩ j.toNat).cps.toList ≠ [] := fun e => by rw [cps_len, e] at f2; simp at f2; omega
        refine ⟨_, int_dig f1 hne (by omega), _, mul_sign hs, hT _ (abs_lt hs ?_)⟩
        have := val_lt _ f1
        rw [← cps_len] at this
        simpa using pow_up this (by omega)
def sp_mark : SpD := fun ds T => ds = [.pur] ∧ ∀ s : Str, isA 20 s → T (.str s)
theorem says_mark : ∀ ds T, sp_mark ds T → spOf 1 N_mark.length (m_mark sp_figures spDraw sp_pick) ds T := by
  rintro ds T ⟨rfl, hT⟩
  refine ⟨rfl, _, rfl, _, rfl, call_draw (by decide) (by decide) fun i a b => ⟨_, rfl, _, ⟨1 + i, rfl, by omega, by omega, fun f f1 f2 => ?_⟩, fun d h => h⟩⟩
  have hne : f.cps.toList ≠ [] := fun e => by rw [cps_len, e] at f2; simp at f2; omega
  have fa : isA 12 f := ⟨by omega, f1.as⟩
  have p1 : isA 1 (Str.ofString ".") := lit_a "." 1 (by decide +kernel)
  have p2 : isA 2 (Str.ofString ".0") := lit_a ".0" 2 (by decide +kernel)
  have hv := val_lt _ f1
  rw [← cps_len] at hv
  have hv' : NumText.digitsVal f.cps.toList < 10 ^ 11 := pow_up hv (by omega)
  have sv : isA 12 (Str.ofString (toString ((NumText.digitsVal f.cps.toList : Nat) : Int))) := ⟨by rw [cps_len, str_ofL]; exact TL.numL_len (by decide) (pow_up hv' (by decide)), num_as _⟩
  have ls : (NumText.digitsVal f.cps.toList).log2 < 1920 := by
    by_cases h0 : NumText.digitsVal f.cps.toList = 0
    · rw [h0]; decide
    · exact (Nat.log2_lt h0).mpr (Nat.lt_of_lt_of_le hv' (Nat.le_trans (by decide : 10 ^ 11 ≤ 2 ^ 40) (Nat.pow_le_pow_right (by decide) (by decide))))
  dsimp only
  refine ⟨_, rfl, _, add_strA p1 fa (by decide), _, rfl, _, add_strA p1 fa (by decide), _, rfl, _, int_dig f1 hne (by omega), _, if_pos (by simpa using ls), _, add_strA p1 sv (by decide), _, rfl, _, add_strA p2 fa (by decide), rfl, ?_⟩
  dsimp only
  rw [aft_nil]
  refine ⟨_, rfl, _, rfl, rfl, _, rfl, ?_⟩
  dsimp only
  rw [aft_nil]
  refine ⟨_, rfl, _, rfl, call_pick (by simp) (by simp) fun x hx => ?_⟩
  have lit : ∀ x : String, ((Str.ofString x).length ≤ 20 ∧ (Str.ofString x).cps.toList.all (fun c => decide (c = 10 ∨ 32 ≤ c ∧ c ≤ 126)) = true) → T (.str (Str.ofString x)) := fun x h => hT _ (lit_a x 20 h)
  simp only [List.cons_append, List.nil_append, List.mem_cons, List.not_mem_nil, or_false] at hx
  rcases hx with rfl | rfl | rfl | rfl | rfl | rfl | rfl | rfl | rfl | rfl | rfl | rfl | rfl | rfl | rfl | rfl | rfl | rfl | rfl
  · exact lit _ (by decide +kernel)
  · exact lit _ (by decide +kernel)
  · exact hT _ ((p1.app fa).mono (by decide))
  · exact hT _ ((p1.app fa).mono (by decide))
  · exact hT _ ((p1.app sv).mono (by decide))
  · exact lit _ (by decide +kernel)
  · exact lit _ (by decide +kernel)
  · exact hT _ ((p2.app fa).mono (by decide))
  · exact lit _ (by decide +kernel)
  · exact lit _ (by decide +kernel)
  · exact lit _ (by decide +kernel)
  · exact lit _ (by decide +kernel)
  · exact lit _ (by decide +kernel)
  · exact lit _ (by decide +kernel)
  · exact lit _ (by decide +kernel)
  · exact lit _ (by decide +kernel)
  · exact hT _ (fa.mono (by decide))
  · exact lit _ (by decide +kernel)
  · exact lit _ (by decide +kernel)
def sp_text : SpD := fun ds T => ds = [.pur] ∧ ∀ s : Str, isA 19040 s → T (.str s)
theorem says_text : ∀ ds T, sp_text ds T → spOf 1 N_text.length (m_text spDraw sp_letters sp_pick sp_mark) ds T := by
  rintro ds T ⟨rfl, hT⟩
  refine ⟨rfl, _, rfl, call_draw (by decide) (by decide) fun i a b => ⟨_, eq_int i 0, _, rfl, ?_⟩⟩
  cases decide (i = 0) with
  | true =>
    refine iteT ⟨_, rfl, _, rfl, _, rfl, call_draw (by decide) (by decide) fun j a b => ⟨_, rfl, rfl, call_pick (by simp) (by simp) fun x hx => ?_⟩⟩
    obtain ⟨n, rfl, h0, h1⟩ : ∃ n : Int, x = .int n ∧ 0 ≤ n ∧ n ≤ 19000 := by
      simp only [List.mem_cons, List.not_mem_nil, or_false] at hx
      rcases hx with rfl | rfl | rfl | rfl | rfl | rfl | rfl | rfl | rfl | rfl | rfl
      all_goals first
        | exact ⟨_, rfl, by decide, by decide⟩
        | exact ⟨_, rfl, by omega, by omega⟩
    exact ⟨T, ⟨n, rfl, h0, h1, fun s l e => hT s ⟨by omega, Low.as l⟩⟩, fun d h => h⟩
  | false =>
    refine iteF ⟨_, rfl, rfl, call_pick (by simp) (by simp) fun x hx => ?_⟩
    obtain ⟨q, rfl, hq⟩ : ∃ q : Str, x = .str q ∧ isA 2 q := by
      simp only [List.mem_cons, List.not_mem_nil, or_false] at hx
      rcases hx with rfl | rfl | rfl | rfl | rfl | rfl | rfl | rfl <;> exact ⟨_, rfl, lit_a _ 2 (by decide +kernel)⟩
    refine ⟨_, rfl, _, rfl, _, rfl, rfl, call_pick (by simp) (by simp) fun x hx => ?_⟩
    obtain ⟨n, rfl, h0, h1⟩ : ∃ n : Int, x = .int n ∧ 0 ≤ n ∧ n ≤ 4 := by
      simp only [List.mem_cons, List.not_mem_nil, or_false] at hx
      rcases hx with rfl | rfl | rfl | rfl | rfl | rfl | rfl <;> exact ⟨_, rfl, by decide, by decide⟩
    refine ⟨fun d => ∃ s : Str, d = .str s ∧ isA 4 s, ⟨n, rfl, h0, by omega, fun s l e => ⟨s, rfl, by omega, Low.as l⟩⟩, ?_⟩
    rintro _ ⟨s, rfl, hs⟩
    refine ⟨_, add_strA hq hs (by decide), _, rfl, fun d => ∃ s : Str, d = .str s ∧ isA 20 s, ⟨rfl, fun s h => ⟨s, rfl, h⟩⟩, ?_⟩
    rintro _ ⟨m, rfl, hm⟩
    exact ⟨_, add_strA (hq.app hs) hm (by decide), hT _ (((hq.app hs).app hm).mono (by decide))⟩
def sp_spoilt : SpD := fun ds T => ∃ (t : Str) (n : Nat) (i w : Int), ds = [.pur, .str t, .int i, .int w] ∧ isA n t ∧ n ≤ 30000 ∧ 0 ≤ i ∧ ∀ u : Str, isA (n + 1) u → T (.str u)
theorem says_spoilt : ∀ ds T, sp_spoilt ds T → spOf 4 N_spoilt.length (m_spoilt sp_pick) ds T := by
  rintro ds T ⟨t, n, i, w, rfl, ht, hn, h0, hT⟩
  obtain ⟨i, rfl⟩ := Int.eq_ofNat_of_zero_le h0
  refine ⟨rfl, _, rfl, call_sign (by decide +kernel) (by decide +kernel) fun c hc => ?_⟩
  have hs : isA 1 ⟨#[c]⟩ := ⟨Nat.le_refl _, one_all (by
    have : ∀ c ∈ (Str.ofString "azkmAZK059?.-+ _(),\n=<>!#/:;*").cps.toList, c = 10 ∨ 32 ≤ c ∧ c ≤ 126 := by decide +kernel
    exact this c hc)⟩
  have s1 : slD (.str t) none (some (i : Int)) = some (.str (mk (t.cps.toList.take i))) := sl_to ht (by omega) i
  have s2 : slD (.str t) (some (i : Int)) none = some (.str (mk (t.cps.toList.drop i))) := sl_from ht (by omega) i
  have s3 : slD (.str t) (some ((i : Int) + 1)) none = some (.str (mk (t.cps.toList.drop (i + 1)))) := sl_from ht (by omega) (i + 1)
  have ln := ht.1
  rw [cps_len] at ln
  have a1 : isA (min i t.cps.toList.length) (mk (t.cps.toList.take i)) := ⟨by rw [mk_len, List.length_take]; exact Nat.le_refl _, (take_a ht i).2⟩
  have a2 : isA (t.cps.toList.length - i) (mk (t.cps.toList.drop i)) := ⟨by rw [mk_len, List.length_drop]; exact Nat.le_refl _, (drop_a ht i).2⟩
  have a3 : isA (t.cps.toList.length - (i + 1)) (mk (t.cps.toList.drop (i + 1))) := ⟨by rw [mk_len, List.length_drop]; exact Nat.le_refl _, (drop_a ht (i + 1)).2⟩
  refine ⟨_, rfl, _, eq_int w 0, _, rfl, ?_⟩
  cases decide (w = 0) with
  | true => exact iteT ⟨_, rfl, _, rfl, _, rfl, _, s1, _, rfl, _, add_strA a1 hs (by omega), _, rfl, _, rfl, _, rfl, _, s2, _, add_strA (a1.app hs) a2 (by omega), hT _ (((a1.app hs).app a2).mono (by omega))⟩
  | false =>
    refine iteF ⟨_, rfl, _, eq_int w 1, _, rfl, ?_⟩
    cases decide (w = 1) with
    | true => exact iteT ⟨_, rfl, _, rfl, _, rfl, _, s1, _, rfl, _, add_strA a1 hs (by omega), _, rfl, _, rfl, _, rfl, _, rfl, _, s3, _, add_strA (a1.app hs) a3 (by omega), hT _ (((a1.app hs).app a3).mono (by omega))⟩
    | false => exact iteF ⟨_, rfl, _, rfl, _, rfl, _, s1, _, rfl, _, rfl, _, rfl, _, rfl, _, s3, _, add_strA a1 a3 (by omega), hT _ ((a1.app a3).mono (by omega))⟩
end K01

/-! k01: things, nested; what is told of them. -/
namespace K01
open PySem PySem.Spec PyProof.Rows L2 Evl BV

def sz : Nat → Nat
  | 0 => 38100
  | n + 1 => 4 * sz n + 60
theorem sz_ge : ∀ n, 38100 ≤ sz n
  | 0 => Nat.le_refl _
  | n + 1 => by have := sz_ge n; show 38100 ≤ 4 * sz n + 60; omega
structure Th (n : Nat) (d : D) : Prop where
  ok : okT d
  rl : RL (2 * n) (sz n) d
theorem okT_not {d : D} (h : d ≠ .pur) (k : ∀ s, d ≠ .str s) : okT d := ⟨h, fun s e => absurd e (k s)⟩
theorem th_str {n m : Nat} {s : Str} (h : isA m s) (hm : m ≤ 19041) : Th n (.str s) := ⟨⟨fun e => (nomatch e), fun u e => by cases e; exact h.mono (by omega)⟩, (RL.str h.2).mono (Nat.zero_le _) (by have := sz_ge n; have := h.1; omega)⟩
theorem th_int {n : Nat} {i : Int} (h : i.natAbs < 10 ^ 420) : Th n (.int i) := ⟨okT_not (fun e => (nomatch e)) (fun s e => (nomatch e)), (RL.int (by decide) (by decide) h).mono (Nat.zero_le _) (by have := sz_ge n; omega)⟩
theorem th_bl {n : Nat} (b : Bool) : Th n (.bl b) := ⟨okT_not (fun e => (nomatch e)) (fun s e => (nomatch e)), (RL.bl b).mono (Nat.zero_le _) (by have := sz_ge n; omega)⟩
theorem th_non {n : Nat} : Th n .non := ⟨okT_not (fun e => (nomatch e)) (fun s e => (nomatch e)), RL.non.mono (Nat.zero_le _) (by have := sz_ge n; omega)⟩
theorem two_le {a b : Nat} (h : a ≤ 2) : a * b ≤ 2 * b := Nat.mul_le_mul_right b h
theorem th_lst {n : Nat} {ds : List D} (h : ∀ d ∈ ds, Th n d) (hl : ds.length ≤ 2) : Th (n + 1) (.lst ds) := ⟨okT_not (fun e => (nomatch e)) (fun s e => (nomatch e)), (RL.lst fun d hd => (h d hd).rl).mono (by omega) (by have := two_le (b := sz n + 2) hl; show _ ≤ 4 * sz n + 60; omega)⟩
theorem th_tup {n : Nat} {ds : List D} (h : ∀ d ∈ ds, Th n d) (hl : ds.length ≤ 2) : Th (n + 1) (.tup ds) := ⟨okT_not (fun e => (nomatch e)) (fun s e => (nomatch e)), (RL.tup fun d hd => (h d hd).rl).mono (by omega) (by have := two_le (b := sz n + 2) hl; show _ ≤ 4 * sz n + 60; omega)⟩
theorem th_dic {n : Nat} {ds : List D} (h : ∀ d ∈ ds, Th n d) (hl : ds.length ≤ 2) : Th (n + 1) (.dic [.inr (Str.ofString "a"), .inl 0] [.lst ds, .tup ds]) := by
  have t := two_le (b := sz n + 2) hl
  refine ⟨okT_not (fun e => (nomatch e)) (fun s e => (nomatch e)), (RL.dic (k := 2 * n + 1) (m := 2 * sz n + 7) rfl ?_ fun d hd => ?_).mono (by omega) (by show 2 + 2 * (2 * sz n + 7 + 14) ≤ 4 * sz n + 60; omega)⟩
  · intro k hk
    simp only [List.mem_cons, List.not_mem_nil, or_false] at hk
    rcases hk with rfl | rfl <;> exact ⟨by decide +kernel, by decide +kernel, by decide +kernel⟩
  · simp only [List.mem_cons, List.not_mem_nil, or_false] at hd
    rcases hd with rfl | rfl
    · exact (RL.lst fun d hd => (h d hd).rl).mono (Nat.le_refl _) (by omega)
    · exact (RL.tup fun d hd => (h d hd).rl).mono (Nat.le_refl _) (by omega)
abbrev spF : SpD := fun _ _ => False
def sp_thing (n : Nat) : SpD := fun ds T => ∃ deep : Int, ds = [.pur, .int deep] ∧ 0 ≤ deep ∧ deep ≤ n ∧ ∀ d, Th n d → T d
def prev_thing : Nat → SpD
  | 0 => spF
  | n + 1 => sp_thing n
theorem mod_three {w : Int} (h : 0 ≤ w) : modD (.int w) (.int 3) = some (.int (w % 3)) := rfl
theorem says_thing (n : Nat) : ∀ ds T, sp_thing n ds T → spOf 2 N_thing.length (m_thing spDraw sp_pick sp_integer sp_text sp_spoilt (prev_thing n)) ds T := by
  rintro ds T ⟨deep, rfl, d0, d1, hT⟩
  refine ⟨rfl, _, rfl, call_draw (by decide) (by decide) fun w w0 w1 => ?_⟩
  have plain : (mSeq (mIfS [] (tBl (mOp eqD (mVar 2) (mC (.int 3))))
      (mRet [] (mCall sp_pick (maCons (mVar 0) (maCons (mLst (maCons (mC .non) (maCons (mC (.bl true)) (maCons (mC (.bl false)) maNil)))) maNil))))
      mNext)
      (mSeq (mIfS [] (tBl (mOp ltD (mVar 2) (mC (.int 7))))
      (mRet [] (mCall sp_integer (maCons (mVar 0) maNil)))
      mNext)
      (mSeq (mAsg [] 4 (mCall sp_text (maCons (mVar 0) maNil)))
      (mSeq (mIfS [] (tBl (mOp ltD (mVar 2) (mC (.int 11))))
      (mRet [] (mVar 4))
      mNext)
      (mRet [] (mCall sp_spoilt (maCons (mVar 0) (maCons (mVar 4) (maCons (mCall spDraw (maCons (mVar 0) (maCons (mOp addD (mCB lenD (maCons (mVar 4) maNil)) (mC (.int 1))) maNil))) (maCons (mOp modD (mCB int2D (maCons (mVar 2) maNil)) (mC (.int 3))) maNil)))))))))) (endF T) [some (false, .pur), some (false, .int deep), some (false, .int w), none, none, none] := by
    refine ⟨_, rfl, _, eq_int w 3, _, rfl, ?_⟩
    cases decide (w = 3) with
    | true =>
      refine iteT ⟨_, rfl, rfl, call_pick (by simp) (by simp) fun x hx => ?_⟩
      simp only [List.mem_cons, List.not_mem_nil, or_false] at hx
      rcases hx with rfl | rfl | rfl
      · exact hT _ th_non
      · exact hT _ (th_bl _)
      · exact hT _ (th_bl _)
    | false =>
      refine iteF ⟨_, rfl, _, lt_int w 7, _, rfl, ?_⟩
      cases decide (w < 7) with
      | true => exact iteT ⟨_, rfl, T, ⟨rfl, fun i h => hT _ (th_int h)⟩, fun d h => h⟩
      | false =>
        refine iteF ⟨_, rfl, fun d => ∃ s : Str, d = .str s ∧ isA 19040 s, ⟨rfl, fun s h => ⟨s, rfl, h⟩⟩, ?_⟩
        rintro _ ⟨s, rfl, hs⟩
        refine ⟨_, rfl, _, lt_int w 11, _, rfl, ?_⟩
        cases decide (w < 11) with
        | true => exact iteT ⟨_, rfl, hT _ (th_str hs (by decide))⟩
        | false =>
          have hl : lenD [.str s] = some (.int s.length) := if_pos (BV.sz_of (by have := hs.1; omega))
          refine iteF ⟨_, rfl, _, rfl, _, rfl, _, rfl, _, hl, _, rfl, call_draw (by omega) (by have := hs.1; omega) fun i a b => ⟨_, rfl, _, rfl, _, rfl, T, ⟨s, 19040, i, w % 3, rfl, hs, by decide, a, fun u hu => hT _ (th_str hu (by decide))⟩, fun d h => h⟩⟩
  refine ⟨_, rfl, _, lt_int w 3, _, rfl, ?_⟩
  cases decide (w < 3) with
  | false => exact iteF plain
  | true =>
    refine iteT ⟨_, rfl, .bl (decide (0 < deep)), rfl, _, rfl, ?_⟩
    cases hd : decide (0 < deep) with
    | false => exact plain
    | true =>
      have hd : 0 < deep := of_decide_eq_true hd
      match n, d1, hT with
      | 0, d1, _ => omega
      | n + 1, d1, hT =>
        refine ⟨_, rfl, call_draw (by decide) (by decide) fun m m0 m1 => ⟨m, rfl, by omega, by omega, BV.sz_of (by rw [rng_len]; omega), ?_⟩⟩
        refine lcGo_map (fun _ y => Th n y) _ [] (fun x hx => ⟨_, rfl, fun R S k => yes_go ⟨_, rfl, _, rfl, _, rfl, R, ⟨deep - 1, rfl, by omega, by omega, k⟩, fun d h => h⟩⟩) fun ys p => ?_
        have hl := paired_len p
        rw [rng_len] at hl
        have hy : ∀ y ∈ ys, Th n y := paired_all p
        rw [List.nil_append]
        dsimp only
        rw [aft_nil]
        refine ⟨_, rfl, _, eq_int w 0, _, rfl, ?_⟩
        cases decide (w = 0) with
        | true => exact iteT ⟨_, rfl, _, rfl, hT _ (th_tup hy (by omega))⟩
        | false =>
          refine iteF ⟨_, rfl, _, eq_int w 1, _, rfl, ?_⟩
          cases decide (w = 1) with
          | true => exact iteT ⟨_, rfl, hT _ (th_lst hy (by omega))⟩
          | false => exact iteF ⟨_, rfl, _, rfl, _, rfl, hT _ (th_dic hy (by omega))⟩
/-- what is asked -/
structure Wr (d : D) : Prop where
  ok : okT d
  rl : RL 20 2500000 d
theorem Th.wr {n : Nat} {d : D} (h : Th n d) (hn : n ≤ 3) : Wr d := ⟨h.ok, h.rl.mono (by omega) (by
  have : ∀ n ≤ 3, sz n ≤ 2500000 := by decide
  exact this n hn)⟩
def sp_wrapped : SpD := fun ds T => ∃ d n, ds = [.pur, d] ∧ Th n d ∧ n ≤ 3 ∧ ∀ d, Wr d → T d
theorem says_wrapped : ∀ ds T, sp_wrapped ds T → spOf 2 N_wrapped.length (m_wrapped spDraw) ds T := by
  rintro ds T ⟨d, n, rfl, h, hn, hT⟩
  have hs : sz n ≤ 2440000 := by
    have : ∀ n ≤ 3, sz n ≤ 2440000 := by decide
    exact this n hn
  refine ⟨rfl, d, rfl, ?_⟩
  dsimp only
  rw [aft_nil]
  refine ⟨_, rfl, call_draw (by decide) (by decide) fun m m0 m1 => ⟨_, rfl, 1 + m, rfl, by omega, by omega, ?_⟩⟩
  refine forGo_inv (fun i env => ∃ e x3, env = [some (false, .pur), some (false, d), some (false, e), x3] ∧ okT e ∧ RL (6 + i) (2440000 + 10 * i) e) ⟨d, _, rfl, h.ok, h.rl.mono (by omega) (by omega)⟩ ?_ ?_
  · rintro env ⟨e, x3, rfl, h1, h2⟩
    rw [rng_len] at h2
    exact ⟨_, rfl, hT _ ⟨h1, h2.mono (by omega) (by omega)⟩⟩
  · rintro i x env nx hi ⟨e, x3, rfl, h1, h2⟩ hnx
    have hi' : i < 12 := by
      have := (List.getElem?_eq_some_iff.mp hi).1
      rw [rng_len] at this
      omega
    refine ⟨_, rfl, _, rfl, call_draw (by decide) (by decide) fun j j0 j1 => ⟨_, eq_int j 0, _, rfl, ?_⟩⟩
    have one : ∀ x ∈ [e], RL (6 + i) (2440000 + 10 * i) x := fun x hx => by rw [List.mem_singleton.mp hx]; exact h2
    cases decide (j = 0) with
    | true =>
      refine iteT ⟨_, rfl, rfl, ?_⟩
      dsimp only
      rw [aft_nil]
      exact hnx _ ⟨.tup [e], _, rfl, okT_not (fun e => (nomatch e)) (fun s e => (nomatch e)), (RL.tup one).mono (by omega) (by simp only [List.length_cons, List.length_nil]; omega)⟩
    | false =>
      refine iteF ⟨_, rfl, rfl, ?_⟩
      dsimp only
      rw [aft_nil]
      exact hnx _ ⟨.lst [e], _, rfl, okT_not (fun e => (nomatch e)) (fun s e => (nomatch e)), (RL.lst one).mono (by omega) (by simp only [List.length_cons, List.length_nil]; omega)⟩
def sp_is_told : SpD := fun ds T => ∃ d, ds = [d] ∧ Wr d ∧ T (.bl true)
theorem says_is_told : ∀ ds T, sp_is_told ds T → spOf 1 N_is_told.length (m_is_told sp_is_variable sp_is_value sp_is_variable sp_is_value) ds T := by
  rintro ds T ⟨d, rfl, h, hT⟩
  have two : RL 1 20 (.lst [.bl (valB d), .bl (varB d)]) := (RL.lst (k := 0) (m := 5) fun x hx => by
    simp only [List.mem_cons, List.not_mem_nil, or_false] at hx
    rcases hx with rfl | rfl <;> exact RL.bl _).mono (by decide) (by show 2 + 2 * (5 + 2) ≤ 20; decide)
  refine ⟨rfl, _, rfl, _, h.rl.repr (by decide) (by decide), _, rfl, fun x => x = .bl (valB d), ⟨d, rfl, h.ok, rfl⟩, ?_⟩
  rintro _ rfl
  refine ⟨_, rfl, fun x => x = .bl (varB d), ⟨d, rfl, h.ok, rfl⟩, ?_⟩
  rintro _ rfl
  refine ⟨rfl, _, two.repr (by decide) (by decide), ?_⟩
  refine ⟨_, rfl, fun x => x = .bl (valB d), ⟨d, rfl, h.ok, rfl⟩, ?_⟩
  rintro _ rfl
  refine ⟨_, rfl, fun x => x = .bl (varB d), ⟨d, rfl, h.ok, rfl⟩, ?_⟩
  rintro _ rfl
  refine ⟨rfl, _, two.repr (by decide) (by decide), _, rfl, _, two.same_ne, _, rfl, iteF ?_⟩
  refine ⟨_, rfl, fun x => x = .bl (valB d), ⟨d, rfl, h.ok, rfl⟩, ?_⟩
  rintro _ rfl
  refine ⟨_, rfl, fun x => x = .bl (varB d), ⟨d, rfl, h.ok, rfl⟩, ?_⟩
  rintro _ rfl
  exact ⟨rfl, _, two.repr (by decide) (by decide), _, rfl, _, two.same_ne, _, rfl, iteF ⟨_, rfl, _, h.rl.repr (by decide) (by decide), _, rfl, _, h.rl.same_eq, hT⟩⟩
theorem wr_str {s : Str} {n : Nat} (h : isA n s) (hn : n ≤ 19041) : Wr (.str s) := (th_str (n := 0) h hn).wr (by decide)
def sp_is_told_near : SpD := fun ds T => ∃ t, ds = [.pur, .str t] ∧ isA 100 t ∧ T (.bl true)
theorem call_told {d : D} {Q : D → Prop} (h : Wr d) (k : Q (.bl true)) : ∃ T : D → Prop, sp_is_told [d] T ∧ ∀ d, T d → Q d := ⟨Q, ⟨d, rfl, h, k⟩, fun d h => h⟩
theorem says_is_told_near : ∀ ds T, sp_is_told_near ds T → spOf 2 N_is_told_near.length (m_is_told_near sp_is_told sp_spoilt) ds T := by
  rintro ds T ⟨t, rfl, h, hT⟩
  have hl : lenD [.str t] = some (.int t.length) := if_pos (BV.sz_of (by have := h.1; omega))
  have h1 := h.1
  refine ⟨rfl, _, rfl, call_told (wr_str h (by decide)) ⟨_, rfl, iteF ⟨_, rfl, _, hl, _, rfl, (t.length : Int) + 1, rfl, by omega, by omega, ?_⟩⟩⟩
  refine forGo_inv (fun i env => ∃ x2 x3, env = [some (false, .pur), some (false, .str t), x2, x3]) ⟨_, _, rfl⟩ ?_ ?_
  · rintro env ⟨x2, x3, rfl⟩
    exact hT
  · rintro i x env nx hi ⟨x2, x3, rfl⟩ hnx
    obtain ⟨a, rfl, ha⟩ : ∃ a : Int, x = .int a ∧ 0 ≤ a := by
      obtain ⟨k, hk, rfl⟩ := List.mem_map.mp (List.mem_of_getElem? hi)
      exact ⟨_, rfl, by omega⟩
    refine ⟨_, rfl, 3, rfl, by decide, by decide, ?_⟩
    refine forGo_inv (fun i env => ∃ x3, env = [some (false, .pur), some (false, .str t), some (false, .int a), x3]) ⟨_, rfl⟩ ?_ ?_
    · rintro env ⟨x3, rfl⟩
      exact hnx _ ⟨_, _, rfl⟩
    · rintro i x env nx2 hi ⟨x3, rfl⟩ hnx2
      obtain ⟨b, rfl⟩ : ∃ b : Int, x = .int b := by
        obtain ⟨k, hk, rfl⟩ := List.mem_map.mp (List.mem_of_getElem? hi)
        exact ⟨_, rfl⟩
      refine ⟨_, rfl, _, rfl, _, rfl, _, rfl, _, rfl, fun d => ∃ u : Str, d = .str u ∧ isA 101 u, ⟨t, 100, a, b, rfl, h, by decide, ha, fun u hu => ⟨u, rfl, hu⟩⟩, ?_⟩
      rintro _ ⟨u, rfl, hu⟩
      exact call_told (wr_str hu (by decide)) ⟨_, rfl, iteF (hnx2 _ ⟨_, rfl⟩)⟩
end K01

/-! A def of which nothing is wanted. -/
namespace BV
open PySem PySem.Spec PyProof.Rows L2 Evl
theorem Kn.vac {P : Program} {w : World} {K : PySem.W.Frag} {mg : Str → Option Value} {base : Heap} {x : Str} {k : Nat} {ps : List Str} {f : Addr} {fd : FuncData} (b : Binds K fd ps []) (kp : PySem.W.keepIn K (.ref f) = true) (g : mg x = some (.ref f)) : Kn P w K mg base x k ps (fun _ _ => False) :=
  ⟨f, fd, ⟨fun vs H Q E ⟨z, C, ds, T, o, dn, h, _⟩ => h.elim, fun A out s H ar us vs Q E r g e0 hb v ⟨z, C, ds, T, o, dn, h, _⟩ => h.elim⟩, b, kp, g⟩
end BV

/-! k01: the law. -/
namespace K01
open PySem PySem.Spec PyProof.Rows L2 Evl BV

theorem mark_num {n : Nat} (h : n ≤ 1000000000) : markB (TL.numL n) = true := by
  unfold markB
  have h1 : 1 ≤ (TL.numL n).length := List.length_pos_iff.mpr (TL.numL_ne n)
  have h2 := TL.numL_len (n := n) (k := 10) (by decide) (by omega)
  have h3 : digB (TL.numL n) = true := List.all_eq_true.mpr fun c hc => by simpa using TL.numL_digits n c hc
  rw [TL.numL_val, h3]
  simp [h1, h2, h]
theorem low_b {s : Str} (h : Low s) {n : Nat} (h1 : 1 ≤ s.length) (h2 : s.length ≤ n) : lowB s.cps.toList n = true := by
  unfold lowB
  rw [← cps_len, decide_eq_true h1, decide_eq_true h2]
  simp only [Bool.true_and, List.all_eq_true, decide_eq_true_eq]
  exact h
theorem p_l : (Str.ofString ".").cps.toList = [46] := by decide +kernel
theorem var_ok {l : Str} {n : Nat} (h : Low l) (h1 : 1 ≤ l.length) (h2 : l.length ≤ 3) (hn : n ≤ 1000000000) : varB (.str (((Str.ofString "?" ++ l) ++ Str.ofString ".") ++ Str.ofString (toString (n : Int)))) = true := by
  have e : (((Str.ofString "?" ++ l) ++ Str.ofString ".") ++ Str.ofString (toString (n : Int))).cps.toList = 63 :: (l.cps.toList ++ 46 :: TL.numL n) := by
    rw [cps_toList_append, cps_toList_append, cps_toList_append, q_l, p_l, str_ofL]
    simp
  show (match (((Str.ofString "?" ++ l) ++ Str.ofString ".") ++ Str.ofString (toString (n : Int))).cps.toList with | 63 :: r => tailB r | _ => false) = _
  rw [e]
  show tailB (l.cps.toList ++ 46 :: TL.numL n) = true
  unfold tailB
  have hf : 46 ∉ l.cps.toList := fun hc => by have := h 46 hc; omega
  rw [(free_take hf).1, (free_take hf).2, low_b h h1 h2]
  exact mark_num hn
def AllW (l : List D) : Prop := ∀ x ∈ l, Wr x
theorem AllW.app {a b : List D} (h : AllW a) (k : AllW b) : AllW (a ++ b) := fun x hx => (List.mem_append.mp hx).elim (h x) (k x)
theorem AllW.nil : AllW [] := fun x hx => by cases hx
theorem AllW.cons {a : D} {b : List D} (h : Wr a) (k : AllW b) : AllW (a :: b) := fun x hx => (List.mem_cons.mp hx).elim (fun e => by rw [e]; exact h) (k x)
theorem w_lit (x : String) (h : ((Str.ofString x).length ≤ 100 ∧ (Str.ofString x).cps.toList.all (fun c => decide (c = 10 ∨ 32 ≤ c ∧ c ≤ 126)) = true)) : Wr (.str (Str.ofString x)) := wr_str (lit_a x 100 h) (by decide)
theorem w_int {i : Int} (h : i.natAbs < 10 ^ 420) : Wr (.int i) := (th_int (n := 0) h).wr (by decide)
theorem rep_a {x : String} {m n k : Nat} (h : ((Str.ofString x).length ≤ m ∧ (Str.ofString x).cps.toList.all (fun c => decide (c = 10 ∨ 32 ≤ c ∧ c ≤ 126)) = true)) (hk : n * m ≤ k) : isA k (repS (Str.ofString x) n) := ⟨by rw [rep_len]; have := Nat.mul_le_mul_left n h.1; omega, rep_all (As.lit x h.2) n⟩
theorem w_sub {d : D} (h : Th 1 d) : Wr d := h.wr (by decide)
theorem one_t {d : D} (h : Th 0 d) : ∀ x ∈ [d], Th 0 x := fun x hx => by rw [List.mem_singleton.mp hx]; exact h
theorem t_lit (x : String) (h : ((Str.ofString x).length ≤ 100 ∧ (Str.ofString x).cps.toList.all (fun c => decide (c = 10 ∨ 32 ≤ c ∧ c ≤ 126)) = true)) : Th 0 (.str (Str.ofString x)) := th_str (lit_a x 100 h) (by decide)
theorem w_dic0 : Wr (dicOf []) := ⟨okT_not (fun e => (nomatch e)) (fun s e => (nomatch e)), (RL.dic (k := 0) (m := 0) (ks := []) (vs := []) rfl (fun x hx => by cases hx) fun d hd => by cases hd).mono (by decide) (by decide)⟩
theorem w_dic1 : Wr (.dic [.inr (Str.ofString "?a")] [.int 1]) := ⟨okT_not (fun e => (nomatch e)) (fun s e => (nomatch e)), (RL.dic (k := 0) (m := 11) (ks := [.inr (Str.ofString "?a")]) (vs := [.int 1]) rfl (fun x hx => by
    rw [List.mem_singleton.mp hx]
    exact ⟨by decide +kernel, by decide +kernel, by decide +kernel⟩) fun d hd => by rw [List.mem_singleton.mp hd]; exact RL.int (k := 10) (by decide) (by decide) (by decide)).mono (by decide) (by decide)⟩
theorem add_lst2 {a b : List D} (h : a.length + b.length ≤ 4000000) : addD (.lst a) (.lst b) = some (.lst (a ++ b)) := if_pos (BV.sz_of h)
theorem int_mul {x : String} {n : Nat} (h : (Str.ofString x).length ≤ 10) (hn : n ≤ 10000) : mulD (.str (Str.ofString x)) (.int (n : Nat)) = some (.str (repS (Str.ofString x) n)) := by
  have := mul_str (s := Str.ofString x) (n := (n : Int)) (by omega) (by omega) (by rw [Int.toNat_natCast]; have := Nat.mul_le_mul h hn; omega)
  rwa [Int.toNat_natCast] at this
theorem says_law (E : EndD) (hT : E.rt (.bl true)) : m_law (sp_thing 3) sp_pick sp_is_told sp_wrapped sp_letters spDraw sp_is_told_near sp_is_value sp_is_variable E [none, some (false, .pur), none, none, none, none, none, none, none] := by
  refine ⟨24, rfl, by decide, by decide, ?_⟩
  refine forGo_inv (fun i env => ∃ x2 x3, env = [none, some (false, .pur), x2, x3, none, none, none, none, none]) ⟨_, _, rfl⟩ ?_ ?_
  rotate_left
  · rintro i x env nx hi ⟨x2, x3, rfl⟩ hnx
    obtain ⟨a, rfl⟩ : ∃ a : Int, x = .int a := by
      obtain ⟨k, hk, rfl⟩ := List.mem_map.mp (List.mem_of_getElem? hi)
      exact ⟨_, rfl⟩
    refine ⟨_, rfl, _, rfl, _, rfl, rfl, call_pick (by simp) (by simp) fun p hp => ?_⟩
    obtain ⟨n, rfl, n0, n1⟩ : ∃ n : Int, p = .int n ∧ 0 ≤ n ∧ n ≤ 3 := by
      simp only [List.mem_cons, List.not_mem_nil, or_false] at hp
      rcases hp with rfl | rfl | rfl | rfl <;> exact ⟨_, rfl, by decide, by decide⟩
    refine ⟨Th 3, ⟨n, rfl, n0, n1, fun d h => h⟩, ?_⟩
    intro d hd
    dsimp only
    rw [aft_nil]
    refine ⟨_, rfl, call_told (hd.wr (by decide)) ⟨_, rfl, iteF ?_⟩⟩
    refine ⟨_, rfl, _, rfl, _, rfl, _, eq_int (a % 6) 5, _, rfl, ?_⟩
    cases decide (a % 6 = 5) with
    | false => exact iteF (hnx _ ⟨_, _, rfl⟩)
    | true => exact iteT ⟨_, rfl, _, rfl, Wr, ⟨d, 3, rfl, hd, by decide, fun d h => h⟩, fun d h => call_told h ⟨_, rfl, hnx _ ⟨_, _, rfl⟩⟩⟩
  rintro env ⟨x2, x3, rfl⟩
  refine ⟨_, rfl, _, rfl, call_draw (by decide) (by decide) fun i i0 i1 => ⟨_, rfl, fun d => ∃ s : Str, d = .str s ∧ Low s ∧ 1 ≤ s.length ∧ s.length ≤ 12, ⟨1 + i, rfl, by omega, by omega, fun s h l => ⟨s, rfl, h, by omega, by omega⟩⟩, ?_⟩⟩
  rintro _ ⟨wd, rfl, w1, w2, w3⟩
  refine ⟨_, rfl, _, rfl, call_draw (by decide) (by decide) fun i i0 i1 => ⟨_, rfl, fun d => ∃ s : Str, d = .str s ∧ Low s ∧ 1 ≤ s.length ∧ s.length ≤ 3, ⟨1 + i, rfl, by omega, by omega, fun s h l => ⟨s, rfl, h, by omega, by omega⟩⟩, ?_⟩⟩
  rintro _ ⟨ls, rfl, l1, l2, l3⟩
  refine ⟨_, _, rfl, ?_⟩
  dsimp only
  rw [aftL_nil]
  refine ⟨_, rfl, _, pow109, _, rfl, _, pow109, call_draw (by decide) (by decide) fun i i0 i1 => ⟨_, rfl, call_draw (by decide) (by decide) fun j j0 j1 => ⟨rfl, call_pick (by simp) (by simp) fun p hp => ?_⟩⟩⟩
  obtain ⟨n, rfl, n1⟩ : ∃ n : Nat, p = .int n ∧ n ≤ 1000000000 := by
    simp only [List.mem_cons, List.not_mem_nil, or_false] at hp
    rcases hp with rfl | rfl | rfl | rfl | rfl | rfl
    · exact ⟨0, rfl, by decide⟩
    · exact ⟨7, rfl, by decide⟩
    · exact ⟨10, rfl, by decide⟩
    · exact ⟨1000000000, rfl, by decide⟩
    · exact ⟨i.toNat, by rw [Int.toNat_of_nonneg i0], by omega⟩
    · exact ⟨j.toNat, by rw [Int.toNat_of_nonneg j0], by omega⟩
  have aw : isA 12 wd := ⟨w3, Low.as w1⟩
  have al : isA 3 ls := ⟨l3, Low.as l1⟩
  have aq : isA 1 (Str.ofString "?") := lit_a "?" 1 (by decide +kernel)
  have ap : isA 1 (Str.ofString ".") := lit_a "." 1 (by decide +kernel)
  have an : isA 10 (Str.ofString (toString (n : Int))) := ⟨by rw [cps_len, str_ofL]; exact TL.numL_len (by decide) (by omega), num_as n⟩
  have a2 := aq.app al
  have a3 := (a2.app ap).app an
  dsimp only
  rw [aft_nil]
  refine ⟨_, rfl, _, rfl, _, add_strA aq al (by decide), _, rfl, _, add_strA aq al (by decide), _, add_strA a2 ap (by decide), _, rfl, _, str_d (n := n) (by omega), _, add_strA (a2.app ap) an (by decide), rfl, _, rfl, ?_⟩
  rw [frz_nil]
  refine forGo_inv (fun i env => ∃ x7, env = [none, some (false, .pur), x2, x3, some (false, .str wd), some (false, .str ls), some (false, .int n), x7, none]) ⟨_, rfl⟩ ?_ ?_
  rotate_left
  · rintro i x env nx hi ⟨x7, rfl⟩ hnx
    obtain ⟨t, rfl, ht⟩ : ∃ t : Str, x = .str t ∧ isA 100 t := by
      have hx := List.mem_of_getElem? hi
      simp only [List.mem_cons, List.not_mem_nil, or_false] at hx
      rcases hx with rfl | rfl | rfl
      · exact ⟨_, rfl, aw.mono (by decide)⟩
      · exact ⟨_, rfl, a2.mono (by decide)⟩
      · exact ⟨_, rfl, a3.mono (by decide)⟩
    exact ⟨_, rfl, _, rfl, _, rfl, fun d => d = .bl true, ⟨t, rfl, ht, rfl⟩, fun d h => by subst h; exact ⟨_, rfl, iteF (hnx _ ⟨_, rfl⟩)⟩⟩
  rintro env ⟨x7, rfl⟩
  have okw : okT (.str wd) := ⟨fun e => (nomatch e), fun s e => by cases e; exact aw.mono (by decide)⟩
  have okv : okT (.str (((Str.ofString "?" ++ ls) ++ Str.ofString ".") ++ Str.ofString (toString (n : Int)))) := ⟨fun e => (nomatch e), fun s e => by cases e; exact a3.mono (by decide)⟩
  have v1 : valB (.str wd) = true := low_b w1 w2 w3
  have v2 := var_ok l1 l2 l3 n1
  refine ⟨_, rfl, fun x => x = .bl true, ⟨_, rfl, okw, by rw [v1]⟩, ?_⟩
  rintro _ rfl
  refine ⟨_, rfl, _, rfl, iteF ?_⟩
  refine ⟨_, rfl, _, add_strA aq al (by decide), _, add_strA a2 ap (by decide), _, rfl, _, str_d (n := n) (by omega), _, add_strA (a2.app ap) an (by decide), fun x => x = .bl true, ⟨_, rfl, okv, by rw [v2]⟩, ?_⟩
  rintro _ rfl
  refine ⟨_, rfl, _, rfl, iteF ?_⟩
  -- the edges
  have k12 := int_mul (x := "a") (n := 12) (by decide +kernel) (by decide)
  have k13 := int_mul (x := "a") (n := 13) (by decide +kernel) (by decide)
  have k9 := int_mul (x := "9") (n := 5000) (by decide +kernel) (by decide)
  have k0 := int_mul (x := "0") (n := 5000) (by decide +kernel) (by decide)
  have r9 : isA 5000 (repS (Str.ofString "9") 5000) := rep_a (m := 1) (by decide +kernel) (by decide)
  have r0 : isA 5000 (repS (Str.ofString "0") 5000) := rep_a (m := 1) (by decide +kernel) (by decide)
  have r12 : isA 100 (repS (Str.ofString "a") 12) := rep_a (m := 1) (by decide +kernel) (by decide)
  have r13 : isA 100 (repS (Str.ofString "a") 13) := rep_a (m := 1) (by decide +kernel) (by decide)
  have q3 : isA 3 (Str.ofString "?x.") := lit_a "?x." 3 (by decide +kernel)
  have q4 : isA 4 (Str.ofString "?x.1") := lit_a "?x.1" 4 (by decide +kernel)
  refine ⟨_, k12, _, k13, rfl, ?_⟩
  dsimp only
  rw [aft_nil]
  refine ⟨_, rfl, _, pow109, _, pow109, _, rfl, _, pow109, _, rfl, _, pow109, _, rfl, _, rfl, rfl, rfl, _, add_lst2 (by simp), ?_⟩
  dsimp only
  rw [aft_nil]
  refine ⟨_, rfl, rfl, _, k9, _, add_strA q3 r9 (by decide), _, k0, _, add_strA q4 r0 (by decide), _, k9, rfl, _, add_lst2 (by simp), ?_⟩
  dsimp only
  rw [aft_nil]
  refine ⟨_, rfl, rfl, rfl, rfl, rfl, rfl, _, add_lst2 (by simp), ?_⟩
  dsimp only
  rw [aft_nil]
  have all : AllW ((([D.non, .bl true, .bl false, .str (Str.ofString ""), .str (Str.ofString "?"), .str (repS (Str.ofString "a") 12), .str (repS (Str.ofString "a") 13), .str (Str.ofString "z"), .str (Str.ofString "?abc"), .str (Str.ofString "?abcd"), .str (Str.ofString "?a.0"), .str (Str.ofString "?a.00"), .str (Str.ofString "?a.1000000000")] ++
      [.int 1000000000, .int (-1000000000), .int (1000000000 + 1), .int (-1000000000 - 1), .int 0, .str (Str.ofString "0"), .str (Str.ofString "7"), .str (Str.ofString "A"), .str (Str.ofString "a\n"), .str (Str.ofString "?a\n"), .str (Str.ofString "?a.7\n"), .tup []]) ++
      [.lst [], dicOf [], .str (Str.ofString "?x." ++ repS (Str.ofString "9") 5000), .str (Str.ofString "?x.1" ++ repS (Str.ofString "0") 5000), .str (repS (Str.ofString "9") 5000)]) ++
      [.tup [.str (Str.ofString "a")], .lst [.str (Str.ofString "a")], .tup [.int 7], .tup [.str (Str.ofString "?a")], .dic [.inr (Str.ofString "?a")] [.int 1], .str (Str.ofString "?a.1000000001"), .str (Str.ofString "a b"), .str (Str.ofString "?A"), .str (Str.ofString "?a."), .str (Str.ofString "?.7"), .str (Str.ofString "?a.07")]) := by
    have no : ∀ x ∈ ([] : List D), Th 0 x := fun x hx => by cases hx
    refine AllW.app (AllW.app (AllW.app ?_ ?_) ?_) ?_
    · exact .cons ((th_non (n := 0)).wr (by decide)) (.cons ((th_bl (n := 0) _).wr (by decide)) (.cons ((th_bl (n := 0) _).wr (by decide)) (.cons (w_lit _ (by decide +kernel)) (.cons (w_lit _ (by decide +kernel)) (.cons (wr_str r12 (by decide)) (.cons (wr_str r13 (by decide)) (.cons (w_lit _ (by decide +kernel)) (.cons (w_lit _ (by decide +kernel)) (.cons (w_lit _ (by decide +kernel)) (.cons (w_lit _ (by decide +kernel)) (.cons (w_lit _ (by decide +kernel)) (.cons (w_lit _ (by decide +kernel)) .nil))))))))))))
    · exact .cons (w_int (by decide)) (.cons (w_int (by decide)) (.cons (w_int (by decide)) (.cons (w_int (by decide)) (.cons (w_int (by decide)) (.cons (w_lit _ (by decide +kernel)) (.cons (w_lit _ (by decide +kernel)) (.cons (w_lit _ (by decide +kernel)) (.cons (w_lit _ (by decide +kernel)) (.cons (w_lit _ (by decide +kernel)) (.cons (w_lit _ (by decide +kernel)) (.cons (w_sub (th_tup no (by simp))) .nil)))))))))))
    · exact .cons (w_sub (th_lst no (by simp))) (.cons w_dic0 (.cons (wr_str (q3.app r9) (by decide)) (.cons (wr_str (q4.app r0) (by decide)) (.cons (wr_str r9 (by decide)) .nil))))
    · exact .cons (w_sub (th_tup (one_t (t_lit _ (by decide +kernel))) (by simp))) (.cons (w_sub (th_lst (one_t (t_lit _ (by decide +kernel))) (by simp))) (.cons (w_sub (th_tup (one_t (th_int (by decide))) (by simp))) (.cons (w_sub (th_tup (one_t (t_lit _ (by decide +kernel))) (by simp))) (.cons w_dic1 (.cons (w_lit _ (by decide +kernel)) (.cons (w_lit _ (by decide +kernel)) (.cons (w_lit _ (by decide +kernel)) (.cons (w_lit _ (by decide +kernel)) (.cons (w_lit _ (by decide +kernel)) (.cons (w_lit _ (by decide +kernel)) .nil))))))))))
  refine ⟨_, rfl, _, rfl, ?_⟩
  rw [frz_nil]
  refine forGo_inv (fun i env => ∃ x3 l, env = [none, some (false, .pur), x2, x3, some (false, .str wd), some (false, .str ls), some (false, .int n), x7, some (false, .lst l)]) ⟨_, _, rfl⟩ ?_ ?_
  · rintro env ⟨x3, l, rfl⟩
    exact hT
  · rintro i x env nx hi ⟨x3, l, rfl⟩ hnx
    exact ⟨_, rfl, _, rfl, call_told (all x (List.mem_of_getElem? hi)) ⟨_, rfl, iteF (hnx _ ⟨_, _, rfl⟩)⟩⟩
end K01

/-! The purse is made. -/
namespace K01
open PySem PySem.Spec PyProof.Rows L2 Evl BV
theorem sc_purse : FnScope N_purse ["_law_script"] (defScope s_purse) := ⟨rfl, rfl, rfl, by decide +kernel, rfl, by decide +kernel, by decide +kernel⟩
def spPurse (K : PySem.W.Frag) : Sp := fun vs H Q _ => ∃ (a : Addr) (ns : List Int), vs = [.ref a] ∧ SqL K H a (ns.map V.int) ∧ ns.length ≤ 63 ∧ ∀ (z : Pz) H', Pur z (fun _ => none) H' → Q (.ref z.p) H'
theorem cut_map {ns : List Int} {lo hi : Option Int} : cutV (ns.map V.int) lo hi = (BV.cutD ns lo hi).map V.int := by
  unfold cutV BV.cutD
  rw [List.length_map, ← List.map_drop, ← List.map_take]
section
variable {P : Program} {w : World} {K : PySem.W.Frag} {mg : Str → Option Value} {base : Heap}
theorem ok_purse {f : Addr} {fd : FuncData} (F : Fun K "_law_purse" "_law_purse" s_purse f fd) (ml : mg "len" = none) (ms : mg "sum" = none) : FnG P w K mg base CX0 1 f fd ["_law_script"] (spPurse K) := by
  have nd := sc_purse.nd
  refine fnG_of F sc_purse (fun vs H Q E ⟨a, ns, e, _⟩ => by rw [e]; rfl) fun cdv A out s H vs Q E hr gd ⟨a, ns, e, hS, hl, q⟩ => ?_
  subst e
  refine ⟨_, (pss_cons (ps_setLc (i := 1) (own := [("_law_cell", 2)]) (g := gName 2) (tt := tYes) rfl nd rfl rfl (sw_true rfl rfl rfl (by decide +kernel)) (pi_list (pe_slice sl_list (pv 0) po_none (po_some pe_int))) (blkOk_by (N := N_purse) (sc := defScope s_purse) (by decide +kernel)) (fun _ _ _ _ _ => pg_name (i := 2) nd rfl (Or.inl rfl)) (fun _ _ _ _ _ => pts_nil)
      (fun _ _ _ _ _ => pe_ifExp (pt_cmpR op_ge (pv 2) pe_int (nomark _)) (pe_op op_mul pe_int (pv 2)) (pe_op op_sub (pe_op op_mul (pe_un un_neg pe_int) (pv 2)) pe_int)))
    (pss_one (ps_ret (pe_lst (pa_cons (pe_lc (own := [("_law_cell", 2)]) (g := gName 2) (by rfl) nd (pi_list (pv 1)) (blkOk_by (N := N_purse) (sc := defScope s_purse) (by decide +kernel)) (fun _ _ _ _ _ => pg_name (i := 2) nd rfl (Or.inl rfl)) (fun _ _ _ _ _ => pts_one (pt_cmpR op_ge (pv 2) (pe_op op_pow pe_int pe_int) (nomark _))) (fun _ _ _ _ _ => pv 2))
      (pa_cons (pe_op op_cat (pv 1) (pe_lst (pa_cons (pe_op op_add (pe_callB call_len_seq (by rfl) ml PySem.boot_len (pa_cons (pv 1) pa_nil)) pe_int) pa_nil)))
      (pa_cons (pe_callB (cr_sum (by rfl)) (by rfl) ms (by rfl) (pa_cons (pv 1) pa_nil))
      (pa_cons pe_int pa_nil)))))) ) : PSs _ (defBody s_purse) _).nox, ?_⟩
  -- script[:63]
  refine ⟨.ref a, rfl, 63, rfl, a, ns.map V.int, rfl, hS, fun p hp => ⟨p, rfl, ⟨_, sq_of upd_same⟩, fun D hD => ?_⟩⟩
  rw [cut_map] at hD ⊢
  have hml : (BV.cutD ns none (some 63)).length ≤ 63 := by
    have : (BV.cutD ns none (some 63)).length ≤ ns.length := by
      simp only [BV.cutD, List.length_take, List.length_drop]
      omega
    omega
  generalize BV.cutD ns none (some 63) = cs at hD hml ⊢
  have npD : p ≠ D := fun e => by rw [e, upd_same] at hD; cases hD
  let g : Int → Int := fun c => if 0 ≤ c then 2 * c else -2 * c - 1
  refine lc_list (xs := cs.map V.int) (fun i H' => H' p = some (.lst (cs.map V.int)) ∧ H' D = some (.lst (((cs.take i).map g).map V.int))) ⟨by rw [upd_ne npD]; exact upd_same, by rw [upd_same]; rfl⟩ (fun i H' _ h => sq_of h.1) (fun i x H' hx h => ?_) (fun H' h => ?_)
  · rw [List.getElem?_map] at hx
    obtain ⟨c, hc, rfl⟩ := Option.map_eq_some_iff.mp hx
    have go : ∀ y, y = g c → ∃ acc, H' D = some (.lst acc) ∧ acc.length < sizeLine ∧ ((upd H' D (.lst (acc ++ [V.int y]))) p = some (.lst (cs.map V.int)) ∧ (upd H' D (.lst (acc ++ [V.int y]))) D = some (.lst (((cs.take (i + 1)).map g).map V.int))) := fun y hy => by
      refine ⟨_, h.2, ?_, by rw [upd_ne npD]; exact h.1, ?_⟩
      · have e : sizeLine = 16777216 := sizeLine_eq
        rw [List.length_map, List.length_map, List.length_take]
        omega
      · rw [upd_same, hy, List.take_add_one, hc]
        simp
    refine ⟨rfl, ?_⟩
    dsimp only [tYes]
    rw [if_pos rfl]
    refine ⟨.int c, rfl, c, 0, rfl, rfl, _, rfl, ite2 (fun hc0 => ?_) (fun hc0 => ?_)⟩
    · refine ⟨.int c, rfl, 2, c, rfl, rfl, .inl ⟨by decide, by decide⟩, go _ ?_⟩
      have : 0 ≤ c := of_decide_eq_true hc0
      exact (if_pos this).symm
    · refine ⟨2, rfl, .int c, rfl, -2, c, rfl, rfl, .inl ⟨by decide, by decide⟩, -2 * c, 1, rfl, rfl, go _ ?_⟩
      have : ¬ 0 ≤ c := fun z => hc0 (decide_eq_true z)
      exact (if_neg this).symm
  · rw [List.length_map, List.take_length] at h
    have hlen : (cs.map g).length ≤ 63 := by rw [List.length_map]; exact hml
    obtain ⟨_, hD1⟩ := h
    generalize cs.map g = ms' at hD1 hlen
    -- the great ones
    refine ⟨.ref D, rfl, D, rfl, ⟨_, sq_of hD1⟩, fun G hG => ?_⟩
    have nDG : D ≠ G := fun e => by rw [e] at hD1; rw [hD1] at hG; cases hG
    refine lc_list (xs := ms'.map V.int) (fun i H2 => H2 D = some (.lst (ms'.map V.int)) ∧ ∃ gs : List Int, gs.length ≤ i ∧ H2 G = some (.lst (gs.map V.int))) ⟨by rw [upd_ne nDG]; exact hD1, [], Nat.le_refl _, by rw [upd_same]; rfl⟩ (fun i H2 _ h => sq_of h.1) (fun i x H2 hx h => ?_) (fun H2 h => ?_)
    · rw [List.getElem?_map] at hx
      obtain ⟨c, hc, rfl⟩ := Option.map_eq_some_iff.mp hx
      obtain ⟨h1, gs, h2, h3⟩ := h
      have hi := (List.getElem?_eq_some_iff.mp hc).1
      refine ⟨rfl, .int c, rfl, 10, 18, rfl, rfl, ⟨by decide, by decide, by decide⟩, c, _, rfl, rfl, _, rfl, ite2 (fun _ => ?_) (fun _ => ?_)⟩
      · refine ⟨.int c, rfl, _, h3, ?_, by rw [upd_ne nDG]; exact h1, gs ++ [c], by simp; omega, by rw [upd_same]; simp⟩
        have e : sizeLine = 16777216 := sizeLine_eq
        rw [List.length_map]
        omega
      · exact ⟨h1, gs, by omega, h3⟩
    · rw [List.length_map] at h
      obtain ⟨h1, gs, h2, h3⟩ := h
      have e : sizeLine = 16777216 := sizeLine_eq
      -- cells + [len(cells) + 8191]
      refine ⟨.ref D, rfl, .ref D, rfl, D, _, rfl, .inl (sq_of h1), _, 8191, rfl, rfl, Nat.le_trans (by decide : 1 ≤ 16777216) (Nat.le_of_eq e.symm), fun q2 hq2 => ?_⟩
      have nDq : D ≠ q2 := fun e => by rw [e] at h1; rw [h1] at hq2; cases hq2
      have nGq : G ≠ q2 := fun e => by rw [e] at h3; rw [h3] at hq2; cases hq2
      have hD3 : (upd H2 q2 (.lst [.int ((ms'.map V.int).length + 8191)])) D = some (.lst (ms'.map V.int)) := by rw [upd_ne nDq]; exact h1
      have hG3 : (upd H2 q2 (.lst [.int ((ms'.map V.int).length + 8191)])) G = some (.lst (gs.map V.int)) := by rw [upd_ne nGq]; exact h3
      have hq3 : (upd H2 q2 (.lst [.int ((ms'.map V.int).length + 8191)])) q2 = some (.lst [.int ((ms'.map V.int).length + 8191)]) := upd_same
      refine ⟨D, q2, _, _, rfl, rfl, hD3, hq3, by rw [List.length_map, e]; simp; omega, fun C hC => ?_⟩
      generalize upd H2 q2 (.lst [.int ((ms'.map V.int).length + 8191)]) = H3 at hD3 hG3 hC ⊢
      have nDC : D ≠ C := fun e => by rw [e] at hD3; rw [hD3] at hC; cases hC
      have nGC : G ≠ C := fun e => by rw [e] at hG3; rw [hG3] at hC; cases hC
      have hD4 : (upd H3 C (.lst (ms'.map V.int ++ [.int ((ms'.map V.int).length + 8191)]))) D = some (.lst (ms'.map V.int)) := by rw [upd_ne nDC]; exact hD3
      have hG4 : (upd H3 C (.lst (ms'.map V.int ++ [.int ((ms'.map V.int).length + 8191)]))) G = some (.lst (gs.map V.int)) := by rw [upd_ne nGC]; exact hG3
      have hC4 : (upd H3 C (.lst (ms'.map V.int ++ [.int ((ms'.map V.int).length + 8191)]))) C = some (.lst ((ms' ++ [((ms'.map V.int).length : Int) + 8191]).map V.int)) := by rw [upd_same]; simp
      refine ⟨.ref D, rfl, D, ms', rfl, sq_of hD4, Nat.le_trans (by decide : 4 ≤ 16777216) (Nat.le_of_eq e.symm), fun p5 hp5 => ?_⟩
      generalize upd H3 C (.lst (ms'.map V.int ++ [.int ((ms'.map V.int).length + 8191)])) = H4 at hD4 hG4 hC4 hp5 ⊢
      have nGp : G ≠ p5 := fun e => by rw [e] at hG4; rw [hG4] at hp5; cases hp5
      have nCp : C ≠ p5 := fun e => by rw [e] at hC4; rw [hC4] at hp5; cases hp5
      refine q ⟨p5, G, C⟩ _ ⟨⟨gs, ms' ++ [((ms'.map V.int).length : Int) + 8191], ms'.sum, 0, upd_same, by rw [upd_ne nGp]; exact hG4, by rw [upd_ne nCp]; exact hC4, by omega, by simp, by simp; omega⟩, rfl, rfl, rfl, nGp.symm, nCp.symm, nGC⟩
end
end K01

namespace K01
open PySem PySem.Spec PyProof.Rows L2 Evl BV
def spLaw (K : PySem.W.Frag) : Sp := fun vs H Q _ => ∃ (a : Addr) (ns : List Int), vs = [.ref a] ∧ SqL K H a (ns.map V.int) ∧ ns.length ≤ 63 ∧ ∀ H', Q (.bl true) H'
theorem sc_law' : FnScope N_law ["_law_script"] (defScope s_law) := ⟨rfl, rfl, rfl, by decide +kernel, rfl, by decide +kernel, by decide +kernel⟩
theorem law_env : ∀ {i : Nat} {y : Bool × D}, ([none, some (false, .pur), none, none, none, none, none, none, none] : SEnv)[i]? = some (some y) → i = 1 ∧ y = (false, .pur)
  | 0, y, h => by simp at h
  | 1, y, h => by simp at h; exact ⟨rfl, h.symm⟩
  | 2, y, h => by simp at h
  | 3, y, h => by simp at h
  | 4, y, h => by simp at h
  | 5, y, h => by simp at h
  | 6, y, h => by simp at h
  | 7, y, h => by simp at h
  | 8, y, h => by simp at h
  | n + 9, y, h => by simp at h
theorem ok_law {P : Program} {w : World} {K : PySem.W.Frag} {mg : Str → Option Value} {base : Heap} {f fp : Addr} {fd fdp : FuncData} (F : Fun K "law" "law" s_law f fd)
    (Gp : FnG P w K mg base CX0 1 fp fdp ["_law_script"] (spPurse K)) (bp : Binds K fdp ["_law_script"] []) (kp : PySem.W.keepIn K (.ref fp) = true) (gp : mg "_law_purse" = some (.ref fp)) (bi_range : mg "range" = none) (bi_int : mg "int" = none) (bi_str : mg "str" = none) (G_thing : Kn P w K mg base "_law_thing" 8 ["_law_purse_here", "_law_deep"] (sp_thing 3)) (G_pick : Kn P w K mg base "_law_pick" 2 ["_law_purse_here", "_law_some"] sp_pick) (G_is_told : Kn P w K mg base "_law_is_told" 4 ["_law_thing_here"] sp_is_told) (G_wrapped : Kn P w K mg base "_law_wrapped" 2 ["_law_purse_here", "_law_thing_here"] sp_wrapped) (G_letters : Kn P w K mg base "_law_letters" 3 ["_law_purse_here", "_law_size"] sp_letters) (G_draw : Kn P w K mg base "_law_draw" 1 ["_law_purse_here", "_law_many"] spDraw) (G_is_told_near : Kn P w K mg base "_law_is_told_near" 5 ["_law_purse_here", "_law_text_here"] sp_is_told_near) (G_is_value : Kn P w K mg base "is_value" 3 ["value"] sp_is_value) (G_is_variable : Kn P w K mg base "is_variable" 2 ["value"] sp_is_variable) : FnG P w K mg base CX0 9 f fd ["_law_script"] (spLaw K) := by
  have nd := sc_law'.nd
  refine fnG_of F sc_law' (fun vs H Q E ⟨a, ns, e, _⟩ => by rw [e]; rfl) fun cdv A out s H vs Q E hr hgd ⟨a, ns, e, hS, hl, q⟩ => ?_
  subst e
  have rd := rd_law (E := E) (out := out) (s := s) (H := H) (cdv := cdv) (f := f) nd hr hgd bi_range bi_int bi_str G_thing G_pick G_is_told G_wrapped G_letters G_draw G_is_told_near G_is_value G_is_variable
  have rest : PSs (cxOf CX0 P w K mg base N_law "law" (defScope s_law) f cdv A out s H E).nox ((defBody s_law).drop 1) (fun N σ H => ∃ z C0 H0 Cb, liftS K z C0 H0 Cb (m_law (sp_thing 3) sp_pick sp_is_told sp_wrapped sp_letters spDraw sp_is_told_near sp_is_value sp_is_variable) N σ H) := ⟨fun pins s σ H N I ⟨z, C0, H0, Cb, q⟩ => (rd.run z C0 H0 Cb).run pins s σ H N I q⟩
  refine ⟨_, (pss_cons (ps_set (i := 1) nd rfl (by first | exact .inl rfl | exact .inr rfl) (pe_callG Gp (hr.mono (by decide)) hgd (by rfl) gp kp bp pass0 (pa_cons (pv 0) pa_nil) (by decide) (by rfl) (by rfl))) rest : PSs _ (defBody s_law) _).nox, ?_⟩
  refine ⟨.ref a, rfl, a, ns, rfl, hS, hl, fun z H1 pu => ?_⟩
  have o : Ok z (fun _ => none) H1 := ⟨fun b u e => (nomatch e), pu⟩
  refine ⟨z, fun _ => none, H1, fun _ => none, fun _ => none, [none, some (false, .pur), none, none, none, none, none, none, none], ⟨o, Tr.refl o, Ex.refl _, rfl, fun i d h => ?_, fun i d h => ?_, fun i j d e a h _ _ _ => ?_⟩, says_law _ fun v C' H' t dn => ?_⟩
  · obtain ⟨rfl, e⟩ := law_env h
    cases e
    exact ⟨.ref z.p, rfl, dn_pur.mpr rfl⟩
  · obtain ⟨_, e⟩ := law_env h
    cases e
  · obtain ⟨_, e⟩ := law_env h
    cases e
  · rw [dn_bl.mp dn]
    exact q H'
end K01

namespace K01
open PySem PySem.Spec PyProof.Rows L2 Evl BV
set_option maxHeartbeats 0 in
theorem all_mk {P : Program} {w : World} {K : PySem.W.Frag} {h : Heap} {mg : Str → Option Value} {fa : Addr} (X : K.In h) (G : h.Ns mainGlobals mg) (hfa : mg "law" = some (.ref fa))
    {f0 : Addr} {od0 an0 : Option Addr} {sl0 : Array (Option Value)} {oc0 kV0 dc0 pm0 cd0 ct0 : Value}
    (a0 : PySem.W.nsIn K mainGlobals "is_integer" = some (some (.ref f0))) (l0 : K.lookup f0 = some ⟨oc0, od0, .func (PySem.W.fnOf "is_integer" "is_integer" (defArgs s_is_integer) (defBody s_is_integer) (defScope s_is_integer) .none kV0 dc0 pm0 an0 cd0 ct0), sl0⟩) (c0 : PySem.W.codeIn K cd0 "is_integer" = true) (k0 : PySem.W.keepIn K (.ref f0) = true)
    {f1 : Addr} {od1 an1 : Option Addr} {sl1 : Array (Option Value)} {oc1 kV1 dc1 pm1 cd1 ct1 : Value}
    (a1 : PySem.W.nsIn K mainGlobals "is_lettered" = some (some (.ref f1))) (l1 : K.lookup f1 = some ⟨oc1, od1, .func (PySem.W.fnOf "is_lettered" "is_lettered" (defArgs s_is_lettered) (defBody s_is_lettered) (defScope s_is_lettered) .none kV1 dc1 pm1 an1 cd1 ct1), sl1⟩) (c1 : PySem.W.codeIn K cd1 "is_lettered" = true) (k1 : PySem.W.keepIn K (.ref f1) = true)
    {f2 : Addr} {od2 an2 : Option Addr} {sl2 : Array (Option Value)} {oc2 kV2 dc2 pm2 cd2 ct2 : Value}
    (a2 : PySem.W.nsIn K mainGlobals "is_word" = some (some (.ref f2))) (l2 : K.lookup f2 = some ⟨oc2, od2, .func (PySem.W.fnOf "is_word" "is_word" (defArgs s_is_word) (defBody s_is_word) (defScope s_is_word) .none kV2 dc2 pm2 an2 cd2 ct2), sl2⟩) (c2 : PySem.W.codeIn K cd2 "is_word" = true) (k2 : PySem.W.keepIn K (.ref f2) = true)
    {f3 : Addr} {od3 an3 : Option Addr} {sl3 : Array (Option Value)} {oc3 kV3 dc3 pm3 cd3 ct3 : Value}
    (a3 : PySem.W.nsIn K mainGlobals "is_value" = some (some (.ref f3))) (l3 : K.lookup f3 = some ⟨oc3, od3, .func (PySem.W.fnOf "is_value" "is_value" (defArgs s_is_value) (defBody s_is_value) (defScope s_is_value) .none kV3 dc3 pm3 an3 cd3 ct3), sl3⟩) (c3 : PySem.W.codeIn K cd3 "is_value" = true) (k3 : PySem.W.keepIn K (.ref f3) = true)
    {f4 : Addr} {od4 an4 : Option Addr} {sl4 : Array (Option Value)} {oc4 kV4 dc4 pm4 cd4 ct4 : Value}
    (a4 : PySem.W.nsIn K mainGlobals "is_mark" = some (some (.ref f4))) (l4 : K.lookup f4 = some ⟨oc4, od4, .func (PySem.W.fnOf "is_mark" "is_mark" (defArgs s_is_mark) (defBody s_is_mark) (defScope s_is_mark) .none kV4 dc4 pm4 an4 cd4 ct4), sl4⟩) (c4 : PySem.W.codeIn K cd4 "is_mark" = true) (k4 : PySem.W.keepIn K (.ref f4) = true)
    {f5 : Addr} {od5 an5 : Option Addr} {sl5 : Array (Option Value)} {oc5 kV5 dc5 pm5 cd5 ct5 : Value}
    (a5 : PySem.W.nsIn K mainGlobals "is_variable" = some (some (.ref f5))) (l5 : K.lookup f5 = some ⟨oc5, od5, .func (PySem.W.fnOf "is_variable" "is_variable" (defArgs s_is_variable) (defBody s_is_variable) (defScope s_is_variable) .none kV5 dc5 pm5 an5 cd5 ct5), sl5⟩) (c5 : PySem.W.codeIn K cd5 "is_variable" = true) (k5 : PySem.W.keepIn K (.ref f5) = true)
    {f6 : Addr} {od6 an6 : Option Addr} {sl6 : Array (Option Value)} {oc6 kV6 dc6 pm6 cd6 ct6 : Value}
    (a6 : PySem.W.nsIn K mainGlobals "_law_purse" = some (some (.ref f6))) (l6 : K.lookup f6 = some ⟨oc6, od6, .func (PySem.W.fnOf "_law_purse" "_law_purse" (defArgs s_purse) (defBody s_purse) (defScope s_purse) .none kV6 dc6 pm6 an6 cd6 ct6), sl6⟩) (c6 : PySem.W.codeIn K cd6 "_law_purse" = true) (k6 : PySem.W.keepIn K (.ref f6) = true)
    {f7 : Addr} {od7 an7 : Option Addr} {sl7 : Array (Option Value)} {oc7 kV7 dc7 pm7 cd7 ct7 : Value}
    (a7 : PySem.W.nsIn K mainGlobals "_law_draw" = some (some (.ref f7))) (l7 : K.lookup f7 = some ⟨oc7, od7, .func (PySem.W.fnOf "_law_draw" "_law_draw" (defArgs s_draw) (defBody s_draw) (defScope s_draw) .none kV7 dc7 pm7 an7 cd7 ct7), sl7⟩) (c7 : PySem.W.codeIn K cd7 "_law_draw" = true) (k7 : PySem.W.keepIn K (.ref f7) = true)
    {f8 : Addr} {od8 an8 : Option Addr} {sl8 : Array (Option Value)} {oc8 kV8 dc8 pm8 cd8 ct8 : Value}
    (a8 : PySem.W.nsIn K mainGlobals "_law_pick" = some (some (.ref f8))) (l8 : K.lookup f8 = some ⟨oc8, od8, .func (PySem.W.fnOf "_law_pick" "_law_pick" (defArgs s_pick) (defBody s_pick) (defScope s_pick) .none kV8 dc8 pm8 an8 cd8 ct8), sl8⟩) (c8 : PySem.W.codeIn K cd8 "_law_pick" = true) (k8 : PySem.W.keepIn K (.ref f8) = true)
    {f9 : Addr} {od9 an9 : Option Addr} {sl9 : Array (Option Value)} {oc9 kV9 dc9 pm9 cd9 ct9 : Value}
    (a9 : PySem.W.nsIn K mainGlobals "_law_figures" = some (some (.ref f9))) (l9 : K.lookup f9 = some ⟨oc9, od9, .func (PySem.W.fnOf "_law_figures" "_law_figures" (defArgs s_figures) (defBody s_figures) (defScope s_figures) .none kV9 dc9 pm9 an9 cd9 ct9), sl9⟩) (c9 : PySem.W.codeIn K cd9 "_law_figures" = true) (k9 : PySem.W.keepIn K (.ref f9) = true)
    {f10 : Addr} {od10 an10 : Option Addr} {sl10 : Array (Option Value)} {oc10 kV10 dc10 pm10 cd10 ct10 : Value}
    (a10 : PySem.W.nsIn K mainGlobals "_law_letters" = some (some (.ref f10))) (l10 : K.lookup f10 = some ⟨oc10, od10, .func (PySem.W.fnOf "_law_letters" "_law_letters" (defArgs s_letters) (defBody s_letters) (defScope s_letters) .none kV10 dc10 pm10 an10 cd10 ct10), sl10⟩) (c10 : PySem.W.codeIn K cd10 "_law_letters" = true) (k10 : PySem.W.keepIn K (.ref f10) = true)
    {f11 : Addr} {od11 an11 : Option Addr} {sl11 : Array (Option Value)} {oc11 kV11 dc11 pm11 cd11 ct11 : Value}
    (a11 : PySem.W.nsIn K mainGlobals "_law_integer" = some (some (.ref f11))) (l11 : K.lookup f11 = some ⟨oc11, od11, .func (PySem.W.fnOf "_law_integer" "_law_integer" (defArgs s_integer) (defBody s_integer) (defScope s_integer) .none kV11 dc11 pm11 an11 cd11 ct11), sl11⟩) (c11 : PySem.W.codeIn K cd11 "_law_integer" = true) (k11 : PySem.W.keepIn K (.ref f11) = true)
    {f12 : Addr} {od12 an12 : Option Addr} {sl12 : Array (Option Value)} {oc12 kV12 dc12 pm12 cd12 ct12 : Value}
    (a12 : PySem.W.nsIn K mainGlobals "_law_mark" = some (some (.ref f12))) (l12 : K.lookup f12 = some ⟨oc12, od12, .func (PySem.W.fnOf "_law_mark" "_law_mark" (defArgs s_mark) (defBody s_mark) (defScope s_mark) .none kV12 dc12 pm12 an12 cd12 ct12), sl12⟩) (c12 : PySem.W.codeIn K cd12 "_law_mark" = true) (k12 : PySem.W.keepIn K (.ref f12) = true)
    {f13 : Addr} {od13 an13 : Option Addr} {sl13 : Array (Option Value)} {oc13 kV13 dc13 pm13 cd13 ct13 : Value}
    (a13 : PySem.W.nsIn K mainGlobals "_law_text" = some (some (.ref f13))) (l13 : K.lookup f13 = some ⟨oc13, od13, .func (PySem.W.fnOf "_law_text" "_law_text" (defArgs s_text) (defBody s_text) (defScope s_text) .none kV13 dc13 pm13 an13 cd13 ct13), sl13⟩) (c13 : PySem.W.codeIn K cd13 "_law_text" = true) (k13 : PySem.W.keepIn K (.ref f13) = true)
    {f14 : Addr} {od14 an14 : Option Addr} {sl14 : Array (Option Value)} {oc14 kV14 dc14 pm14 cd14 ct14 : Value}
    (a14 : PySem.W.nsIn K mainGlobals "_law_spoilt" = some (some (.ref f14))) (l14 : K.lookup f14 = some ⟨oc14, od14, .func (PySem.W.fnOf "_law_spoilt" "_law_spoilt" (defArgs s_spoilt) (defBody s_spoilt) (defScope s_spoilt) .none kV14 dc14 pm14 an14 cd14 ct14), sl14⟩) (c14 : PySem.W.codeIn K cd14 "_law_spoilt" = true) (k14 : PySem.W.keepIn K (.ref f14) = true)
    {f15 : Addr} {od15 an15 : Option Addr} {sl15 : Array (Option Value)} {oc15 kV15 dc15 pm15 cd15 ct15 : Value}
    (a15 : PySem.W.nsIn K mainGlobals "_law_thing" = some (some (.ref f15))) (l15 : K.lookup f15 = some ⟨oc15, od15, .func (PySem.W.fnOf "_law_thing" "_law_thing" (defArgs s_thing) (defBody s_thing) (defScope s_thing) .none kV15 dc15 pm15 an15 cd15 ct15), sl15⟩) (c15 : PySem.W.codeIn K cd15 "_law_thing" = true) (k15 : PySem.W.keepIn K (.ref f15) = true)
    {f16 : Addr} {od16 an16 : Option Addr} {sl16 : Array (Option Value)} {oc16 kV16 dc16 pm16 cd16 ct16 : Value}
    (a16 : PySem.W.nsIn K mainGlobals "_law_wrapped" = some (some (.ref f16))) (l16 : K.lookup f16 = some ⟨oc16, od16, .func (PySem.W.fnOf "_law_wrapped" "_law_wrapped" (defArgs s_wrapped) (defBody s_wrapped) (defScope s_wrapped) .none kV16 dc16 pm16 an16 cd16 ct16), sl16⟩) (c16 : PySem.W.codeIn K cd16 "_law_wrapped" = true) (k16 : PySem.W.keepIn K (.ref f16) = true)
    {f17 : Addr} {od17 an17 : Option Addr} {sl17 : Array (Option Value)} {oc17 kV17 dc17 pm17 cd17 ct17 : Value}
    (a17 : PySem.W.nsIn K mainGlobals "_law_are_signs" = some (some (.ref f17))) (l17 : K.lookup f17 = some ⟨oc17, od17, .func (PySem.W.fnOf "_law_are_signs" "_law_are_signs" (defArgs s_are_signs) (defBody s_are_signs) (defScope s_are_signs) .none kV17 dc17 pm17 an17 cd17 ct17), sl17⟩) (c17 : PySem.W.codeIn K cd17 "_law_are_signs" = true) (k17 : PySem.W.keepIn K (.ref f17) = true)
    {f18 : Addr} {od18 an18 : Option Addr} {sl18 : Array (Option Value)} {oc18 kV18 dc18 pm18 cd18 ct18 : Value}
    (a18 : PySem.W.nsIn K mainGlobals "_law_is_value" = some (some (.ref f18))) (l18 : K.lookup f18 = some ⟨oc18, od18, .func (PySem.W.fnOf "_law_is_value" "_law_is_value" (defArgs s_lis_value) (defBody s_lis_value) (defScope s_lis_value) .none kV18 dc18 pm18 an18 cd18 ct18), sl18⟩) (c18 : PySem.W.codeIn K cd18 "_law_is_value" = true) (k18 : PySem.W.keepIn K (.ref f18) = true)
    {f19 : Addr} {od19 an19 : Option Addr} {sl19 : Array (Option Value)} {oc19 kV19 dc19 pm19 cd19 ct19 : Value}
    (a19 : PySem.W.nsIn K mainGlobals "_law_is_variable" = some (some (.ref f19))) (l19 : K.lookup f19 = some ⟨oc19, od19, .func (PySem.W.fnOf "_law_is_variable" "_law_is_variable" (defArgs s_lis_variable) (defBody s_lis_variable) (defScope s_lis_variable) .none kV19 dc19 pm19 an19 cd19 ct19), sl19⟩) (c19 : PySem.W.codeIn K cd19 "_law_is_variable" = true) (k19 : PySem.W.keepIn K (.ref f19) = true)
    {f20 : Addr} {od20 an20 : Option Addr} {sl20 : Array (Option Value)} {oc20 kV20 dc20 pm20 cd20 ct20 : Value}
    (a20 : PySem.W.nsIn K mainGlobals "_law_is_told" = some (some (.ref f20))) (l20 : K.lookup f20 = some ⟨oc20, od20, .func (PySem.W.fnOf "_law_is_told" "_law_is_told" (defArgs s_is_told) (defBody s_is_told) (defScope s_is_told) .none kV20 dc20 pm20 an20 cd20 ct20), sl20⟩) (c20 : PySem.W.codeIn K cd20 "_law_is_told" = true) (k20 : PySem.W.keepIn K (.ref f20) = true)
    {f21 : Addr} {od21 an21 : Option Addr} {sl21 : Array (Option Value)} {oc21 kV21 dc21 pm21 cd21 ct21 : Value}
    (a21 : PySem.W.nsIn K mainGlobals "_law_is_told_near" = some (some (.ref f21))) (l21 : K.lookup f21 = some ⟨oc21, od21, .func (PySem.W.fnOf "_law_is_told_near" "_law_is_told_near" (defArgs s_is_told_near) (defBody s_is_told_near) (defScope s_is_told_near) .none kV21 dc21 pm21 an21 cd21 ct21), sl21⟩) (c21 : PySem.W.codeIn K cd21 "_law_is_told_near" = true) (k21 : PySem.W.keepIn K (.ref f21) = true)
    {f22 : Addr} {od22 an22 : Option Addr} {sl22 : Array (Option Value)} {oc22 kV22 dc22 pm22 cd22 ct22 : Value}
    (a22 : PySem.W.nsIn K mainGlobals "law" = some (some (.ref f22))) (l22 : K.lookup f22 = some ⟨oc22, od22, .func (PySem.W.fnOf "law" "law" (defArgs s_law) (defBody s_law) (defScope s_law) .none kV22 dc22 pm22 an22 cd22 ct22), sl22⟩) (c22 : PySem.W.codeIn K cd22 "law" = true) (k22 : PySem.W.keepIn K (.ref f22) = true)
    (z0 : PySem.W.nsIn K mainGlobals "bool" = some none)
    (z1 : PySem.W.nsIn K mainGlobals "int" = some none)
    (z2 : PySem.W.nsIn K mainGlobals "isinstance" = some none)
    (z3 : PySem.W.nsIn K mainGlobals "len" = some none)
    (z4 : PySem.W.nsIn K mainGlobals "range" = some none)
    (z5 : PySem.W.nsIn K mainGlobals "repr" = some none)
    (z6 : PySem.W.nsIn K mainGlobals "str" = some none)
    (z7 : PySem.W.nsIn K mainGlobals "sum" = some none)
    (z8 : PySem.W.nsIn K mainGlobals "tuple" = some none)
    {t0 : Tok} (y0 : PySem.W.nsIn K mainGlobals "MAX_LETTERS" = some (some (.int 3 t0)))
    {t1 : Tok} (y1 : PySem.W.nsIn K mainGlobals "MAX_NUMBER" = some (some (.int 1000000000 t1)))
    {t2 : Tok} (y2 : PySem.W.nsIn K mainGlobals "MAX_WORD" = some (some (.int 12 t2))) :
    ∃ fd : FuncData, (∀ (s : Shared) (v : Value), BindsTo s fd ⟨[v], []⟩ [("_law_script", v)]) ∧ ∀ base : Heap, K.In base → base.Ns mainGlobals mg → FnG P w K mg base CX0 9 fa fd ["_law_script"] (spLaw K) := by
  have e := hfa.symm.trans (PySem.W.mg_of X G a22)
  cases e
  have F0 := fun_mk (st := s_is_integer) l0 c0 k0
  have b0 := F0.binds (ps := ["value"]) fun _ _ _ _ _ _ us hl => match us, hl with | [_], _ => rfl
  have g0 := PySem.W.mg_of X G a0
  have F1 := fun_mk (st := s_is_lettered) l1 c1 k1
  have b1 := F1.binds (ps := ["text", "most"]) fun _ _ _ _ _ _ us hl => match us, hl with | [_, _], _ => rfl
  have g1 := PySem.W.mg_of X G a1
  have F2 := fun_mk (st := s_is_word) l2 c2 k2
  have b2 := F2.binds (ps := ["value"]) fun _ _ _ _ _ _ us hl => match us, hl with | [_], _ => rfl
  have g2 := PySem.W.mg_of X G a2
  have F3 := fun_mk (st := s_is_value) l3 c3 k3
  have b3 := F3.binds (ps := ["value"]) fun _ _ _ _ _ _ us hl => match us, hl with | [_], _ => rfl
  have g3 := PySem.W.mg_of X G a3
  have kb3 := BV.Fun.kwb F3 (ps := ["value"]) fun _ _ _ _ _ _ ws hl => match ws, hl with | [_], _ => rfl
  have F4 := fun_mk (st := s_is_mark) l4 c4 k4
  have b4 := F4.binds (ps := ["figures"]) fun _ _ _ _ _ _ us hl => match us, hl with | [_], _ => rfl
  have g4 := PySem.W.mg_of X G a4
  have F5 := fun_mk (st := s_is_variable) l5 c5 k5
  have b5 := F5.binds (ps := ["value"]) fun _ _ _ _ _ _ us hl => match us, hl with | [_], _ => rfl
  have g5 := PySem.W.mg_of X G a5
  have kb5 := BV.Fun.kwb F5 (ps := ["value"]) fun _ _ _ _ _ _ ws hl => match ws, hl with | [_], _ => rfl
  have F6 := fun_mk (st := s_purse) l6 c6 k6
  have b6 := F6.binds (ps := ["_law_script"]) fun _ _ _ _ _ _ us hl => match us, hl with | [_], _ => rfl
  have g6 := PySem.W.mg_of X G a6
  have F7 := fun_mk (st := s_draw) l7 c7 k7
  have b7 := F7.binds (ps := ["_law_purse_here", "_law_many"]) fun _ _ _ _ _ _ us hl => match us, hl with | [_, _], _ => rfl
  have g7 := PySem.W.mg_of X G a7
  have F8 := fun_mk (st := s_pick) l8 c8 k8
  have b8 := F8.binds (ps := ["_law_purse_here", "_law_some"]) fun _ _ _ _ _ _ us hl => match us, hl with | [_, _], _ => rfl
  have g8 := PySem.W.mg_of X G a8
  have F9 := fun_mk (st := s_figures) l9 c9 k9
  have b9 := F9.binds (ps := ["_law_purse_here", "_law_size"]) fun _ _ _ _ _ _ us hl => match us, hl with | [_, _], _ => rfl
  have g9 := PySem.W.mg_of X G a9
  have F10 := fun_mk (st := s_letters) l10 c10 k10
  have b10 := F10.binds (ps := ["_law_purse_here", "_law_size"]) fun _ _ _ _ _ _ us hl => match us, hl with | [_, _], _ => rfl
  have g10 := PySem.W.mg_of X G a10
  have F11 := fun_mk (st := s_integer) l11 c11 k11
  have b11 := F11.binds (ps := ["_law_purse_here"]) fun _ _ _ _ _ _ us hl => match us, hl with | [_], _ => rfl
  have g11 := PySem.W.mg_of X G a11
  have F12 := fun_mk (st := s_mark) l12 c12 k12
  have b12 := F12.binds (ps := ["_law_purse_here"]) fun _ _ _ _ _ _ us hl => match us, hl with | [_], _ => rfl
  have g12 := PySem.W.mg_of X G a12
  have F13 := fun_mk (st := s_text) l13 c13 k13
  have b13 := F13.binds (ps := ["_law_purse_here"]) fun _ _ _ _ _ _ us hl => match us, hl with | [_], _ => rfl
  have g13 := PySem.W.mg_of X G a13
  have F14 := fun_mk (st := s_spoilt) l14 c14 k14
  have b14 := F14.binds (ps := ["_law_purse_here", "_law_text_here", "_law_at", "_law_way"]) fun _ _ _ _ _ _ us hl => match us, hl with | [_, _, _, _], _ => rfl
  have g14 := PySem.W.mg_of X G a14
  have F15 := fun_mk (st := s_thing) l15 c15 k15
  have b15 := F15.binds (ps := ["_law_purse_here", "_law_deep"]) fun _ _ _ _ _ _ us hl => match us, hl with | [_, _], _ => rfl
  have g15 := PySem.W.mg_of X G a15
  have F16 := fun_mk (st := s_wrapped) l16 c16 k16
  have b16 := F16.binds (ps := ["_law_purse_here", "_law_thing_here"]) fun _ _ _ _ _ _ us hl => match us, hl with | [_, _], _ => rfl
  have g16 := PySem.W.mg_of X G a16
  have F17 := fun_mk (st := s_are_signs) l17 c17 k17
  have b17 := F17.binds (ps := ["_law_text_here", "_law_signs"]) fun _ _ _ _ _ _ us hl => match us, hl with | [_, _], _ => rfl
  have g17 := PySem.W.mg_of X G a17
  have F18 := fun_mk (st := s_lis_value) l18 c18 k18
  have b18 := F18.binds (ps := ["_law_thing_here"]) fun _ _ _ _ _ _ us hl => match us, hl with | [_], _ => rfl
  have g18 := PySem.W.mg_of X G a18
  have F19 := fun_mk (st := s_lis_variable) l19 c19 k19
  have b19 := F19.binds (ps := ["_law_thing_here"]) fun _ _ _ _ _ _ us hl => match us, hl with | [_], _ => rfl
  have g19 := PySem.W.mg_of X G a19
  have F20 := fun_mk (st := s_is_told) l20 c20 k20
  have b20 := F20.binds (ps := ["_law_thing_here"]) fun _ _ _ _ _ _ us hl => match us, hl with | [_], _ => rfl
  have g20 := PySem.W.mg_of X G a20
  have F21 := fun_mk (st := s_is_told_near) l21 c21 k21
  have b21 := F21.binds (ps := ["_law_purse_here", "_law_text_here"]) fun _ _ _ _ _ _ us hl => match us, hl with | [_, _], _ => rfl
  have g21 := PySem.W.mg_of X G a21
  have F22 := fun_mk (st := s_law) l22 c22 k22
  have bi_bool := PySem.W.mg_none_of X G z0
  have bi_int := PySem.W.mg_none_of X G z1
  have bi_isinstance := PySem.W.mg_none_of X G z2
  have bi_len := PySem.W.mg_none_of X G z3
  have bi_range := PySem.W.mg_none_of X G z4
  have bi_repr := PySem.W.mg_none_of X G z5
  have bi_str := PySem.W.mg_none_of X G z6
  have bi_sum := PySem.W.mg_none_of X G z7
  have bi_tuple := PySem.W.mg_none_of X G z8
  have gi_MAX_LETTERS : ∃ u, mg "MAX_LETTERS" = some u ∧ RelV (.int 3) u := ⟨_, PySem.W.mg_of X G y0, _, rfl⟩
  have gi_MAX_NUMBER : ∃ u, mg "MAX_NUMBER" = some u ∧ RelV (.int 1000000000) u := ⟨_, PySem.W.mg_of X G y1, _, rfl⟩
  have gi_MAX_WORD : ∃ u, mg "MAX_WORD" = some u ∧ RelV (.int 12) u := ⟨_, PySem.W.mg_of X G y2, _, rfl⟩
  refine ⟨PySem.W.fnOf "law" "law" (defArgs s_law) (defBody s_law) (defScope s_law) .none kV22 dc22 pm22 an22 cd22 ct22, fun s v => .of_eq rfl, fun base _ _ => ?_⟩
  have G_draw : Kn P w K mg base "_law_draw" 1 ["_law_purse_here", "_law_many"] spDraw := ⟨_, _, ok_draw F7 bi_len bi_int, b7, k7, g7⟩
  have G_is_integer : Kn P w K mg base "is_integer" 1 ["value"] sp_is_integer := Kn.says ⟨_, _, ok_is_integer F0 bi_isinstance bi_int bi_bool, b0, k0, g0⟩ says_is_integer
  have G_is_lettered : Kn P w K mg base "is_lettered" 1 ["text", "most"] sp_is_lettered := Kn.says ⟨_, _, ok_is_lettered F1 bi_len, b1, k1, g1⟩ says_is_lettered
  have G_is_word : Kn P w K mg base "is_word" 2 ["value"] sp_is_word := Kn.says ⟨_, _, ok_is_word F2 bi_isinstance bi_str gi_MAX_WORD G_is_lettered, b2, k2, g2⟩ says_is_word
  have GK_is_value : KnK P w K mg base "is_value" 3 ["value"] sp_is_value := KnK.says ⟨_, _, ok_is_value F3 gi_MAX_NUMBER G_is_integer G_is_word, b3, k3, g3, kb3⟩ says_is_value
  have G_is_value := GK_is_value.kn
  have G_is_mark : Kn P w K mg base "is_mark" 1 ["figures"] sp_is_mark := Kn.says ⟨_, _, ok_is_mark F4 bi_len bi_str bi_int gi_MAX_NUMBER, b4, k4, g4⟩ says_is_mark
  have GK_is_variable : KnK P w K mg base "is_variable" 2 ["value"] sp_is_variable := KnK.says ⟨_, _, ok_is_variable F5 bi_isinstance bi_str gi_MAX_LETTERS G_is_lettered G_is_mark, b5, k5, g5, kb5⟩ says_is_variable
  have G_is_variable := GK_is_variable.kn
  have G_pick : Kn P w K mg base "_law_pick" 2 ["_law_purse_here", "_law_some"] sp_pick := Kn.says ⟨_, _, ok_pick F8 bi_len G_draw, b8, k8, g8⟩ says_pick
  have G_figures : Kn P w K mg base "_law_figures" 2 ["_law_purse_here", "_law_size"] sp_figures := Kn.says ⟨_, _, ok_figures F9 bi_range bi_str G_draw, b9, k9, g9⟩ says_figures
  have G_letters : Kn P w K mg base "_law_letters" 3 ["_law_purse_here", "_law_size"] sp_letters := Kn.says ⟨_, _, ok_letters F10 bi_range G_draw G_pick, b10, k10, g10⟩ says_letters
  have G_integer : Kn P w K mg base "_law_integer" 3 ["_law_purse_here"] sp_integer := Kn.says ⟨_, _, ok_integer F11 bi_int G_draw G_pick G_figures, b11, k11, g11⟩ says_integer
  have G_mark : Kn P w K mg base "_law_mark" 3 ["_law_purse_here"] sp_mark := Kn.says ⟨_, _, ok_mark F12 bi_str bi_int G_figures G_draw G_pick, b12, k12, g12⟩ says_mark
  have G_text : Kn P w K mg base "_law_text" 4 ["_law_purse_here"] sp_text := Kn.says ⟨_, _, ok_text F13 G_draw G_letters G_pick G_mark, b13, k13, g13⟩ says_text
  have G_spoilt : Kn P w K mg base "_law_spoilt" 3 ["_law_purse_here", "_law_text_here", "_law_at", "_law_way"] sp_spoilt := Kn.says ⟨_, _, ok_spoilt F14 G_pick, b14, k14, g14⟩ says_spoilt
  have R_thing : ∀ n : Nat, Kn P w K mg base "_law_thing" (4 + n) ["_law_purse_here", "_law_deep"] (prev_thing n) := fun n => by
    induction n with
    | zero => exact Kn.vac b15 k15 g15
    | succ n ih => exact Kn.says ⟨_, _, ok_thing F15 (jj := 4 + n) (Nat.le_add_right _ _) bi_range bi_tuple bi_int bi_len G_draw G_pick G_integer G_text G_spoilt ih, b15, k15, g15⟩ (says_thing n)
  have G_thing : Kn P w K mg base "_law_thing" 8 ["_law_purse_here", "_law_deep"] (sp_thing 3) := R_thing 4
  have G_wrapped : Kn P w K mg base "_law_wrapped" 2 ["_law_purse_here", "_law_thing_here"] sp_wrapped := Kn.says ⟨_, _, ok_wrapped F16 bi_range G_draw, b16, k16, g16⟩ says_wrapped
  have G_are_signs : Kn P w K mg base "_law_are_signs" 1 ["_law_text_here", "_law_signs"] sp_are_signs := Kn.says ⟨_, _, ok_are_signs F17 , b17, k17, g17⟩ says_are_signs
  have G_lis_value : Kn P w K mg base "_law_is_value" 2 ["_law_thing_here"] sp_is_value := Kn.says ⟨_, _, ok_lis_value F18 bi_isinstance bi_bool bi_int bi_str bi_len G_are_signs, b18, k18, g18⟩ says_lis_value
  have G_lis_variable : Kn P w K mg base "_law_is_variable" 2 ["_law_thing_here"] sp_is_variable := Kn.says ⟨_, _, ok_lis_variable F19 bi_isinstance bi_str bi_len bi_int G_are_signs, b19, k19, g19⟩ says_lis_variable
  have G_is_told : Kn P w K mg base "_law_is_told" 4 ["_law_thing_here"] sp_is_told := Kn.says ⟨_, _, ok_is_told F20 bi_repr G_lis_variable G_lis_value GK_is_variable GK_is_value, b20, k20, g20⟩ says_is_told
  have G_is_told_near : Kn P w K mg base "_law_is_told_near" 5 ["_law_purse_here", "_law_text_here"] sp_is_told_near := Kn.says ⟨_, _, ok_is_told_near F21 bi_range bi_len G_is_told G_spoilt, b21, k21, g21⟩ says_is_told_near
  exact ok_law F22 (ok_purse F6 bi_len bi_sum) b6 k6 g6 bi_range bi_int bi_str G_thing G_pick G_is_told G_wrapped G_letters G_draw G_is_told_near G_is_value G_is_variable
end K01
open PySem PySem.W PyProof.Rows
set_option maxHeartbeats 0 in
theorem PySem.Challenge.cw_onlywith_k01_words_numbers_and_variables_holds : PySem.Challenge.rw_onlywith_k01_words_numbers_and_variables.Holds := by
  w_on; o_law; k_head; (case hw => w_witness2)
  k_fill
  refine BV.end_walk (l := PySem.Challenge.rw_onlywith_k01_words_numbers_and_variables) (n := 63) (k := 9) (x := "_law_script") (CX := fun _ => L2.CX0) (sp := fun w => K01.spLaw _) rfl (by decide) rfl ⟨rfl, by decide, by decide⟩ (fun w h Y => PySem.W.kIn_of Y) ?F (fun _ _ a ns hl _ hS => ⟨a, ns, rfl, hS, hl, fun _ => rfl⟩) (fun _ _ _ _ _ h => h)
  case F =>
    intro w mg fa h KX G hmg
    refine' K01.all_mk KX G hmg ?a0 ?l0 ?c0 ?k0 ?a1 ?l1 ?c1 ?k1 ?a2 ?l2 ?c2 ?k2 ?a3 ?l3 ?c3 ?k3 ?a4 ?l4 ?c4 ?k4 ?a5 ?l5 ?c5 ?k5 ?a6 ?l6 ?c6 ?k6 ?a7 ?l7 ?c7 ?k7 ?a8 ?l8 ?c8 ?k8 ?a9 ?l9 ?c9 ?k9 ?a10 ?l10 ?c10 ?k10 ?a11 ?l11 ?c11 ?k11 ?a12 ?l12 ?c12 ?k12 ?a13 ?l13 ?c13 ?k13 ?a14 ?l14 ?c14 ?k14 ?a15 ?l15 ?c15 ?k15 ?a16 ?l16 ?c16 ?k16 ?a17 ?l17 ?c17 ?k17 ?a18 ?l18 ?c18 ?k18 ?a19 ?l19 ?c19 ?k19 ?a20 ?l20 ?c20 ?k20 ?a21 ?l21 ?c21 ?k21 ?a22 ?l22 ?c22 ?k22 ?z0 ?z1 ?z2 ?z3 ?z4 ?z5 ?z6 ?z7 ?z8 ?y0 ?y1 ?y2
    (case a0 => k_is); (case l0 => k_is); (case c0 => k_is); (case k0 => k_is); (case a1 => k_is); (case l1 => k_is); (case c1 => k_is); (case k1 => k_is); (case a2 => k_is); (case l2 => k_is); (case c2 => k_is); (case k2 => k_is); (case a3 => k_is); (case l3 => k_is); (case c3 => k_is); (case k3 => k_is); (case a4 => k_is); (case l4 => k_is); (case c4 => k_is); (case k4 => k_is); (case a5 => k_is); (case l5 => k_is); (case c5 => k_is); (case k5 => k_is); (case a6 => k_is); (case l6 => k_is); (case c6 => k_is); (case k6 => k_is); (case a7 => k_is); (case l7 => k_is); (case c7 => k_is); (case k7 => k_is); (case a8 => k_is); (case l8 => k_is); (case c8 => k_is); (case k8 => k_is); (case a9 => k_is); (case l9 => k_is); (case c9 => k_is); (case k9 => k_is); (case a10 => k_is); (case l10 => k_is); (case c10 => k_is); (case k10 => k_is); (case a11 => k_is); (case l11 => k_is); (case c11 => k_is); (case k11 => k_is); (case a12 => k_is); (case l12 => k_is); (case c12 => k_is); (case k12 => k_is); (case a13 => k_is); (case l13 => k_is); (case c13 => k_is); (case k13 => k_is); (case a14 => k_is); (case l14 => k_is); (case c14 => k_is); (case k14 => k_is); (case a15 => k_is); (case l15 => k_is); (case c15 => k_is); (case k15 => k_is); (case a16 => k_is); (case l16 => k_is); (case c16 => k_is); (case k16 => k_is); (case a17 => k_is); (case l17 => k_is); (case c17 => k_is); (case k17 => k_is); (case a18 => k_is); (case l18 => k_is); (case c18 => k_is); (case k18 => k_is); (case a19 => k_is); (case l19 => k_is); (case c19 => k_is); (case k19 => k_is); (case a20 => k_is); (case l20 => k_is); (case c20 => k_is); (case k20 => k_is); (case a21 => k_is); (case l21 => k_is); (case c21 => k_is); (case k21 => k_is); (case a22 => k_is); (case l22 => k_is); (case c22 => k_is); (case k22 => k_is); (case z0 => k_is); (case z1 => k_is); (case z2 => k_is); (case z3 => k_is); (case z4 => k_is); (case z5 => k_is); (case z6 => k_is); (case z7 => k_is); (case z8 => k_is); (case y0 => k_is); (case y1 => k_is); (case y2 => k_is)

