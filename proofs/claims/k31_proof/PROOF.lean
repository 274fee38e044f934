import PyProof.Rows.All
import Wide.All
import OpenK.AllK
import Wide.FinOn
import Lean
import PyProof.TupleKey
import PyProof.DictKinds
import PyProof.DictRoadsH
import PyProof.MeetsDict
import PyProof.EqAt
import PyProof.EqKinds
import PyProof.TupleCall
import KE.KDictList
import PyProof.DictWalks
import PyProof.DictTruth
import PyProof.NeKinds
import PyProof.StationsW
import PyProof.RulesAs
import PyProof.ExcClass2
import PyProof.IsiH_tuple
import PyProof.NsDelKeeps
import PyProof.ConsumeWalk
import PyProof.Rows.SortWalk
import PySem.SetOps
import PySem.Builtin.Tuple.Common
import PyProof.Rows.SetFrom
import PyProof.SetRoads
import KE.KSortTup
import PyProof.FactsAll.set
import PyProof.CollectWalk
import PyProof.Rows.Range3
import PySem.Builtin.Frozenset.Common
import PyProof.SumAny
import KE.KRevIter
import PySem.Challenge.RW_doingbook_k31_open_names
set_option Elab.async false
set_option genSizeOf false
set_option linter.all false
set_option maxRecDepth 100000
set_option maxHeartbeats 4000000 -- own
namespace NK
open PySem
open Sem (wp)
abbrev Nd := Str × List Int × List Int
variable {prog : Program} {w : World} {A : Around} {E : Value → Shared → Prop} {s : Shared}
def At (prog : Program) (w : World) (h : Heap) (k : Nd) (a : Addr) : Prop :=
  ∃ o its n v b c, h.get? a = some o ∧ o.cls = .type "tuple" ∧ o.data = .seq its n ∧ its.toList = [v, .ref b, .ref c] ∧ (strKind prog w).is k.1 v = true ∧ IsTupleKey (intKind prog w) h k.2.1 b ∧ IsTupleKey (intKind prog w) h k.2.2 c
theorem At.ty {k : Nd} {a : Addr} (x : At prog w s.heap k a) : s.TypeIs (.ref a) "tuple" := by
  obtain ⟨o, _, _, _, _, _, ho, hc, _⟩ := x
  exact ⟨o, ho, hc⟩
theorem At.one {h : Heap} {a : Addr} {x y : Nd} (hx : At prog w h x a) (hy : At prog w h y a) : x = y := by
  obtain ⟨o, its, n, v, b, c, ho, _, hd, hi, k1, k2, k3⟩ := hx
  obtain ⟨o', its', n', v', b', c', ho', _, hd', hi', l1, l2, l3⟩ := hy
  have e : o = o' := Option.some.inj (ho.symm.trans ho')
  subst e
  rw [hd] at hd'
  injection hd' with e _
  subst e
  rw [hi] at hi'
  simp only [List.cons.injEq, Value.ref.injEq, and_true] at hi'
  obtain ⟨rfl, rfl, rfl⟩ := hi'
  obtain ⟨x1, x2, x3⟩ := x
  obtain ⟨y1, y2, y3⟩ := y
  have e1 : x1 = y1 := (strKind prog w).inj _ _ _ k1 l1
  have e2 : x2 = y2 := k2.inj l2
  have e3 : x3 = y3 := k3.inj l3
  rw [e1, e2, e3]
theorem At.stays {h h' : Heap} {k : Nd} {a d : Addr} {o : Obj} {es ep} (x : At prog w h k a) (ho : h.get? d = some o) (hd : o.data = .dict es ep) (hs : Heap.SameBut d h h') : At prog w h' k a := by
  obtain ⟨o', its, n, v, b, c, ho', hc, hd', hi, k1, k2, k3⟩ := x
  have hne : a ≠ d := fun e => by
    subst e
    have q : o' = o := Option.some.inj (ho'.symm.trans ho)
    subst q
    rw [hd] at hd'
    cases hd'
  exact ⟨o', its, n, v, b, c, (hs.2 a hne).trans ho', hc, hd', hi, k1, k2.keeps ho hd hs, k3.keeps ho hd hs⟩
def hs (prog : Program) (w : World) (k : Nd) : List Int := [(strKind prog w).hash k.1, tupleKeyHash (intKind prog w) k.2.1, tupleKeyHash (intKind prog w) k.2.2]
def hsh (prog : Program) (w : World) (k : Nd) : Int := reduceHash (Builtin.Tuple.tupleHashOf (hs prog w k))
def drw (k : Nd) : Nat := 1 + (k.2.1.length + 1) + (k.2.2.length + 1) + 1
theorem hash_at {k : Nd} {a : Addr} {Q : Int → Shared → Prop} (hu : A.units + 8 < cLine) (hk : At prog w s.heap k a) (h : Q (hsh prog w k) { s with toks := s.toks + drw k }) :
    wpAny (model prog w) A (PySem.pyHash (.ref a)) Q E s := by
  have ty0 := hk.ty
  obtain ⟨o, its, n, v, b, c, ho, _, hd, hi, k1, k2, k3⟩ := hk
  unfold pyHash
  try unfold pyHashByItsType
  first | refine wpAny_bind (wpAny_cRoomFor_or (.inr (by omega)) ?_) | skip
  refine wpAny_bind (wpAny_specialOf ty0 F.slot_tuple_hash.lookup ?_)
  show wpAny _ _ (ite ((some (Value.builtin "tuple.__hash__") == some Value.none) = true) _ _) Q E s
  rw [if_neg (by simp [beq_builtin_none])]
  refine wpAny_bind (wpAny_specialOf ty0 F.slot_tuple_hash.lookup ?_)
  show wpAny _ _ (Bind.bind (callSpecialIfBoundUnlessNone? (.ref a) "__hash__" _) _) Q E s
  refine wpAny_bind (wpAny_callSpecialIfBoundUnlessNone?_slot ty0 F.slot_tuple_hash (wpAny_call_entry F.slot_tuple_hash ty0 F.entry_tuple_hash ?_ (F.args_tuple_hash_1 _)))
  show wpAny _ _ (Bind.bind (Builtin.Tuple.tupleItemsOf (.ref a)) _) _ _ s
  refine wpAny_bind (wpAny_tupleItemsOf (n := n) ho hd ?_)
  refine wpAny_bind ?_
  rw [← Array.forIn_toList, hi]
  have hu1 : A.in1.units < cLine := by show A.units + 1 < cLine; omega
  rw [List.forIn_cons]
  refine wpAny_bind (wpAny_bind ((strKind prog w).pyHash k1 (wpAny_pure ?_)))
  show wpAny _ _ (forIn [Value.ref b, Value.ref c] _ _) _ _ _
  rw [List.forIn_cons]
  refine wpAny_bind (wpAny_bind (wpAny_pyHash_tuple hu1 k2 (wpAny_pure ?_)))
  show wpAny _ _ (forIn [Value.ref c] _ _) _ _ _
  rw [List.forIn_cons]
  refine wpAny_bind (wpAny_bind (wpAny_pyHash_tuple hu1 k3 (wpAny_pure ?_)))
  show wpAny _ _ (forIn ([] : List Value) _ _) _ _ _
  rw [List.forIn_nil]
  refine wpAny_pure ?_
  show wpAny _ _ (retInt (Builtin.Tuple.tupleHashOf (hs prog w k))) _ _ _
  refine wpAny_ret_mkInt ?_
  unfold hsh reduceHash at h
  generalize Builtin.Tuple.tupleHashOf (hs prog w k) = z at h ⊢
  show wpAny _ _ (ite ((decide (-(2 : Int) ^ 63 ≤ z) && decide (z < 2 ^ 63)) = true) _ _) Q E _
  by_cases hr : (decide (-(2 : Int) ^ 63 ≤ z) && decide (z < 2 ^ 63)) = true
  · rw [if_pos hr] at h ⊢
    refine wpAny_pure ?_
    unfold drw at h
    simpa [Nat.add_assoc] using h
  · rw [if_neg hr] at h ⊢
    refine wpAny_bind (wpAny_rule ?_); refine wpAny_pure ?_
    unfold drw at h
    simpa [Nat.add_assoc] using h
theorem eq_tree {x y : Nd} {a b : Addr} {P : Fin → Shared → Prop} (hu : A.units < cLine) (hx : At prog w s.heap x a) (hy : At prog w s.heap y b) (h : P (.done (.ret (.bool (decide (x = y))))) s) :
    wpAny (model prog w) A (Builtin.«tuple.__eq__» ⟨[Value.ref a, Value.ref b], []⟩) P E s := by
  have tyb := hy.ty
  obtain ⟨oa, xs, na, va, a1, a2, hoa, _, hda, hia, k1, k2, k3⟩ := hx
  obtain ⟨ob, ys, nb, vb, b1, b2, hob, _, hdb, hib, l1, l2, l3⟩ := hy
  show wpAny _ _ (Bind.bind (isInstance (.ref b) (.type "tuple")) _) _ _ s
  refine wpAny_bind (wpAny_isInstance tyb isSubtype_tuple_tuple ?_)
  simp only [if_false, Bool.not_true, Bool.false_eq_true]
  refine wpAny_bind (wpAny_tupleItemsOf (n := na) hoa hda ?_)
  refine wpAny_bind (wpAny_tupleItemsOf (n := nb) hob hdb ?_)
  refine wpAny_bind ?_
  rw [hia, hib]
  have ne : ∀ (q : x ≠ y), P (.done (.ret (.bool false))) s := fun q => by rw [decide_eq_false q] at h; exact h
  have hz : Builtin.Tuple.tupleCompareSizes CmpOp.Eq xs.size ys.size = .bool true := by
    have e1 : xs.size = 3 := by rw [← Array.length_toList, hia]; rfl
    have e2 : ys.size = 3 := by rw [← Array.length_toList, hib]; rfl
    rw [e1, e2]; rfl
  show wpAny _ _ (forIn [(va, vb), (Value.ref a1, Value.ref b1), (Value.ref a2, Value.ref b2)] _ _) _ _ _
  rw [List.forIn_cons]
  refine wpAny_bind (wpAny_bind ((strKind prog w).eqBool (a := x.1) (b := y.1) k1 l1 ?_))
  by_cases e1 : x.1 = y.1
  · rw [decide_eq_true e1]
    simp only [if_false, Bool.not_true, Bool.false_eq_true]
    refine wpAny_pure ?_
    show wpAny _ _ (forIn [(Value.ref a1, Value.ref b1), (Value.ref a2, Value.ref b2)] _ _) _ _ _
    rw [List.forIn_cons]
    refine wpAny_bind (wpAny_bind (wpAny_eqBool_tuple (by omega) k2 l2 ?_))
    by_cases e2 : x.2.1 = y.2.1
    · rw [decide_eq_true e2]
      simp only [if_false, Bool.not_true, Bool.false_eq_true]
      refine wpAny_pure ?_
      show wpAny _ _ (forIn [(Value.ref a2, Value.ref b2)] _ _) _ _ _
      rw [List.forIn_cons]
      refine wpAny_bind (wpAny_bind (wpAny_eqBool_tuple (by omega) k3 l3 ?_))
      by_cases e3 : x.2.2 = y.2.2
      · rw [decide_eq_true e3]
        simp only [if_false, Bool.not_true, Bool.false_eq_true]
        refine wpAny_pure ?_
        show wpAny _ _ (forIn ([] : List (Value × Value)) _ _) _ _ _
        rw [List.forIn_nil]
        refine wpAny_pure ?_
        show wpAny _ _ (ret (Builtin.Tuple.tupleCompareSizes CmpOp.Eq xs.size ys.size)) P E s
        rw [hz]
        have e : x = y := by
          obtain ⟨x1, x2, x3⟩ := x
          obtain ⟨y1, y2, y3⟩ := y
          simp only at e1 e2 e3
          rw [e1, e2, e3]
        rw [decide_eq_true e] at h
        exact wpAny_pure h
      · rw [decide_eq_false e3]
        simp only [if_true, Bool.not_false]
        exact wpAny_bind (wpAny_pure (wpAny_pure (wpAny_pure (wpAny_pure (ne fun q => e3 (by rw [q]))))))
    · rw [decide_eq_false e2]
      simp only [if_true, Bool.not_false]
      exact wpAny_bind (wpAny_pure (wpAny_pure (wpAny_pure (wpAny_pure (ne fun q => e2 (by rw [q]))))))
  · rw [decide_eq_false e1]
    simp only [if_true, Bool.not_false]
    exact wpAny_bind (wpAny_pure (wpAny_pure (wpAny_pure (wpAny_pure (ne fun q => e1 (by rw [q]))))))
theorem eq_at {x y : Nd} {a b : Addr} {Q : Bool → Shared → Prop} (hu : A.units + 8 < cLine) (hx : At prog w s.heap x a) (hy : At prog w s.heap y b) (h : Q (decide (x = y)) s) : wpAny (model prog w) A (eqBool (.ref a) (.ref b)) Q E s := by
  unfold eqBool
  try with_reducible refine wpAny_holding ?_
  show wpAny _ _ (ite ((Value.ref a == Value.ref b) = true) _ _) Q E s
  by_cases same : (Value.ref a == Value.ref b) = true
  · rw [if_pos same]
    have e : a = b := Value.ref.inj (eq_of_beq same)
    subst e
    have e := hx.one hy
    subst e
    refine wpAny_bind (wpAny_rule (wpAny_pure ?_)); simpa using h
  · rw [if_neg same]
    refine wpAny_bind (wpAny_richCompare_same_room (op := .Eq) hx.ty hy.ty F.slot_tuple_eq (wpAny_call_entry F.slot_tuple_eq hx.ty F.entry_tuple_eq (eq_tree (by show A.units + 1 < cLine; omega) hx hy ?_) (F.args_tuple_eq_2 _ _)) (by omega))
    exact ⟨_, rfl, (fun e => nomatch e), wpAny_truthy_bool h⟩
theorem quiet_tup {ks : List Int} {a : Addr} {m : Nat} {Q : Bool → Shared → Prop} (hk : IsTupleKey (intKind prog w) s.heap ks a) (h : Q true s) : wpAny (model prog w) A (eqIsQuiet (m + 1) (.ref a)) Q E s := by
  have ty0 := hk.typeIs
  obtain ⟨o, its, n, ho, _, hd, hi⟩ := hk
  unfold eqIsQuiet
  refine wpAny_bind (wpAny_specialOf ty0 F.slot_tuple_eq.lookup ?_)
  show wpAny _ _ (Bind.bind (isInstance (.ref a) (.type "tuple")) _) _ _ s
  refine wpAny_bind (wpAny_isInstance ty0 isSubtype_tuple_tuple ?_)
  simp only [if_false, Bool.not_true, Bool.false_eq_true]
  refine wpAny_bind (wpAny_seqItems (n := n) ho hd ?_)
  refine wpAny_bind ?_
  show wpAny _ _ (forIn its _ _) _ _ s
  rw [← Array.forIn_toList]
  refine wpAny_forIn_list _ (fun rest r s' => (∀ v ∈ rest, carriedByValue v = true) ∧ s' = s ∧ r.1 = none) _ ?_ ?_ _ _ ⟨hi.byValue, rfl, rfl⟩
  · rintro v rest r s' ⟨hall, rfl, hr⟩
    rw [eqIsQuiet_byValue m (hall v List.mem_cons_self)]
    refine wpAny_bind (wpAny_pure ?_)
    simp only [if_false, Bool.not_true, Bool.false_eq_true]
    exact wpAny_pure ⟨fun u hu => hall u (List.mem_cons_of_mem _ hu), rfl, rfl⟩
  · rintro ⟨r1, r2⟩ s' ⟨_, rfl, hr⟩
    simp only at hr
    subst hr
    exact wpAny_pure h
theorem quiet_at {k : Nd} {a : Addr} {Q : Bool → Shared → Prop} (hk : At prog w s.heap k a) (h : Q true s) : wpAny (model prog w) A (eqIsQuiet 8 (.ref a)) Q E s := by
  have ty0 := hk.ty
  obtain ⟨o, its, n, v, b, c, ho, _, hd, hi, k1, k2, k3⟩ := hk
  unfold eqIsQuiet
  refine wpAny_bind (wpAny_specialOf ty0 F.slot_tuple_eq.lookup ?_)
  show wpAny _ _ (Bind.bind (isInstance (.ref a) (.type "tuple")) _) _ _ s
  refine wpAny_bind (wpAny_isInstance ty0 isSubtype_tuple_tuple ?_)
  simp only [if_false, Bool.not_true, Bool.false_eq_true]
  refine wpAny_bind (wpAny_seqItems (n := n) ho hd ?_)
  refine wpAny_bind ?_
  show wpAny _ _ (forIn its _ _) _ _ s
  rw [← Array.forIn_toList, hi, List.forIn_cons]
  rw [eqIsQuiet_byValue _ ((strKind prog w).byValue _ _ k1)]
  refine wpAny_bind (wpAny_bind ?_); refine wpAny_pure ?_
  simp only [if_false, Bool.not_true, Bool.false_eq_true]
  refine wpAny_pure ?_
  show wpAny _ _ (forIn [Value.ref b, Value.ref c] _ _) _ _ _
  rw [List.forIn_cons]
  refine wpAny_bind (wpAny_bind (quiet_tup k2 ?_))
  simp only [if_false, Bool.not_true, Bool.false_eq_true]
  refine wpAny_pure ?_
  show wpAny _ _ (forIn [Value.ref c] _ _) _ _ _
  rw [List.forIn_cons]
  refine wpAny_bind (wpAny_bind (quiet_tup k3 ?_))
  simp only [if_false, Bool.not_true, Bool.false_eq_true]
  refine wpAny_pure ?_
  show wpAny _ _ (forIn ([] : List Value) _ _) _ _ _
  rw [List.forIn_nil]
  refine wpAny_pure ?_; exact wpAny_pure h
def kind (prog : Program) (w : World) : HeapKind prog w Nd where
  is := At prog w
  hash := hsh prog w
  draws := drw
  room := fun A => A.units + 8 < cLine
  inj := fun hx hy => hx.one hy
  keeps := fun x ho hd hs => x.stays ho hd hs
  pyHash := fun hu hk h => hash_at hu hk h
  eqBool := fun hu hx hy h => eq_at hu hx hy h
  quiet := fun hk h => quiet_at hk h
end NK


set_option linter.all false
set_option maxRecDepth 100000
set_option maxHeartbeats 4000000 -- own
namespace NK
open PySem
open Sem (wp)
variable {prog : Program} {w : World} {A : Around} {E : Value → Shared → Prop} {s : Shared} {K : Type} [DecidableEq K] {knd : HeapKind prog w K}
theorem set_default {d a : Addr} {xs : List (K × Addr × Value)} {k : K} {v : Value} {Q : Value → Shared → Prop} (hu : knd.room A) (hkey : knd.is s.heap k a) (hm : s.heap.DictOfH knd d xs) (hsz : xs.length ≤ sizeLine)
    (h1 : ∀ p, atKey xs k = some p → Q p.2 { s with toks := s.toks + knd.draws k })
    (h2 : atKey xs k = none → ∀ h', h'.DictOfH knd d (xs ++ [(k, a, v)]) → Heap.SameBut d s.heap h' → Q v { s with heap := h', toks := s.toks + knd.draws k }) :
    wpAny (model prog w) A (dictSetDefault d (.ref a) v) Q E s := by
  obtain ⟨o, es, ep, g, hc, g2, he, his, hn⟩ := hm
  unfold dictSetDefault
  try with_reducible refine wpAny_holding ?_
  refine wpAny_bind (knd.pyHash (k := k) hu hkey ?_)
  refine wpAny_bind (wpAny_dictFind_heap (s := { s with toks := s.toks + knd.draws k }) hu hkey g g2 he his hn ?_ ?_)
  · intro hno
    have none' := atKey_none_of_get hno
    have new : k ∉ xs.map (·.1) := not_mem_keys_of_get hno
    refine wpAny_bind (wpAny_rule (wpAny_bind (wpAny_updateDictKeys (hz := by have e := size_of_entries he; omega) (s := { s with toks := s.toks + knd.draws k }) g g2 (wpAny_pure (h2 none' _ ⟨_, _, ep + 1, Heap.get?_update_self _ g (Obj.isFreed_of_dict (Obj.data_mapDictKeys g2 _)), hc.mapDictKeys _, Obj.data_mapDictKeys g2 _, ?_, ?_, ?_⟩ (Heap.SameBut.update ..))))))
    · simp [he, entryOfKey]
    · intro x hx
      rcases List.mem_append.mp hx with q | q
      · exact knd.keeps (his x q) g g2 (Heap.SameBut.update ..)
      · rw [List.mem_singleton] at q
        subst q
        exact knd.keeps hkey g g2 (Heap.SameBut.update ..)
    · rw [List.map_append]; rw [List.nodup_append]
      refine ⟨hn, by simp, fun x hx y hy e => ?_⟩
      have q : y = k := by simpa using hy
      rw [e, q] at hx
      exact new hx
  · intro j p hj
    refine wpAny_bind (wpAny_dictEntries (s := { s with toks := s.toks + knd.draws k }) g g2 ?_)
    rw [entry_at he j, hj]
    exact wpAny_bind (wpAny_rule (wpAny_pure (h1 p (atKey_of_get hn hj))))
theorem call_tree {d a : Addr} {xs : List (K × Addr × Value)} {k : K} {v : Value} {P : Fin → Shared → Prop} (hs : (d == sysModules) = false) (hu : knd.room A) (hkey : knd.is s.heap k a) (hm : s.heap.DictOfH knd d xs) (hsz : xs.length ≤ sizeLine)
    (h1 : ∀ p, atKey xs k = some p → P (.done (.ret p.2)) { s with toks := s.toks + knd.draws k })
    (h2 : atKey xs k = none → ∀ h', h'.DictOfH knd d (xs ++ [(k, a, v)]) → Heap.SameBut d s.heap h' → P (.done (.ret v)) { s with heap := h', toks := s.toks + knd.draws k }) :
    wpAny (model prog w) A (Builtin.«dict.setdefault» ⟨[.ref d, .ref a, v], []⟩) P E s := by
  unfold Builtin.«dict.setdefault»; refine wpAny_bind ?_; unfold Builtin.Dict.keyAndDefault
  refine wpAny_bind (wpAny_notOrdered_dict (Heap.DictOfH.typeIs hm) ?_)
  refine wpAny_pure ?_
  show wpAny _ _ (ite ((d == sysModules) = true) _ (Bind.bind (dictSetDefault d (.ref a) v) _)) _ _ s
  rw [if_neg (by rw [hs]; exact Bool.false_ne_true)]
  exact wpAny_bind (set_default hu hkey hm hsz (fun p hp => wpAny_pure (h1 p hp)) fun hn h' hm' hs' => wpAny_pure (h2 hn h' hm' hs'))
end NK


-- CHANGE: your row's module here, as the last of these rows
set_option Elab.async false
set_option linter.all false
set_option maxRecDepth 100000
namespace L2
open PySem PySem.Spec PyProof.Rows

abbrev Key := Sum Int Str
def keyIs : Key → Value → Bool
  | .inl k, v => Value.isInt k v
  | .inr x, v => Value.isStrOf x v
def keyH (w : World) : Key → Int
  | .inl k => hashInt k
  | .inr x => hashStr w x
theorem keyIs_shape : ∀ {k : Key} {v : Value}, keyIs k v = true → (∃ i t, k = Sum.inl i ∧ v = Value.int i t) ∨ (∃ x t, k = Sum.inr x ∧ v = Value.str x t)
  | .inl i, v, h => by
    obtain ⟨t, e⟩ := Value.isInt_shape (k := i) (v := v) h
    exact .inl ⟨i, t, rfl, e⟩
  | .inr x, v, h => by
    obtain ⟨t, e⟩ := Value.isStrOf_shape (x := x) (v := v) h
    exact .inr ⟨x, t, rfl, e⟩
theorem key_ll (a b : Int) : decide ((Sum.inl a : Key) = Sum.inl b) = (a == b) := by
  by_cases e : a = b
  · subst e; simp
  · have h : ¬ (Sum.inl a : Key) = Sum.inl b := fun q => e (Sum.inl.inj q)
    rw [decide_eq_false h]
    exact (beq_eq_false_iff_ne.mpr e).symm
theorem key_rr (a b : Str) : decide ((Sum.inr a : Key) = Sum.inr b) = decide (a = b) := by
  by_cases e : a = b
  · subst e; simp
  · have h : ¬ (Sum.inr a : Key) = Sum.inr b := fun q => e (Sum.inr.inj q)
    rw [decide_eq_false h, decide_eq_false e]
theorem key_lr (a : Int) (b : Str) : decide ((Sum.inl a : Key) = Sum.inr b) = false := decide_eq_false (fun q => nomatch q)
theorem key_rl (a : Str) (b : Int) : decide ((Sum.inr a : Key) = Sum.inl b) = false := decide_eq_false (fun q => nomatch q)

def mixKind (prog : Program) (w : World) : PySem.KeyKind prog w Key where
  is := keyIs
  hash := keyH w
  inj := fun v a b ha hb => by
    rcases keyIs_shape ha with ⟨i, t, rfl, rfl⟩ | ⟨x, t, rfl, rfl⟩
    · rcases keyIs_shape hb with ⟨j, u, rfl, e⟩ | ⟨y, u, rfl, e⟩
      · injection e with e1 _; rw [e1]
      · exact nomatch e
    · rcases keyIs_shape hb with ⟨j, u, rfl, e⟩ | ⟨y, u, rfl, e⟩
      · exact nomatch e
      · injection e with e1 _; rw [e1]
  byValue := fun k v h => by
    rcases keyIs_shape h with ⟨i, t, rfl, rfl⟩ | ⟨x, t, rfl, rfl⟩ <;> rfl
  pyHash := fun hv h => by
    rcases keyIs_shape hv with ⟨i, t, rfl, rfl⟩ | ⟨x, t, rfl, rfl⟩
    · exact wpAny_pyHash_int h
    · exact wpAny_pyHash_str h
  eqBool := fun hu hv h => by
    rcases keyIs_shape hu with ⟨i, t, rfl, rfl⟩ | ⟨x, t, rfl, rfl⟩
    · rcases keyIs_shape hv with ⟨j, u, rfl, rfl⟩ | ⟨y, u, rfl, rfl⟩
      · rw [key_ll] at h; exact wpAny_eqBool_int h
      · rw [key_lr] at h; exact SeqAt.EqAt.int_str i t y u _ _ _ _ h
    · rcases keyIs_shape hv with ⟨j, u, rfl, rfl⟩ | ⟨y, u, rfl, rfl⟩
      · rw [key_rl] at h; exact SeqAt.EqAt.str_int x t j u _ _ _ _ h
      · rw [key_rr] at h; exact wpAny_eqBool_str h
  «strs» := fun k x t v h => by
    rcases keyIs_shape h with ⟨i, u, rfl, e⟩ | ⟨y, u, rfl, e⟩
    · exact nomatch e
    · injection e with e1 _
      subst e1
      cases v <;> rfl

end L2

namespace L2
open PySem PySem.Spec PyProof.Rows

inductive V where
  | non | bl (b : Bool) | int (i : Int) | str (x : Str) | byt (b : Array UInt8) | flt (b : UInt64) | ref (a : Addr) | ty (n : String)
  deriving DecidableEq

def RelV : V → Value → Prop
  | .non, u => u = Value.none
  | .bl b, u => u = Value.bool b
  | .int i, u => ∃ t, u = Value.int i t
  | .str x, u => ∃ t, u = Value.str x t
  | .byt b, u => ∃ t, u = Value.bytes b t
  | .flt b, u => ∃ t, u = Value.float b t
  | .ref a, u => u = Value.ref a
  | .ty n, u => u = Value.type n

abbrev Vals : List V → List Value → Prop := Paired RelV
theorem Vals.length {xs : List V} {us : List Value} (r : Vals xs us) : xs.length = us.length := Paired.length r
theorem Vals.get : ∀ {xs : List V} {us : List Value} {i : Nat} {x : V}, Vals xs us → xs[i]? = some x → ∃ u, us[i]? = some u ∧ RelV x u
  | _, _, _, _, .nil, e => by simp at e
  | _, _, 0, _, .cons r _, e => by simp at e; subst e; exact ⟨_, rfl, r⟩
  | _, _, i + 1, x, .cons _ t, e => by
    obtain ⟨u, h1, h2⟩ := Vals.get (i := i) (x := x) t (by simpa using e)
    exact ⟨u, by simpa using h1, h2⟩
theorem Vals.append : ∀ {xs ys : List V} {us ws : List Value}, Vals xs us → Vals ys ws → Vals (xs ++ ys) (us ++ ws)
  | _, _, _, _, .nil, s => s
  | _, _, _, _, .cons r t, s => .cons r (Vals.append t s)
theorem Vals.take : ∀ {xs : List V} {us : List Value} (n : Nat), Vals xs us → Vals (xs.take n) (us.take n)
  | _, _, 0, _ => .nil
  | _, _, _ + 1, .nil => .nil
  | _, _, n + 1, .cons r t => .cons r (Vals.take n t)
theorem Vals.drop : ∀ {xs : List V} {us : List Value} (n : Nat), Vals xs us → Vals (xs.drop n) (us.drop n)
  | _, _, 0, r => r
  | _, _, _ + 1, .nil => .nil
  | _, _, n + 1, .cons _ t => Vals.drop n t
def RelO : Option V → Option Value → Prop
  | some v, some u => RelV v u
  | none, none => True
  | _, _ => False
def KV {κ : Type} : List (κ × V) → List (κ × Value) → Prop := Paired fun (p : κ × V) (q : κ × Value) => p.1 = q.1 ∧ RelV p.2 q.2

def kV : Key → V
  | .inl i => .int i
  | .inr x => .str x

inductive HO where
    | lst (xs : List V)
    | tup (xs : List V)
    | dK (kvs : List (Key × V)) | dT (kvs : List (List Key × V))
    | set (S : Int → Bool) (n : Nat)
    | ins (C dx : Addr) (fs : List (Str × V))
    | own (x : Addr)
    | xd (fs : List (Str × V))
    | met (f x : Addr)
    | rng (lo hi : Int)
    | frz (o : Obj) (u : HO)
    | tbl (ps : Array Value)
    | ext (φ : Heap → Prop)

abbrev Hp := Addr → Option HO
def upd (H : Hp) (a : Addr) (o : HO) : Hp := fun b => if b = a then some o else H b
theorem upd_same {H : Hp} {a : Addr} {o : HO} : upd H a o a = some o := by unfold upd; rw [if_pos rfl]
theorem upd_ne {H : Hp} {a b : Addr} {o : HO} (h : b ≠ a) : upd H a o b = H b := by unfold upd; rw [if_neg h]
theorem ne_of {H : Hp} {a b : Addr} {o u : HO} (h : H a = some o) (h' : H b = some u) (d : o ≠ u) : a ≠ b := by
  intro e; subst e; rw [h] at h'; exact d (Option.some.inj h')
theorem ne_of_none {H : Hp} {a b : Addr} {o : HO} (h : H a = some o) (h' : H b = none) : a ≠ b := by
  intro e; subst e; rw [h] at h'; cases h'

section
variable (P : Program) (w : World)
def ObjOk (H : Hp) (h : Heap) (a : Addr) : HO → Prop
  | .lst xs => xs.length ≤ sizeLine ∧ ∃ (its : List Value) (n : Nat), Vals xs its ∧ h.get? a = some { cls := .type "list", data := .seq its.toArray n }
  | .tup xs => xs.length ≤ sizeLine ∧ ∃ its : List Value, Vals xs its ∧ IsTup h a its.toArray
  | .dK kvs => kvs.length ≤ sizeLine ∧ (a == sysModules) = false ∧ ∃ vs, KV kvs vs ∧ h.DictOf (mixKind P w) a vs
  | .dT kvs => kvs.length ≤ sizeLine ∧ (a == sysModules) = false ∧ ∃ xs : List (List Key × Addr × Value),
      Paired (fun (p : List Key × V) (q : List Key × Addr × Value) => p.1 = q.1 ∧ H q.2.1 = some (.tup (p.1.map kV)) ∧ RelV p.2 q.2.2) kvs xs ∧
      ∃ o es ep, h.get? a = some o ∧ o.ExactDict ∧ o.data = .dict es ep ∧ es.toList = xs.map (entryOfKey (tupleKind (mixKind P w))) ∧ (xs.map (·.1)).Nodup
  | .set S n => h.SetOf (intKind P w) a S n
  | .ins C dx fs => H dx = some (.own a) ∧ fs.length ≤ 1000 ∧ dx ≠ a ∧ h.get? a = some (PySem.W.instObj C dx) ∧
      ∃ mA, h.Ns1 dx mA ∧ (∀ f, RelO (fs.lookup f) (mA f)) ∧ PySem.Within mA (fs.map (·.1))
  | .own _ => ∃ o, h.get? a = some o
  | .xd fs => ∃ mA, h.Ns1 a mA ∧ ∀ f, RelO (fs.lookup f) (mA f)
  | .rng lo hi => ∃ t u v, h.get? a = some { cls := .type "range", data := .fields #[.int lo t, .int hi u, .int 1 v] }
  | .frz o u => h.get? a = some o ∧ ObjOk H h a u
  | .tbl ps => h.get? a = some { cls := .none, data := .fields ps }
  | .met f x => h.get? a = some (PySem.W.methodObj (.ref f) (.ref x))
  | .ext φ => φ h ∧ (∃ o, h.get? a = some o) ∧ ∀ h1 h2 : Heap, φ h1 → (∀ o, h1.get? a = some o → h2.get? a = some o) → φ h2
def HOk (H : Hp) (h : Heap) : Prop := ∀ a o, H a = some o → ObjOk P w H h a o
end

section
variable {P : Program} {w : World} {H H' : Hp} {h h' : Heap} {a : Addr} {o : HO}
theorem ObjOk.lt (x : ObjOk P w H h a o) : a < h.objs.size := by
  cases o with
  | lst xs => obtain ⟨_, _, _, _, e⟩ := x; exact Heap.lt_size e
  | tup xs => obtain ⟨_, _, _, p⟩ := x; exact p.lt
  | dK kvs => obtain ⟨_, _, _, _, o, _, _, e, _⟩ := x; exact Heap.lt_size e
  | dT kvs => obtain ⟨_, _, _, _, o, _, _, e, _⟩ := x; exact Heap.lt_size e
  | set S n => obtain ⟨o, _, _, _, e, _⟩ := x; exact Heap.lt_size e
  | ins C dx fs => obtain ⟨_, _, _, e, _⟩ := x; exact Heap.lt_size e
  | own y => obtain ⟨_, e⟩ := x; exact Heap.lt_size e
  | xd fs => obtain ⟨_, ⟨_, _, _, e, _⟩, _⟩ := x; exact Heap.lt_size e
  | rng lo hi => obtain ⟨_, _, _, e⟩ := x; exact Heap.lt_size e
  | frz ob u => obtain ⟨e, _⟩ := x; exact Heap.lt_size e
  | tbl ps => exact Heap.lt_size (show h.get? a = some _ from x)
  | met f y => exact Heap.lt_size (show h.get? a = some _ from x)
  | ext φ => obtain ⟨_, ⟨_, e⟩, _⟩ := x; exact Heap.lt_size e
theorem Paired.mapP {α β : Type} {F G : α → β → Prop} : ∀ {l₁ : List α} {l₂ : List β}, Paired F l₁ l₂ → (∀ a b, F a b → G a b) → Paired G l₁ l₂
  | _, _, .nil, _ => .nil
  | _, _, .cons r t, f => .cons (f _ _ r) (Paired.mapP t f)
theorem ObjOk.stay (x : ObjOk P w H h a o) (k : ∀ b u, (b = a ∨ H b = some (.own a)) → h.get? b = some u → h'.get? b = some u)
    (ho : ∀ b, H b = some (.own a) → H' b = some (.own a)) (ht : ∀ b xs, H b = some (.tup xs) → H' b = some (.tup xs)) : ObjOk P w H' h' a o := by
  induction o with
  | lst xs => obtain ⟨z, its, n, r, e⟩ := x; exact ⟨z, its, n, r, k _ _ (.inl rfl) e⟩
  | tup xs => obtain ⟨z, its, r, ob, e, c⟩ := x; exact ⟨z, its, r, ob, k _ _ (.inl rfl) e, c⟩
  | dK kvs => obtain ⟨z, y, vs, r, ob, es, ep, e, c⟩ := x; exact ⟨z, y, vs, r, ob, es, ep, k _ _ (.inl rfl) e, c⟩
  | dT kvs =>
    obtain ⟨z, y, xs, r, ob, es, ep, e, c⟩ := x
    exact ⟨z, y, xs, Paired.mapP r fun p q z => ⟨z.1, ht _ _ z.2.1, z.2.2⟩, ob, es, ep, k _ _ (.inl rfl) e, c⟩
  | set S n => obtain ⟨ob, es, ep, t, e, c⟩ := x; exact ⟨ob, es, ep, t, k _ _ (.inl rfl) e, c⟩
  | ins C dx fs =>
    obtain ⟨d, z, ne, e, mA, ⟨od, es, ep, e2, c⟩, r⟩ := x
    exact ⟨ho _ d, z, ne, k _ _ (.inl rfl) e, mA, ⟨od, es, ep, k _ _ (.inr d) e2, c⟩, r⟩
  | own y => obtain ⟨ob, e⟩ := x; exact ⟨ob, k _ _ (.inl rfl) e⟩
  | xd fs => obtain ⟨mA, ⟨od, es, ep, e, c⟩, r⟩ := x; exact ⟨mA, ⟨od, es, ep, k _ _ (.inl rfl) e, c⟩, r⟩
  | rng lo hi => obtain ⟨t, u, v, e⟩ := x; exact ⟨t, u, v, k _ _ (.inl rfl) e⟩
  | frz ob u ih => obtain ⟨e, q⟩ := x; exact ⟨k _ _ (.inl rfl) e, ih q⟩
  | tbl ps =>
    have e : h.get? a = some { cls := .none, data := .fields ps } := x
    show h'.get? a = some { cls := .none, data := .fields ps }
    exact k a _ (.inl rfl) e
  | met f y =>
    have e : h.get? a = some (PySem.W.methodObj (.ref f) (.ref y)) := x
    show h'.get? a = some (PySem.W.methodObj (.ref f) (.ref y))
    exact k a _ (.inl rfl) e
  | ext φ => obtain ⟨p, ⟨o, e⟩, st⟩ := x; exact ⟨st _ _ p fun o q => k _ _ (.inl rfl) q, ⟨o, k _ _ (.inl rfl) e⟩, st⟩
theorem HOk.lt (x : HOk P w H h) (e : H a = some o) : a < h.objs.size := (x a o e).lt
theorem HOk.fresh (x : HOk P w H h) (e : h.objs.size ≤ a) : H a = none := by
  cases q : H a with
  | none => rfl
  | some u => exact absurd (Nat.lt_of_lt_of_le (x.lt q) e) (Nat.lt_irrefl _)
theorem HOk.kept (x : HOk P w H h) (k : ∀ b u, h.get? b = some u → h'.get? b = some u) : HOk P w H h' := fun a o e =>
  (x a o e).stay (fun b u _ q => k b u q) (fun _ q => q) fun _ _ q => q
theorem HOk.laid (x : HOk P w H h) (k : ∀ b u, h.get? b = some u → h'.get? b = some u) (hp : h.objs.size ≤ a) (new : ObjOk P w (upd H a o) h' a o) : HOk P w (upd H a o) h' := fun b u e => by
  have hn := x.fresh hp
  by_cases hb : b = a
  · subst hb; rw [upd_same] at e; cases e; exact new
  · rw [upd_ne hb] at e
    exact (x b u e).stay (fun c v _ q => k c v q) (fun c q => by rw [upd_ne (ne_of_none q hn)]; exact q) fun c xs q => by rw [upd_ne (ne_of_none q hn)]; exact q
end

def Rd (H : Hp) (a : Addr) (u : HO) : Prop := H a = some u ∨ ∃ o, H a = some (.frz o u)
theorem Rd.ok {P : Program} {w : World} {H : Hp} {h : Heap} {a : Addr} {u : HO} (r : Rd H a u) (x : HOk P w H h) : ObjOk P w H h a u := by
  rcases r with r | ⟨o, r⟩
  · exact x a u r
  · obtain ⟨_, q⟩ := x a _ r
    exact q
def Mut : Option HO → Prop
  | some (.lst _) => True
  | some (.dK _) => True
  | some (.dT _) => True
  | some (.set _ _) => True
  | some (.ins _ _ _) => True
  | some (.ext _) => True
  | _ => False
section
variable {P : Program} {w : World} {H : Hp} {h h' : Heap} {x e : Addr} {o' : HO}
theorem HOk.write (ok : HOk P w H h) (mu : Mut (H x)) (he : e = x ∨ H e = some (.own x)) (k : ∀ b u, b ≠ e → h.get? b = some u → h'.get? b = some u) (heo : ∃ u, h'.get? e = some u)
    (new : ObjOk P w (upd H x o') h' x o') : HOk P w (upd H x o') h' := fun b u q => by
  have nown : ∀ c y, H c = some (.own y) → c ≠ x := fun c y r z => by subst z; rw [r] at mu; exact mu
  have ntup : ∀ c xs, H c = some (.tup xs) → c ≠ x := fun c xs r z => by subst z; rw [r] at mu; exact mu
  by_cases hb : b = x
  · subst hb; rw [upd_same] at q; cases q; exact new
  · rw [upd_ne hb] at q
    by_cases hbe : b = e
    · have q' : H b = some (.own x) := by
        rcases he with z | z
        · exact absurd (hbe.trans z) hb
        · rw [hbe]; exact z
      rw [q] at q'; cases q'
      obtain ⟨v, hv⟩ := heo
      exact ⟨v, by rw [hbe]; exact hv⟩
    · refine (ok b u q).stay (fun c v hc r => k c v ?_ r) (fun c r => by rw [upd_ne (nown c b r)]; exact r) fun c xs r => by rw [upd_ne (ntup c xs r)]; exact r
      rcases hc with rfl | hc
      · exact hbe
      · rintro rfl
        rcases he with z | z
        · exact nown c b hc z
        · rw [hc] at z; cases z; exact hb rfl
end

structure Un (fs ex : List Addr) (H H' : Hp) (h h' : Heap) : Prop where
  keep : ∀ b o, h.get? b = some o → H b = none → b ∉ fs → b ∉ ex → h'.get? b = some o
  slot : ∀ b o, h.get? b = some o → H b = none → b ∈ fs → b ∉ ex → ∃ sl, h'.get? b = some { o with slots := sl }
  free : ∀ b o, h.get? b = some o → H b = none → b ∉ ex → H' b = none
  there : ∀ b o, h.get? b = some o → b ∉ ex → ∃ o', h'.get? b = some o'
  tups : ∀ b xs, H b = some (.tup xs) → H' b = some (.tup xs)
  frzs : ∀ b o u, H b = some (.frz o u) → H' b = some (.frz o u)
  tbls : ∀ b ps, H b = some (.tbl ps) → ∃ more, H' b = some (.tbl (ps ++ more))
section
variable {fs fs' ex ex' : List Addr} {H H1 H2 : Hp} {h h1 h2 h' : Heap} {a x e : Addr} {o : HO}
theorem Un.any (u : Un fs ex H H1 h h1) {b : Addr} {ob : Obj} (q : h.get? b = some ob) (n : H b = none) (hx : b ∉ ex) : ∃ sl, h1.get? b = some { ob with slots := sl } := by
  by_cases hb : b ∈ fs
  · exact u.slot b ob q n hb hx
  · exact ⟨ob.slots, u.keep b ob q n hb hx⟩
theorem Un.kept (k : ∀ b u, h.get? b = some u → h'.get? b = some u) : Un fs ex H H h h' :=
  ⟨fun b ob q _ _ _ => k b ob q, fun b ob q _ _ _ => ⟨ob.slots, k b ob q⟩, fun _ _ _ n _ => n, fun b ob q _ => ⟨ob, k b ob q⟩, fun _ _ q => q, fun _ _ _ q => q, fun _ ps q => ⟨#[], by rw [q]; simp⟩⟩
theorem Un.refl : Un fs ex H H h h := Un.kept fun _ _ q => q
theorem Un.laid (k : ∀ b u, h.get? b = some u → h'.get? b = some u) (hp : h.objs.size ≤ a) (hn : H a = none) : Un fs ex H (upd H a o) h h' where
  keep := fun b u q _ _ _ => k b u q
  slot := fun b u q _ _ _ => ⟨u.slots, k b u q⟩
  free := fun b u q n _ => by rw [upd_ne (Nat.ne_of_lt (Nat.lt_of_lt_of_le (Heap.lt_size q) hp))]; exact n
  there := fun b u q _ => ⟨u, k b u q⟩
  tups := fun b xs q => by rw [upd_ne (ne_of_none q hn)]; exact q
  frzs := fun b u xs q => by rw [upd_ne (ne_of_none q hn)]; exact q
  tbls := fun b ps q => ⟨#[], by rw [upd_ne (ne_of_none q hn), q]; simp⟩
theorem Un.write (mu : Mut (H x)) (he : e = x ∨ H e = some (.own x)) (k : ∀ b u, b ≠ e → h.get? b = some u → h'.get? b = some u) (heo : ∃ u, h'.get? e = some u) : Un fs ex H (upd H x o) h h' := by
  have hx : ∀ b, H b = none → b ≠ x := fun b n z => by subst z; rw [n] at mu; exact mu
  have hb : ∀ b, H b = none → b ≠ e := fun b n z => by
    subst z
    rcases he with r | r
    · exact hx b n r
    · rw [n] at r; cases r
  have hm : ∀ b u, H b = some u → ¬ Mut (some u) → b ≠ x := fun b u q nm z => by subst z; rw [q] at mu; exact nm mu
  refine ⟨fun b u q n _ _ => k b u (hb b n) q, fun b u q n _ _ => ⟨u.slots, k b u (hb b n) q⟩, fun b u q n _ => by rw [upd_ne (hx b n)]; exact n, fun b u q _ => ?_,
    fun b xs q => by rw [upd_ne (hm b _ q fun z => z)]; exact q, fun b u xs q => by rw [upd_ne (hm b _ q fun z => z)]; exact q, fun b ps q => ⟨#[], by rw [upd_ne (hm b _ q fun z => z), q]; simp⟩⟩
  by_cases hbe : b = e
  · subst hbe; exact heo
  · exact ⟨u, k b u hbe q⟩
end

def trk (h : Heap) (H : Hp) : List Addr := (List.range h.objs.size).filter fun a => (H a).isSome
def hidT (h : Heap) (H : Hp) : Heap := PySem.W.hideAll h (trk h H)
theorem hidT_size (h : Heap) (H : Hp) : (hidT h H).objs.size = h.objs.size := PySem.W.hideAll_size _ _
theorem hidT_get {h : Heap} {H : Hp} {b : Addr} {o : Obj} (e : h.get? b = some o) (n : H b = none) : (hidT h H).get? b = some o :=
  PySem.W.hideAll_get _ e fun hm => by
    have q : (H b).isSome = true := (List.mem_filter.mp hm).2
    rw [n] at q; simp at q
theorem of_hidT {h : Heap} {H : Hp} {b : Addr} {o : Obj} (e : (hidT h H).get? b = some o) : h.get? b = some o ∧ H b = none := by
  have e' : h.get? b = some o := PySem.W.of_hideAll (trk h H) e
  refine ⟨e', ?_⟩
  cases q : H b with
  | none => rfl
  | some x =>
    have hm : b ∈ trk h H := List.mem_filter.mpr ⟨List.mem_range.mpr (Heap.lt_size e'), by simp [q]⟩
    have z : (hidT h H).get? b = none := PySem.W.hideAll_none (trk h H) hm
    rw [z] at e; cases e

def allNews (g h : Heap) (L : Addr) : List (Addr × Obj) := (List.range h.objs.size).filterMap fun a => if a = L ∨ (g.get? a).isSome = true then none else (h.get? a).map fun o => (a, o)
def rest (g h : Heap) (L d : Addr) : List (Addr × Obj) := (allNews g h L).filter fun p => decide (p.1 ≠ d)
end L2

namespace L2
open PySem PySem.Spec PyProof.Rows

structure Mod (K : PySem.W.Frag) (mg : Str → Option Value) (base : Heap) : Prop where
  kin : K.In base
  glob : base.Ns mainGlobals mg
  blt : ∃ mb, base.Ns builtinsNs mb ∧ ∀ x : Str, x ≠ "__name__" → mb x = bootBuiltins x
  nolimit : base.NoLimit

structure Cx where
  prog : Program
  w : World
  K : PySem.W.Frag
  mg : Str → Option Value
  base : Heap
  A : Around
  N : List Str
  s₀ : Shared
  H₀ : Hp
  env : Env
  outer : List Env
  stack : List Env
  ex : List Addr
  fn : Str → Bool
  calm : Bool
  pn : List (Addr × Obj)
  xe : Value → Shared → Prop
def frs (l : List Env) : List Addr := l.filterMap (·.frame)
abbrev Cx.fs (X : Cx) : List Addr := frs X.outer

def Vis (sc : Scope) (x : Str) : Prop := sc.names.lookup x = some .local ∨ sc.names.lookup x = some .cell ∨ sc.names.lookup x = some .free
def Loc (sc : Scope) (x : Str) : Prop := sc.names.lookup x = some .local ∨ sc.names.lookup x = some .cell
def Look (env : Env) (h : Heap) (m : Str → Option Value) (x : Str) (u : Value) : Prop :=
  (env.kindOf x = some .local ∧ m x = some u) ∨ ((env.kindOf x = some .cell ∨ env.kindOf x = some .free) ∧ ∃ c, env.cells.lookup x = some c ∧ h.IsCell c (some u))

structure Cx.Ok (X : Cx) : Prop where
  mod : Mod X.K X.mg X.base
  kind : X.env.scope.kind = .function
  glob : X.env.globals = mainGlobals
  blt : X.env.builtins = builtinsNs
  above : X.s₀.heap.objs.size ≤ X.env.locals
  inj : ∀ x y c, X.env.cells.lookup x = some c → X.env.cells.lookup y = some c → x = y
  has : ∀ x, (X.env.kindOf x = some .cell ∨ X.env.kindOf x = some .free) → ∃ c, X.env.cells.lookup x = some c
  cab : ∀ x c, X.fn x = true → X.env.cells.lookup x = some c → X.s₀.heap.objs.size ≤ c
  hd : X.calm = true → X.A.handled = none
  frames : X.A.frames = some X.stack
  stk : X.stack = X.outer ∨ (X.stack = X.env :: X.outer ∧ X.env.frame = some X.env.locals)
  exf : ∀ b ∈ X.ex, b ≠ X.env.locals ∧ ∀ x c, X.env.cells.lookup x = some c → c ≠ b
  bs : ∀ b o, X.base.get? b = some o → X.s₀.heap.get? b = some o ∧ X.H₀ b = none
  bsz : X.base.objs.size ≤ X.s₀.heap.objs.size
  noex : ∀ b o, X.base.get? b = some o → b ∉ X.ex
  exfs : ∀ b ∈ X.ex, b ∉ X.fs
  funs : X.s₀.heap.FunFrames X.base X.outer
  frf : ∀ b ∈ X.fs, X.H₀ b = none

structure Inv (X : Cx) (pins : List (Addr × Obj)) (σ : List (Option V)) (H : Hp) (s : Shared) : Prop where
  ok : X.Ok
  os : s.os = X.s₀.os
  bare : AllBare s.gens
  base : Un X.fs X.ex X.H₀ H X.s₀.heap s.heap
  loc : ∃ m, s.heap.Ns X.env.locals m ∧ ∀ (i : Nat) (x : Str) (v : V), X.N[i]? = some x → σ[i]? = some (some v) → Vis X.env.scope x → ∃ u, RelV v u ∧ Look X.env s.heap m x u
  cell : ∀ x c, X.env.cells.lookup x = some c → ∃ v, s.heap.IsCell c v
  free : H X.env.locals = none
  freeC : ∀ x c, X.env.cells.lookup x = some c → H c = none
  pin : ∀ p ∈ X.pn ++ pins, s.heap.get? p.1 = some p.2 ∧ H p.1 = none ∧ p.1 ≠ X.env.locals ∧ p.1 ∉ X.fs ∧ ∀ v, p.2.data ≠ .cell v
  hok : HOk X.prog X.w H s.heap
  len : σ.length = X.N.length

section
variable {X : Cx} {pins : List (Addr × Obj)} {σ : List (Option V)} {H H' : Hp} {s : Shared} {h' : Heap}

theorem Cx.Ok.nofr (ok : X.Ok) {b : Addr} {o : Obj} (e : X.base.get? b = some o) : b ∉ X.fs := fun hb => by
  have := (ok.funs.mem hb).1
  rw [e] at this; cases this
theorem Inv.bs (I : Inv X pins σ H s) : ∀ b o, X.base.get? b = some o → s.heap.get? b = some o ∧ H b = none := fun b o e =>
  ⟨I.base.keep b o (I.ok.bs b o e).1 (I.ok.bs b o e).2 (I.ok.nofr e) (I.ok.noex b o e), I.base.free b o (I.ok.bs b o e).1 (I.ok.bs b o e).2 (I.ok.noex b o e)⟩
theorem Inv.bk (I : Inv X pins σ H s) : ∀ b o, X.base.get? b = some o → s.heap.get? b = some o := fun b o e => (I.bs b o e).1
theorem Inv.mod (I : Inv X pins σ H s) : Mod X.K X.mg X.base := I.ok.mod
theorem Inv.kIn (I : Inv X pins σ H s) : X.K.In s.heap := I.ok.mod.kin.keeps I.bk
theorem Inv.lt (I : Inv X pins σ H s) : X.env.locals < s.heap.objs.size := let ⟨_, hn, _⟩ := I.loc; hn.lt
theorem Inv.sz (I : Inv X pins σ H s) : X.s₀.heap.objs.size ≤ s.heap.objs.size := Nat.le_trans I.ok.above (Nat.le_of_lt I.lt)
theorem Inv.nofs (I : Inv X pins σ H s) {a : Addr} (h : s.heap.objs.size ≤ a) : a ∉ X.fs := fun hb => by
  obtain ⟨_, o, ho, _⟩ := I.ok.funs.mem hb
  exact absurd (Nat.lt_of_lt_of_le (Heap.lt_size ho) (Nat.le_trans I.sz h)) (Nat.lt_irrefl _)
theorem Inv.cne (I : Inv X pins σ H s) : ∀ x c, X.env.cells.lookup x = some c → c ≠ X.env.locals := fun x c e z => by
  obtain ⟨v, o, ho, hd⟩ := I.cell x c e
  obtain ⟨m, ⟨o', es, ep, ho', hd', _⟩, _⟩ := I.loc
  rw [z, ho'] at ho; cases ho; rw [hd'] at hd; cases hd
theorem Inv.funs (I : Inv X pins σ H s) : s.heap.FunFrames X.base X.outer := by
  have all : ∀ (l : List Env), (∀ b ∈ frs l, b ∈ X.fs) → X.s₀.heap.FunFrames X.base l → s.heap.FunFrames X.base l := by
    intro l
    induction l with
    | nil => intro _ _; trivial
    | cons env r ih =>
      intro hs hl
      obtain ⟨hk, ⟨L, o, hf, hn, ho, hd⟩, hr⟩ := hl
      have hL : L ∈ X.fs := hs L (by unfold frs; rw [List.filterMap_cons, hf]; exact List.mem_cons_self)
      obtain ⟨sl, e⟩ := I.base.slot L o ho (I.ok.frf L hL) hL fun z => I.ok.exfs L z hL
      exact ⟨hk, ⟨L, _, hf, hn, e, hd⟩, ih (fun b hb => hs b (by unfold frs; rw [List.filterMap_cons, hf]; exact List.mem_cons_of_mem _ hb)) hr⟩
  exact all X.outer (fun _ hb => hb) I.ok.funs

theorem Inv.stack (I : Inv X pins σ H s) : s.heap.FunFrames X.base X.stack := by
  rcases I.ok.stk with e | ⟨e, hf⟩
  · rw [e]; exact I.funs
  · rw [e]
    obtain ⟨m, hn, _⟩ := I.loc
    refine .cons (by rw [I.ok.kind]; decide) hf hn ?_ I.funs
    exact Heap.get?_none_of_le (Nat.le_trans I.ok.bsz I.ok.above)
theorem Inv.stkSub (I : Inv X pins σ H s) : ∀ b ∈ frs X.stack, b ∈ X.env.locals :: X.fs := fun b hb => by
  rcases I.ok.stk with e | ⟨e, hf⟩
  · rw [e] at hb; exact List.mem_cons_of_mem _ hb
  · rw [e] at hb
    unfold frs at hb
    rw [List.filterMap_cons, hf] at hb
    exact hb
theorem Inv.stkFree (I : Inv X pins σ H s) : ∀ b ∈ frs X.stack, H b = none := fun b hb => by
  rcases List.mem_cons.mp (I.stkSub b hb) with e | hb
  · rw [e]; exact I.free
  · obtain ⟨_, o, ho, _⟩ := I.ok.funs.mem hb
    exact I.base.free b o ho (I.ok.frf b hb) fun z => I.ok.exfs b z hb

theorem Inv.step {g' : Array GenState} {t' : Nat} {d' : Drawn} {ch : List Addr} (I : Inv X pins σ H s)
    (hch : ∀ b ∈ ch, (b ∈ X.ex ∨ X.s₀.heap.objs.size ≤ b) ∧ b ≠ X.env.locals ∧ (∀ x c, X.env.cells.lookup x = some c → c ≠ b) ∧ ∀ p ∈ X.pn ++ pins, p.1 ≠ b)
    (keep : ∀ b o, b ≠ X.env.locals → b ∉ X.fs → b ∉ ch → s.heap.get? b = some o → H b = none → h'.get? b = some o)
    (slot : ∀ b o, b ≠ X.env.locals → b ∈ X.fs → b ∉ ch → s.heap.get? b = some o → H b = none → ∃ sl, h'.get? b = some { o with slots := sl }) (free : ∀ b o, b ∉ ch → s.heap.get? b = some o → H b = none → H' b = none)
    (there : ∀ b o, b ∉ ch → s.heap.get? b = some o → ∃ o', h'.get? b = some o')
    (tups : ∀ b xs, H b = some (.tup xs) → H' b = some (.tup xs)) (frzs : ∀ b o u, H b = some (.frz o u) → H' b = some (.frz o u)) (tbls : ∀ b ps, H b = some (.tbl ps) → ∃ more, H' b = some (.tbl (ps ++ more)))
    (ns : ∀ m, s.heap.Ns X.env.locals m → h'.Ns X.env.locals m) (hok : HOk X.prog X.w H' h') (hg : AllBare g') :
    Inv X pins σ H' { s with heap := h', gens := g', drawn := d', toks := t' } := by
  have neL : ∀ b o, X.s₀.heap.get? b = some o → b ≠ X.env.locals := fun b o e => Nat.ne_of_lt (Nat.lt_of_lt_of_le (Heap.lt_size e) I.ok.above)
  have neC : ∀ b o, X.s₀.heap.get? b = some o → b ∉ X.ex → b ∉ ch := fun b o e hx hb => by
    rcases (hch b hb).1 with z | z
    · exact hx z
    · exact absurd (Nat.lt_of_lt_of_le (Heap.lt_size e) z) (Nat.lt_irrefl _)
  have cellK : ∀ x c, X.env.cells.lookup x = some c → ∀ v, s.heap.IsCell c v → h'.IsCell c v := fun x c e v ⟨o, ho, hd⟩ => by
    have nch : c ∉ ch := fun z => (hch c z).2.2.1 x c e rfl
    by_cases hc : c ∈ X.fs
    · obtain ⟨sl, q⟩ := slot c o (I.cne x c e) hc nch ho (I.freeC x c e)
      exact ⟨_, q, hd⟩
    · exact ⟨o, keep c o (I.cne x c e) hc nch ho (I.freeC x c e), hd⟩
  refine ⟨I.ok, I.os, hg, ⟨fun b o e n hb hx => ?_, fun b o e n hb hx => ?_, fun b o e n hx => ?_, fun b o e hx => ?_, fun b xs e => tups b xs (I.base.tups b xs e), fun b o xs e => frzs b o xs (I.base.frzs b o xs e), fun b ps e => ?_⟩, ?_, fun x c e => ?_, ?_, fun x c e => ?_, fun p hp => ?_, hok, I.len⟩
  · exact keep b o (neL b o e) hb (neC b o e hx) (I.base.keep b o e n hb hx) (I.base.free b o e n hx)
  · obtain ⟨sl, e1⟩ := I.base.slot b o e n hb hx
    obtain ⟨sl', e2⟩ := slot b _ (neL b o e) hb (neC b o e hx) e1 (I.base.free b o e n hx)
    exact ⟨sl', e2⟩
  · obtain ⟨o', e1⟩ := I.base.there b o e hx
    exact free b o' (neC b o e hx) e1 (I.base.free b o e n hx)
  · obtain ⟨o', e1⟩ := I.base.there b o e hx
    exact there b o' (neC b o e hx) e1
  · obtain ⟨m1, e1⟩ := I.base.tbls b ps e
    obtain ⟨m2, e2⟩ := tbls b _ e1
    exact ⟨m1 ++ m2, by rw [e2, Array.append_assoc]⟩
  · obtain ⟨m, hn, hl⟩ := I.loc
    refine ⟨m, ns m hn, fun i x v e1 e2 e3 => ?_⟩
    obtain ⟨u, r, l⟩ := hl i x v e1 e2 e3
    refine ⟨u, r, ?_⟩
    rcases l with l | ⟨k, c, e, z⟩
    · exact .inl l
    · exact .inr ⟨k, c, e, cellK x c e _ z⟩
  · obtain ⟨v, z⟩ := I.cell x c e
    exact ⟨v, cellK x c e v z⟩
  · obtain ⟨m, ⟨o, _, _, ho, _⟩, _⟩ := I.loc
    exact free _ o (fun z => (hch _ z).2.1 rfl) ho I.free
  · obtain ⟨v, o, ho, hd⟩ := I.cell x c e
    exact free c o (fun z => (hch c z).2.2.1 x c e rfl) ho (I.freeC x c e)
  · obtain ⟨e, n, ne, nf, d⟩ := I.pin p hp
    have nch : p.1 ∉ ch := fun z => (hch p.1 z).2.2.2 p hp rfl
    exact ⟨keep p.1 p.2 ne nf nch e n, free p.1 p.2 nch e n, ne, nf, d⟩
theorem Inv.un {t' : Nat} (I : Inv X pins σ H s) (u : Un X.fs [] H H' s.heap h') (hok : HOk X.prog X.w H' h') : Inv X pins σ H' { s with heap := h', toks := t' } := by
  obtain ⟨m, ⟨o, es, ep, ho, r⟩, _⟩ := id I.loc
  obtain ⟨sl, hL⟩ := u.any ho I.free (by simp)
  exact I.step (g' := s.gens) (d' := s.drawn) (ch := []) (fun _ z => nomatch z) (fun b o _ hb _ e n => u.keep b o e n hb (by simp)) (fun b o _ hb _ e n => u.slot b o e n hb (by simp)) (fun b o _ e n => u.free b o e n (by simp)) (fun b o _ e => u.there b o e (by simp)) u.tups u.frzs u.tbls (fun m' hm => by
    obtain ⟨o', es', ep', ho', r'⟩ := hm
    rw [ho] at ho'; cases ho'
    exact ⟨_, es', ep', hL, r'⟩) hok I.bare
theorem Inv.call {g' : Array GenState} {t' : Nat} {d' : Drawn} {ch : List Addr} (I : Inv X pins σ H s) (u : Un (frs X.stack) ch H H' s.heap h') (hok : HOk X.prog X.w H' h') (hg : AllBare g')
    (hch : ∀ b ∈ ch, (b ∈ X.ex ∨ X.s₀.heap.objs.size ≤ b) ∧ b ≠ X.env.locals ∧ (∀ x c, X.env.cells.lookup x = some c → c ≠ b) ∧ ∀ p ∈ X.pn ++ pins, p.1 ≠ b) :
    Inv X pins σ H' { s with heap := h', gens := g', drawn := d', toks := t' } := by
  obtain ⟨m, ⟨o, es, ep, ho, r⟩, _⟩ := id I.loc
  obtain ⟨sl, hL⟩ := u.any ho I.free fun z => (hch _ z).2.1 rfl
  exact I.step (ch := ch) hch (fun b o hL hb hc e n => u.keep b o e n (fun z => (List.mem_cons.mp (I.stkSub b z)).elim hL hb) hc) (fun b o _ _ hc e n => u.any e n hc) (fun b o hc e n => u.free b o e n hc) (fun b o hc e => u.there b o e hc) u.tups u.frzs u.tbls (fun m' hm => by
    obtain ⟨o', es', ep', ho', r'⟩ := hm
    rw [ho] at ho'; cases ho'
    exact ⟨_, es', ep', hL, r'⟩) hok hg
theorem Inv.turned {t' : Nat} {it : Addr} (I : Inv X pins σ H s) (k : ∀ b o, b ≠ it → s.heap.get? b = some o → h'.get? b = some o) (hn : H it = none) (hL : it ≠ X.env.locals)
    (h1 : it ∈ X.ex ∨ X.s₀.heap.objs.size ≤ it) (h2 : ∀ x c, X.env.cells.lookup x = some c → c ≠ it) (h3 : ∀ p ∈ X.pn ++ pins, p.1 ≠ it) : Inv X pins σ H { s with heap := h', toks := t' } := by
  have nit : ∀ b u, H b = some u → b ≠ it := fun b u e z => by rw [z, hn] at e; cases e
  refine I.step (g' := s.gens) (d' := s.drawn) (ch := [it]) (fun b hb => ?_) (fun b o _ _ hc e _ => k b o (fun z => hc (by simp [z])) e) (fun b o _ _ hc e _ => ⟨o.slots, k b o (fun z => hc (by simp [z])) e⟩) (fun _ _ _ _ n => n)
    (fun b o hc e => ⟨o, k b o (fun z => hc (by simp [z])) e⟩) (fun _ _ e => e) (fun _ _ _ e => e) (fun b ps e => ⟨#[], by rw [e]; simp⟩) (fun m hm => ?_) (fun b u e => ?_) I.bare
  · have e : b = it := by simpa using hb
    subst e
    exact ⟨h1, hL, h2, h3⟩
  · obtain ⟨o, es, ep, ho, r⟩ := hm
    exact ⟨o, es, ep, k _ o (Ne.symm hL) ho, r⟩
  · refine (I.hok b u e).stay (fun c v hc q => k c v ?_ q) (fun _ q => q) fun _ _ q => q
    rcases hc with z | z
    · rw [z]; exact nit b u e
    · exact nit c _ z
theorem Inv.tok (I : Inv X pins σ H s) (t : Nat) : Inv X pins σ H { s with toks := t } := I.un (h' := s.heap) (t' := t) Un.refl I.hok
theorem Inv.kept {t' : Nat} (I : Inv X pins σ H s) (k : ∀ b u, s.heap.get? b = some u → h'.get? b = some u) : Inv X pins σ H { s with heap := h', toks := t' } := I.un (Un.kept k) (I.hok.kept k)
theorem Inv.laid {a : Addr} {o : HO} {t' : Nat} (I : Inv X pins σ H s) (k : ∀ b u, s.heap.get? b = some u → h'.get? b = some u) (hp : s.heap.objs.size ≤ a) (new : ObjOk X.prog X.w (upd H a o) h' a o) :
    Inv X pins σ (upd H a o) { s with heap := h', toks := t' } := I.un (Un.laid k hp (I.hok.fresh hp)) (I.hok.laid k hp new)
theorem Inv.write {x e : Addr} {o : HO} {t' : Nat} (I : Inv X pins σ H s) (mu : Mut (H x)) (he : e = x ∨ H e = some (.own x)) (k : ∀ b u, b ≠ e → s.heap.get? b = some u → h'.get? b = some u) (heo : ∃ u, h'.get? e = some u)
    (new : ObjOk X.prog X.w (upd H x o) h' x o) : Inv X pins σ (upd H x o) { s with heap := h', toks := t' } := I.un (Un.write mu he k heo) (I.hok.write mu he k heo new)
theorem Inv.pins_of {pins' : List (Addr × Obj)} (I : Inv X pins σ H s) (h : ∀ p ∈ pins', s.heap.get? p.1 = some p.2 ∧ H p.1 = none ∧ p.1 ≠ X.env.locals ∧ p.1 ∉ X.fs ∧ ∀ v, p.2.data ≠ .cell v) : Inv X pins' σ H s :=
  ⟨I.ok, I.os, I.bare, I.base, I.loc, I.cell, I.free, I.freeC, fun p hp => (List.mem_append.mp hp).elim (fun z => I.pin p (List.mem_append_left _ z)) (h p), I.hok, I.len⟩

theorem nodup_ix {N : List Str} (hN : N.Nodup) {i j : Nat} {x : Str} (a : N[i]? = some x) (b : N[j]? = some x) : i = j := by
  obtain ⟨h1, e1⟩ := List.getElem?_eq_some_iff.mp a
  obtain ⟨h2, e2⟩ := List.getElem?_eq_some_iff.mp b
  exact (List.getElem_inj hN).mp (e1.trans e2.symm)

theorem store_ok2 {M : Model} {A : Around} {E : Value → Shared → Prop} {i : Nat} {x : Str} {v : V} {u : Value} {Q : Unit → Shared → Prop} (I : Inv X pins σ H s) (hN : X.N.Nodup) (hi : X.N[i]? = some x) (hx : Loc X.env.scope x) (r : RelV v u)
    (h : ∀ s', Inv X pins (σ.set i (some v)) H s' → (∃ a, Heap.SameBut a s.heap s'.heap ∧ (a = X.env.locals ∨ X.env.cells.lookup x = some a)) → Q () s') (hf : X.fn x = true ∨ X.env.scope.names.lookup x = some .local := by first | exact .inl rfl | exact .inr rfl | assumption) : wpAny M A (storeName X.env x u) Q E s := by
  obtain ⟨m, hn, hl⟩ := id I.loc
  have hcls : (X.env.scope.kind == .class || (X.env.scope.kind == .module && X.env.locals != X.env.globals)) = false := by rw [I.ok.kind]; rfl
  have hiσ : i < σ.length := by rw [I.len]; exact (List.getElem?_eq_some_iff.mp hi).1
  have cne := I.cne
  have tracked : ∀ {a : Addr} {h' : Heap}, (∃ o, s.heap.get? a = some o ∧ H a = none) → Heap.SameBut a s.heap h' → HOk X.prog X.w H h' := fun {a h'} ha hs b ob e => by
    obtain ⟨_, _, hfree⟩ := ha
    refine (I.hok b ob e).stay (fun c w' hc q => (hs.2 c ?_).trans q) (fun _ q => q) fun _ _ q => q
    rintro rfl
    rcases hc with rfl | hc
    · rw [hfree] at e; cases e
    · rw [hfree] at hc; cases hc
  rcases hx with hk | hk
  · refine wpAny_storeName_local hk hn (fun h' hn' hs => ?_) hcls
    obtain ⟨oL, _, _, hoL, _⟩ := id hn
    refine h _ ⟨I.ok, I.os, I.bare, ⟨fun b o e n hb hx => ?_, fun b o e n hb hx => ?_, I.base.free, fun b o e hx => ?_, I.base.tups, I.base.frzs, I.base.tbls⟩, ⟨_, hn', fun j y v' e1 e2 e3 => ?_⟩, fun y c e => ?_, I.free, I.freeC, fun p hp => ?_, tracked ⟨oL, hoL, I.free⟩ hs, by simpa using I.len⟩ ⟨_, hs, .inl rfl⟩
    · exact (hs.2 b (Nat.ne_of_lt (Nat.lt_of_lt_of_le (Heap.lt_size e) I.ok.above))).trans (I.base.keep b o e n hb hx)
    · obtain ⟨sl, e1⟩ := I.base.slot b o e n hb hx
      exact ⟨sl, (hs.2 b (Nat.ne_of_lt (Nat.lt_of_lt_of_le (Heap.lt_size e) I.ok.above))).trans e1⟩
    · obtain ⟨o', e1⟩ := I.base.there b o e hx
      exact ⟨o', (hs.2 b (Nat.ne_of_lt (Nat.lt_of_lt_of_le (Heap.lt_size e) I.ok.above))).trans e1⟩
    · by_cases hj : j = i
      · subst hj
        rw [hi] at e1; cases e1
        rw [List.getElem?_set_self hiσ] at e2
        cases e2
        exact ⟨u, r, .inl ⟨hk, by simp⟩⟩
      · rw [List.getElem?_set_ne (Ne.symm hj)] at e2
        obtain ⟨u', r', q⟩ := hl j y v' e1 e2 e3
        refine ⟨u', r', ?_⟩
        rcases q with ⟨k, e⟩ | ⟨k, c, e, z⟩
        · refine .inl ⟨k, ?_⟩
          have : y ≠ x := fun e => hj (nodup_ix hN e1 (e ▸ hi))
          simp [this, e]
        · exact .inr ⟨k, c, e, z.sameBut hs (cne y c e)⟩
    · obtain ⟨w', z⟩ := I.cell y c e
      exact ⟨w', z.sameBut hs (cne y c e)⟩
    · obtain ⟨e, n, ne, nf, d⟩ := I.pin p hp
      exact ⟨(hs.2 p.1 ne).trans e, n, ne, nf, d⟩
  · have hfn : X.fn x = true := by
      rcases hf with z | z
      · exact z
      · rw [z] at hk; cases hk
    obtain ⟨c, hc⟩ := I.ok.has x (.inl hk)
    obtain ⟨w', z⟩ := I.cell x c hc
    refine wpAny_storeName_cell I.ok.kind hk hc z (fun h' hc' hs => ?_)
    obtain ⟨oc, hoc, hocd⟩ := id z
    refine h { s with heap := h' } ⟨I.ok, I.os, I.bare, ⟨fun b o e n hb hx => ?_, fun b o e n hb hx => ?_, I.base.free, fun b o e hx => ?_, I.base.tups, I.base.frzs, I.base.tbls⟩, ⟨m, hn.sameBut hs (Ne.symm (cne x c hc)), fun j y v' e1 e2 e3 => ?_⟩, fun y c' e => ?_, I.free, I.freeC, fun p hp => ?_, tracked ⟨oc, hoc, I.freeC x c hc⟩ hs, by simpa using I.len⟩ ⟨c, hs, .inr hc⟩
    · exact (hs.2 b (Nat.ne_of_lt (Nat.lt_of_lt_of_le (Heap.lt_size e) (I.ok.cab x c hfn hc)))).trans (I.base.keep b o e n hb hx)
    · obtain ⟨sl, e1⟩ := I.base.slot b o e n hb hx
      exact ⟨sl, (hs.2 b (Nat.ne_of_lt (Nat.lt_of_lt_of_le (Heap.lt_size e) (I.ok.cab x c hfn hc)))).trans e1⟩
    · obtain ⟨o', e1⟩ := I.base.there b o e hx
      exact ⟨o', (hs.2 b (Nat.ne_of_lt (Nat.lt_of_lt_of_le (Heap.lt_size e) (I.ok.cab x c hfn hc)))).trans e1⟩
    · by_cases hj : j = i
      · subst hj
        rw [hi] at e1; cases e1
        rw [List.getElem?_set_self hiσ] at e2
        cases e2
        exact ⟨u, r, .inr ⟨.inl hk, c, hc, hc'⟩⟩
      · rw [List.getElem?_set_ne (Ne.symm hj)] at e2
        obtain ⟨u', r', q⟩ := hl j y v' e1 e2 e3
        refine ⟨u', r', ?_⟩
        rcases q with q | ⟨k, c', e, z'⟩
        · exact .inl q
        · refine .inr ⟨k, c', e, z'.sameBut hs ?_⟩
          rintro rfl
          exact hj (nodup_ix hN e1 (I.ok.inj _ _ _ e hc ▸ hi))
    · by_cases hcc : c' = c
      · subst hcc; exact ⟨_, hc'⟩
      · obtain ⟨w2, z2⟩ := I.cell y c' e
        exact ⟨w2, z2.sameBut hs hcc⟩
    · obtain ⟨e, n, ne, nf, d⟩ := I.pin p hp
      refine ⟨(hs.2 p.1 ?_).trans e, n, ne, nf, d⟩
      intro q
      rw [q, hoc] at e
      have q' : oc = p.2 := Option.some.inj e
      exact d w' (by rw [← q']; exact hocd)
theorem store_ok {M : Model} {A : Around} {E : Value → Shared → Prop} {i : Nat} {x : Str} {v : V} {u : Value} {Q : Unit → Shared → Prop} (I : Inv X pins σ H s) (hN : X.N.Nodup) (hi : X.N[i]? = some x) (hx : Loc X.env.scope x) (r : RelV v u)
    (h : ∀ s', Inv X pins (σ.set i (some v)) H s' → Q () s') (hf : X.fn x = true ∨ X.env.scope.names.lookup x = some .local := by first | exact .inl rfl | exact .inr rfl | assumption) : wpAny M A (storeName X.env x u) Q E s :=
  store_ok2 I hN hi hx r (fun s' I' _ => h s' I') hf
theorem Inv.call' {s' : Shared} {ch : List Addr} (I : Inv X pins σ H s) (ho : s'.os = s.os) (u : Un (frs X.stack) ch H H' s.heap s'.heap) (hok : HOk X.prog X.w H' s'.heap) (hg : AllBare s'.gens)
    (hch : ∀ b ∈ ch, (b ∈ X.ex ∨ X.s₀.heap.objs.size ≤ b) ∧ b ≠ X.env.locals ∧ (∀ x c, X.env.cells.lookup x = some c → c ≠ b) ∧ ∀ p ∈ X.pn ++ pins, p.1 ≠ b) : Inv X pins σ H' s' := by
  obtain ⟨h', g', d', t', o'⟩ := s'
  have e : o' = s.os := ho
  subst e
  exact I.call (g' := g') (t' := t') (d' := d') u hok hg hch
end

abbrev XK := Value → Option Addr → Hp → Prop
abbrev St := List (Option V)
abbrev VK := V → Hp → Prop
abbrev TE := St → Hp → VK → Prop
abbrev TT := St → Hp → (Bool → Hp → Prop) → Prop
abbrev TA := St → Hp → (List V → Hp → Prop) → Prop
structure Ends where
  nx : St → Hp → Prop
  rt : VK
  bk : St → Hp → Prop := fun _ _ => False
  ct : St → Hp → Prop := fun _ _ => False
abbrev TS := Ends → St → Hp → Prop

def EP (X : Cx) (pins : List (Addr × Obj)) (σ : St) (Q : VK) (u : Value) (s' : Shared) : Prop := ∃ v H', Inv X pins σ H' s' ∧ RelV v u ∧ Q v H'
def TP (X : Cx) (pins : List (Addr × Obj)) (σ : St) (Q : Bool → Hp → Prop) (b : Bool) (s' : Shared) : Prop := ∃ H', Inv X pins σ H' s' ∧ Q b H'
def AP (X : Cx) (pins : List (Addr × Obj)) (σ : St) (Q : List V → Hp → Prop) (us : List Value) (s' : Shared) : Prop := ∃ vs H', Inv X pins σ H' s' ∧ Vals vs us ∧ Q vs H'
def SP (X : Cx) (pins : List (Addr × Obj)) (D : Ends) (f : Flow) (s' : Shared) : Prop :=
  match f with
  | .next => ∃ σ' H', Inv X pins σ' H' s' ∧ D.nx σ' H'
  | .brk => ∃ σ' H', Inv X pins σ' H' s' ∧ D.bk σ' H'
  | .cont => ∃ σ' H', Inv X pins σ' H' s' ∧ D.ct σ' H'
  | .ret u => ∃ v σ' H', Inv X pins σ' H' s' ∧ RelV v u ∧ D.rt v H'

def PE (X : Cx) (e : Expr) (t : TE) : Prop :=
  ∀ (pins : List (Addr × Obj)) (s : Shared) (σ : St) (H : Hp) (Q : VK), Inv X pins σ H s → t σ H Q → wpAny (model X.prog X.w) X.A (eval e X.env) (EP X pins σ Q) X.xe s
def PT (X : Cx) (e : Expr) (t : TT) : Prop :=
  ∀ (pins : List (Addr × Obj)) (s : Shared) (σ : St) (H : Hp) (Q : Bool → Hp → Prop), Inv X pins σ H s → t σ H Q → wpAny (model X.prog X.w) X.A (isTrue e X.env (eval e X.env)) (TP X pins σ Q) X.xe s
def PW (X : Cx) (e : Expr) (t : TT) : Prop :=
  ∀ (whole : Sem Value) (pins : List (Addr × Obj)) (s : Shared) (σ : St) (H : Hp) (Q : Bool → Hp → Prop), Inv X pins σ H s → t σ H Q → wpAny (model X.prog X.w) X.A (isTrue e X.env whole) (TP X pins σ Q) X.xe s
theorem PW.pt {X : Cx} {e : Expr} {t : TT} (h : PW X e t) : PT X e t := h _
def PA (X : Cx) (es : List Expr) (t : TA) : Prop :=
  ∀ (pos : Pos) (pins : List (Addr × Obj)) (s : Shared) (σ : St) (H : Hp) (Q : List V → Hp → Prop), Inv X pins σ H s → t σ H Q → wpAny (model X.prog X.w) X.A (spliced (backTo pos (starEach es X.env))) (AP X pins σ Q) X.xe s
def PS (X : Cx) (st : Stmt) (t : TS) : Prop :=
  ∀ (pins : List (Addr × Obj)) (s : Shared) (σ : St) (H : Hp) (D : Ends), Inv X pins σ H s → t D σ H → wpAny (model X.prog X.w) X.A (exec st X.env) (SP X pins D) X.xe s
def PSs (X : Cx) (st : List Stmt) (t : TS) : Prop :=
  ∀ (pins : List (Addr × Obj)) (s : Shared) (σ : St) (H : Hp) (D : Ends), Inv X pins σ H s → t D σ H → wpAny (model X.prog X.w) X.A (execs st X.env) (SP X pins D) X.xe s
theorem thn {α : Type} {t : Sem α} {Q Q' : α → Shared → Prop} {M : Model} {A : Around} {E : Value → Shared → Prop} {s : Shared} (h : wpAny M A t Q E s) (hQ : ∀ a s, Q a s → Q' a s) : wpAny M A t Q' E s := wpAny_mono h hQ fun _ _ x => x
end L2

namespace L2
open PySem PySem.Spec PyProof.Rows
section
variable {X : Cx}

theorem bin {a b : Expr} {ta tb : TE} (ha : PE X a ta) (hb : PE X b tb) {pins : List (Addr × Obj)} {s : Shared} {σ : St} {H : Hp} {R : V → V → Hp → Prop} (I : Inv X pins σ H s) (h : ta σ H fun x H1 => tb σ H1 fun y H2 => R x y H2)
    {α : Type} {Q : α → Shared → Prop} {f : Value → Value → Sem α}
    (hf : ∀ v u s2 x y H2, Inv X pins σ H2 s2 → RelV x v → RelV y u → R x y H2 → wpAny (model X.prog X.w) X.A (f v u) Q X.xe s2) :
    wpAny (model X.prog X.w) X.A (eval a X.env) (fun v s₁ => wpAny (model X.prog X.w) X.A (eval b X.env) (fun u s₂ => wpAny (model X.prog X.w) X.A (f v u) Q X.xe s₂) X.xe s₁) X.xe s := by
  refine thn (ha pins s σ H _ I h) fun v s1 ⟨x, H1, I1, r1, q1⟩ => ?_
  refine thn (hb pins s1 σ H1 _ I1 q1) fun u s2 ⟨y, H2, I2, r2, q2⟩ => ?_
  exact hf v u s2 x y H2 I2 r1 r2 q2

def tVar (i : Nat) : TE := fun σ H Q => ∃ v, σ[i]? = some (some v) ∧ Q v H
def tC (v : V) : TE := fun _ H Q => Q v H
theorem pe_var {i : Nat} {x : Str} {pos : Pos} (hN : X.N[i]? = some x) (hv : Vis X.env.scope x) (hd : (x == ("__debug__" : Str)) = false := by decide) (hcd : (x == ("__classdict__" : Str)) = false := by decide) : PE X (.Name x pos) (tVar i) := by
  intro pins s σ H Q I h
  obtain ⟨v, e, h⟩ := h
  obtain ⟨m, hn, hl⟩ := I.loc
  obtain ⟨u, r, l⟩ := hl i x v hN e hv
  have fin : EP X pins σ Q u s := ⟨v, H, I, r, h⟩
  rcases l with ⟨hk, hm⟩ | ⟨hk, c, hc, hcell⟩
  · exact wpAny_Name (wpAny_loadName_local I.ok.kind hk hn hm fin) hd
  · rcases hk with hk | hk
    · exact wpAny_Name (wpAny_loadName_cell I.ok.kind hk hc hcell fin) hd
    · exact wpAny_Name (wpAny_loadName_free I.ok.kind hk hc hcell fin hcd) hd
theorem pe_int {i j pos} : PE X (.Constant (.int i) j pos) (tC (.int i)) := fun _ _ _ H _ I h => wpAny_Constant_int ⟨.int i, H, I.tok _, ⟨_, rfl⟩, h⟩
theorem pe_bl {b j pos} : PE X (.Constant (.bool b) j pos) (tC (.bl b)) := fun _ _ _ H _ I h => Constant_bool ⟨.bl b, H, I, rfl, h⟩
theorem pe_str {x j pos} : PE X (.Constant (.str x) j pos) (tC (.str x)) := fun _ _ _ H _ I h => Calls.Constant_str ⟨.str x, H, I.tok _, ⟨_, rfl⟩, h⟩

def Gl (X : Cx) (x : Str) : Prop := X.env.kindOf x = some .globalImplicit
theorem ld_glob {E : Value → Shared → Prop} {pins : List (Addr × Obj)} {s : Shared} {σ : St} {H : Hp} {x : Str} {u : Value} {pos : Pos} {Q : Value → Shared → Prop} (I : Inv X pins σ H s) (hg : Gl X x) (hm : X.mg x = some u) (h : Q u s)
    (hd : (x == ("__debug__" : Str)) = false := by decide) : wpAny (model X.prog X.w) X.A (eval (.Name x pos) X.env) Q E s :=
  Calls.Name_function_global I.ok.kind hg (Calls.loadGlobal_global (by rw [I.ok.glob]; exact I.mod.glob.keeps I.bk) hm h) hd
theorem ld_blt {E : Value → Shared → Prop} {pins : List (Addr × Obj)} {s : Shared} {σ : St} {H : Hp} {x : Str} {u : Value} {pos : Pos} {Q : Value → Shared → Prop} (I : Inv X pins σ H s) (hg : Gl X x) (hm : X.mg x = none) (hv : bootBuiltins x = some u) (h : Q u s)
    (hn : x ≠ "__name__" := by decide) (hd : (x == ("__debug__" : Str)) = false := by decide) : wpAny (model X.prog X.w) X.A (eval (.Name x pos) X.env) Q E s := by
  obtain ⟨mb, h1, h2⟩ := I.mod.blt
  exact Calls.Name_function_global I.ok.kind hg (Calls.loadGlobal_builtin (by rw [I.ok.glob]; exact I.mod.glob.keeps I.bk) hm (by rw [I.ok.blt]; exact h1.keeps I.bk) ((h2 x hn).trans hv) h) hd
theorem pe_bltn {x : Str} {v : V} {u : Value} {pos : Pos} (hg : Gl X x) (hm : X.mg x = none) (hv : bootBuiltins x = some u) (r : RelV v u) (hn : x ≠ "__name__" := by decide) (hd : (x == ("__debug__" : Str)) = false := by decide) : PE X (.Name x pos) (tC v) :=
  fun _ _ _ H _ I h => ld_blt I hg hm hv ⟨v, H, I, r, h⟩ hn hd

variable {a b : Expr} {ta tb : TE} {pos : Pos}
def PC (X : Cx) (op : CmpOp) (a b : Expr) (t : TE) : Prop :=
  ∀ (pins : List (Addr × Obj)) (s : Shared) (σ : St) (H : Hp) (Q : VK), Inv X pins σ H s → t σ H Q →
    wpAny (model X.prog X.w) X.A (eval a X.env) (fun v s₁ => wpAny (model X.prog X.w) X.A (eval b X.env) (fun u s₂ => wpAny (model X.prog X.w) X.A (compareOp op v u) (EP X pins σ Q) X.xe s₂) X.xe s₁) X.xe s
theorem nobehind (b : Expr) {op : CmpOp} (h : op ≠ .In) (h2 : op ≠ .NotIn) : behindInMarks op b = false := by
  have e1 : (op == CmpOp.In) = false := by cases op <;> first | rfl | exact absurd rfl h
  have e2 : (op == CmpOp.NotIn) = false := by cases op <;> first | rfl | exact absurd rfl h2
  cases b <;> simp [behindInMarks, e1, e2]
def tB (t : TE) : TT := fun σ H Q => t σ H fun x H1 => ∃ c, x = .bl c ∧ Q c H1
theorem pt_cmp {op : CmpOp} {t : TE} (h : PC X op a b t) (h1 : behindInMarks op b = false := by first | exact nobehind _ (by decide) (by decide) | rfl) : PT X (.Compare a [op] [b] pos) (tB t) := by
  intro pins s σ H Q I hw
  refine wpAny_isTrue_Compare1 (thn (h pins s σ H _ I hw) fun v s1 h1 => thn h1 fun u s2 h2 => thn h2 fun c s3 ⟨x, H1, I1, r1, q1⟩ => ?_) h1
  obtain ⟨d, rfl, q⟩ := q1
  cases r1
  exact wpAny_truthy_bool ⟨H1, I1, q⟩
theorem pt_val {e : Expr} {t : TE} (h : PE X e t) (he : ∀ whole, isTrue e X.env whole = (do let v ← whole; standAt e.pos; holding [v] (truthy v)) := by intro _; rfl) : PT X e (tB t) := by
  intro pins s σ H Q I hw
  refine isTrue_plain (thn (h pins s σ H _ I hw) fun v s1 ⟨x, H1, I1, r1, q1⟩ => ?_) (he _)
  obtain ⟨d, rfl, q⟩ := q1
  cases r1
  exact wpAny_truthy_bool ⟨H1, I1, q⟩

variable {tA tB' : TT} {rest : List Expr}
def tAnd (t u : TT) : TT := fun σ H Q => t σ H fun c H1 => if c = true then u σ H1 Q else Q false H1
def tOr (t u : TT) : TT := fun σ H Q => t σ H fun c H1 => if c = true then Q true H1 else u σ H1 Q
def tNot (t : TT) : TT := fun σ H Q => t σ H fun c H1 => Q (!c) H1
theorem pw_and1 (ha : PT X a tA) : PW X (.BoolOp .And [a] pos) tA := by
  intro wh pins s σ H Q I h
  refine isTrue_and (thn (ha pins s σ H Q I h) fun c s1 e => ?_)
  cases c with
  | true => exact isTrue_and_nil e
  | false => exact e
theorem pw_or1 (ha : PT X a tA) : PW X (.BoolOp .Or [a] pos) tA := by
  intro wh pins s σ H Q I h
  refine isTrue_or (thn (ha pins s σ H Q I h) fun c s1 e => ?_)
  cases c with
  | false => exact isTrue_or_nil e
  | true => exact e
theorem pw_and (ha : PT X a tA) (hb : PW X (.BoolOp .And (b :: rest) pos) tB') : PW X (.BoolOp .And (a :: b :: rest) pos) (tAnd tA tB') := by
  intro wh pins s σ H Q I h
  refine isTrue_and (thn (ha pins s σ H _ I h) fun c s1 ⟨H1, I1, q1⟩ => ?_)
  cases c with
  | true => exact hb wh pins s1 σ H1 Q I1 q1
  | false => exact ⟨H1, I1, q1⟩
theorem pw_or (ha : PT X a tA) (hb : PW X (.BoolOp .Or (b :: rest) pos) tB') : PW X (.BoolOp .Or (a :: b :: rest) pos) (tOr tA tB') := by
  intro wh pins s σ H Q I h
  refine isTrue_or (thn (ha pins s σ H _ I h) fun c s1 ⟨H1, I1, q1⟩ => ?_)
  cases c with
  | true => exact ⟨H1, I1, q1⟩
  | false => exact hb wh pins s1 σ H1 Q I1 q1
theorem pt_not (ha : PT X a tA) : PT X (.UnaryOp .Not a pos) (tNot tA) := by
  intro pins s σ H Q I h
  exact isTrue_not (ha pins s σ H (fun c H1 => Q (!c) H1) I h)
def tAndV (ta tb : TE) : TE := fun σ H Q => ta σ H fun x H1 => ∃ c, x = .bl c ∧ if c = true then tb σ H1 Q else Q (.bl false) H1
def tNotV (ta : TE) : TE := fun σ H Q => ta σ H fun x H1 => ∃ c, x = .bl c ∧ Q (.bl (!c)) H1
theorem pe_one {op} {t : TE} (h : PE X a t) : PE X (.BoolOp op [a] pos) t := fun pins s σ H Q I hw => BoolOp_one (h pins s σ H Q I hw)
theorem pe_and (ha : PE X a ta) (hb : PE X (.BoolOp .And (b :: rest) pos) tb) : PE X (.BoolOp .And (a :: b :: rest) pos) (tAndV ta tb) := by
  intro pins s σ H Q I h
  refine BoolOp_and (thn (ha pins s σ H _ I h) fun v s1 ⟨x, H1, I1, r1, q1⟩ => ?_)
  obtain ⟨c, rfl, q1⟩ := q1
  cases r1
  refine wpAny_truthy_bool ?_
  cases c with
  | true => exact hb pins s1 σ H1 Q I1 q1
  | false => exact ⟨.bl false, H1, I1, rfl, q1⟩
theorem pe_not (ha : PE X a ta) : PE X (.UnaryOp .Not a pos) (tNotV ta) := by
  intro pins s σ H Q I h
  refine UnaryOp_ (thn (ha pins s σ H _ I h) fun v s1 ⟨x, H1, I1, r1, q1⟩ => ?_)
  obtain ⟨c, rfl, q1⟩ := q1
  cases r1
  exact not_of (wpAny_truthy_bool ⟨.bl (!c), H1, I1, rfl, q1⟩)
def tIf (t : TT) (ta tb : TE) : TE := fun σ H Q => t σ H fun c H1 => if c = true then ta σ H1 Q else tb σ H1 Q
theorem pe_ifExp {c : Expr} (hc : PT X c tA) (ha : PE X a ta) (hb : PE X b tb) : PE X (.IfExp c a b pos) (tIf tA ta tb) := by
  intro pins s σ H Q I h
  refine wpAny_IfExp (thn (hc pins s σ H _ I h) fun d s1 ⟨H1, I1, q1⟩ => ?_)
  cases d with
  | true => exact ha pins s1 σ H1 Q I1 q1
  | false => exact hb pins s1 σ H1 Q I1 q1
end
end L2

namespace L2
open PySem PySem.Spec PyProof.Rows

def SqL (K : PySem.W.Frag) (H : Hp) (a : Addr) (xs : List V) : Prop :=
  Rd H a (.lst xs) ∨
    ∃ (o : Obj) (its : Array Value) (n : Nat), K.lookup a = some o ∧ o.cls = .type "list" ∧ o.dict = none ∧ o.data = .seq its n ∧ its.size ≤ sizeLine ∧ Vals xs its.toList
def SqT (K : PySem.W.Frag) (H : Hp) (a : Addr) (xs : List V) : Prop :=
  Rd H a (.tup xs) ∨
    ∃ (o : Obj) (its : Array Value) (n : Nat), K.lookup a = some o ∧ o.cls = .type "tuple" ∧ o.data = .seq its n ∧ its.size ≤ sizeLine ∧ Vals xs its.toList
def absV : Value → Option V
  | .none => some .non
  | .bool b => some (.bl b)
  | .int i _ => some (.int i)
  | .str x _ => some (.str x)
  | .bytes b _ => some (.byt b)
  | .float b _ => some (.flt b)
  | .ref a => some (.ref a)
  | .type n => some (.ty n)
  | _ => none
theorem RelV.abs {x : V} {u : Value} (r : RelV x u) : absV u = some x := by
  cases x with
  | non => cases r; rfl
  | bl _ => cases r; rfl
  | int _ => obtain ⟨t, rfl⟩ := r; rfl
  | str _ => obtain ⟨t, rfl⟩ := r; rfl
  | byt _ => obtain ⟨t, rfl⟩ := r; rfl
  | flt _ => obtain ⟨t, rfl⟩ := r; rfl
  | ref _ => cases r; rfl
  | ty _ => cases r; rfl
theorem RelV.inj {x y : V} {u : Value} (r : RelV x u) (q : RelV y u) : x = y := Option.some.inj (r.abs.symm.trans q.abs)
theorem Vals.inj : ∀ {xs ys : List V} {us : List Value}, Vals xs us → Vals ys us → xs = ys
  | _, _, _, .nil, .nil => rfl
  | _, _, _, .cons r t, .cons r' t' => by rw [r.inj r', Vals.inj t t']
section
variable {X : Cx} {pins : List (Addr × Obj)} {σ : St} {H : Hp} {s : Shared} {a : Addr} {xs ys : List V}
theorem SqL.of {K : PySem.W.Frag} (h : H a = some (.lst xs)) : SqL K H a xs := .inl (.inl h)
theorem SqT.of {K : PySem.W.Frag} (h : H a = some (.tup xs)) : SqT K H a xs := .inl (.inl h)
theorem Inv.list (I : Inv X pins σ H s) (h : SqL X.K H a xs) : ∃ its : List Value, Vals xs its ∧ PlainL s.heap a its.toArray ∧ xs.length ≤ sizeLine := by
  rcases h with h | ⟨o, its, n, hk, hc, hd, hs, hz, r⟩
  · obtain ⟨z, its, n, r, e⟩ := h.ok I.hok
    exact ⟨its, r, ⟨_, n, e, rfl, rfl, rfl⟩, z⟩
  · refine ⟨its.toList, r, ⟨o, n, I.kIn a o hk, hc, hd, by simpa using hs⟩, ?_⟩
    have e := r.length
    simp only [Array.length_toList] at e
    omega
theorem Inv.tuple (I : Inv X pins σ H s) (h : SqT X.K H a xs) : ∃ its : List Value, Vals xs its ∧ IsTup s.heap a its.toArray ∧ xs.length ≤ sizeLine := by
  rcases h with h | ⟨o, its, n, hk, hc, hs, hz, r⟩
  · obtain ⟨z, its, r, p⟩ := h.ok I.hok
    exact ⟨its, r, p, z⟩
  · refine ⟨its.toList, r, ⟨o, I.kIn a o hk, hc, n, by simpa using hs⟩, ?_⟩
    have e := r.length
    simp only [Array.length_toList] at e
    omega
theorem Inv.list_inj (I : Inv X pins σ H s) (h : SqL X.K H a xs) (h' : SqL X.K H a ys) : xs = ys := by
  obtain ⟨its, r, ⟨o, n, e, _, _, d⟩, _⟩ := I.list h
  obtain ⟨its', r', ⟨o', n', e', _, _, d'⟩, _⟩ := I.list h'
  rw [e] at e'; cases e'
  rw [d] at d'
  injection d' with d1 _
  have : its = its' := by simpa using congrArg Array.toList d1
  subst this
  exact r.inj r'
theorem Inv.tuple_inj (I : Inv X pins σ H s) (h : SqT X.K H a xs) (h' : SqT X.K H a ys) : xs = ys := by
  obtain ⟨its, r, ⟨o, e, _, n, d⟩, _⟩ := I.tuple h
  obtain ⟨its', r', ⟨o', e', _, n', d'⟩, _⟩ := I.tuple h'
  rw [e] at e'; cases e'
  rw [d] at d'
  injection d' with d1 _
  have : its = its' := by simpa using congrArg Array.toList d1
  subst this
  exact r.inj r'
end

abbrev Cx.wish (X : Cx) (E : Value → Shared → Prop) : Cx := { X with xe := E }
abbrev Cx.nox (X : Cx) : Cx := X.wish fun _ _ => False
theorem Cx.Ok.wish {X : Cx} (ok : X.Ok) (E : Value → Shared → Prop) : (X.wish E).Ok :=
  ⟨ok.mod, ok.kind, ok.glob, ok.blt, ok.above, ok.inj, ok.has, ok.cab, ok.hd, ok.frames, ok.stk, ok.exf, ok.bs, ok.bsz, ok.noex, ok.exfs, ok.funs, ok.frf⟩
theorem Cx.Ok.unwish {X : Cx} {E : Value → Shared → Prop} (ok : (X.wish E).Ok) : X.Ok :=
  ⟨ok.mod, ok.kind, ok.glob, ok.blt, ok.above, ok.inj, ok.has, ok.cab, ok.hd, ok.frames, ok.stk, ok.exf, ok.bs, ok.bsz, ok.noex, ok.exfs, ok.funs, ok.frf⟩
section
variable {X : Cx} {pins : List (Addr × Obj)} {σ : St} {H : Hp} {s : Shared} {E : Value → Shared → Prop}
theorem Inv.wish (I : Inv X pins σ H s) (E : Value → Shared → Prop) : Inv (X.wish E) pins σ H s := ⟨I.ok.wish E, I.os, I.bare, I.base, I.loc, I.cell, I.free, I.freeC, I.pin, I.hok, I.len⟩
theorem Inv.unwish (I : Inv (X.wish E) pins σ H s) : Inv X pins σ H s := ⟨I.ok.unwish, I.os, I.bare, I.base, I.loc, I.cell, I.free, I.freeC, I.pin, I.hok, I.len⟩
theorem SP.unwish {D : Ends} {f : Flow} {s' : Shared} (h : SP (X.wish E) pins D f s') : SP X pins D f s' := by
  cases f with
  | next => obtain ⟨σ', H', I, q⟩ := h; exact ⟨σ', H', I.unwish, q⟩
  | brk => obtain ⟨σ', H', I, q⟩ := h; exact ⟨σ', H', I.unwish, q⟩
  | cont => obtain ⟨σ', H', I, q⟩ := h; exact ⟨σ', H', I.unwish, q⟩
  | ret u => obtain ⟨v, σ', H', I, r, q⟩ := h; exact ⟨v, σ', H', I.unwish, r, q⟩
theorem PSs.nox {st : List Stmt} {t : TS} (h : PSs X.nox st t) : PSs X st t := fun pins s σ H D I hw =>
  wpAny_mono (h pins s σ H D (I.wish _) hw) (fun _ _ q => q.unwish) fun _ _ z => False.elim z
end

section
variable {X : Cx} {st : Stmt} {rest : List Stmt} {t u : TS} {e : Expr} {te : TE} {pos : Pos}
def tNext : TS := fun D σ H => D.nx σ H
def tSeq (t u : TS) : TS := fun D σ H => t { D with nx := u D } σ H
theorem pss_nil : PSs X [] tNext := fun _ _ σ H _ I h => wpAny_execs_nil ⟨σ, H, I, h⟩
theorem pss_cons (h1 : PS X st t) (h2 : PSs X rest u) : PSs X (st :: rest) (tSeq t u) := by
  intro pins s σ H D I h
  refine wpAny_execs_cons (thn (h1 pins s σ H { D with nx := u D } I h) fun f s1 q => ?_)
  cases f with
  | next =>
    obtain ⟨σ', H', I', q⟩ := q
    exact h2 pins s1 σ' H' D I' q
  | ret v => exact q
  | brk => exact q
  | cont => exact q
theorem pss_one (h1 : PS X st t) : PSs X [st] t := by
  intro pins s σ H D I h
  refine wpAny_execs_cons (thn (h1 pins s σ H D I h) fun f s1 q => ?_)
  cases f with
  | next => exact wpAny_execs_nil q
  | ret v => exact q
  | brk => exact q
  | cont => exact q
theorem Inv.quiet {pins : List (Addr × Obj)} {σ : St} {H : Hp} {s : Shared} (I : Inv X pins σ H s) : interactive X.env = false := by simp [interactive, I.ok.kind]
def tDrop (te : TE) : TS := fun D σ H => te σ H fun _ H1 => D.nx σ H1
theorem ps_expr (he : PE X e te) (hs : swapsWith e none pos.line X.env = pure false := by rfl) : PS X (.Expr e pos) (tDrop te) := by
  intro pins s σ H D I h
  exact wpAny_Expr_any (thn (he pins s σ H _ I h) fun v s1 ⟨x, H1, I1, r1, q1⟩ => ⟨σ, H1, I1, q1⟩) I.quiet hs
def tRet (te : TE) : TS := fun D σ H => te σ H D.rt
theorem ps_ret (he : PE X e te) : PS X (.Return (some e) pos) (tRet te) := by
  intro pins s σ H D I h
  exact wpAny_Return_some (thn (he pins s σ H _ I h) fun v s1 ⟨x, H1, I1, r1, q1⟩ => ⟨x, σ, H1, I1, r1, q1⟩)
def tIfS (c : TT) (t u : TS) : TS := fun D σ H => c σ H fun b H1 => if b = true then t D σ H1 else u D σ H1
theorem ps_if {c : Expr} {a b : List Stmt} {tc : TT} (hc : PT X c tc) (ha : PSs X a t) (hb : PSs X b u) : PS X (.If c a b pos) (tIfS tc t u) := by
  intro pins s σ H D I h
  refine wpAny_If (thn (hc pins s σ H _ I h) fun d s1 ⟨H1, I1, q1⟩ => ?_)
  cases d with
  | true => exact ha pins s1 σ H1 D I1 q1
  | false => exact hb pins s1 σ H1 D I1 q1
end

abbrev TG := V → St → Hp → (St → Hp → Prop) → Prop
def PG (X : Cx) (target : Expr) (t : TG) : Prop :=
  ∀ (pins : List (Addr × Obj)) (s : Shared) (σ : St) (H : Hp) (v : V) (u : Value) (Q : St → Hp → Prop), Inv X pins σ H s → RelV v u → t v σ H Q →
    wpAny (model X.prog X.w) X.A (assign target X.env u) (fun _ s' => ∃ σ' H', Inv X pins σ' H' s' ∧ Q σ' H') X.xe s
section
variable {X : Cx} {pos : Pos}
def gName (i : Nat) : TG := fun v σ H Q => Q (σ.set i (some v)) H
theorem pg_name {i : Nat} {x : Str} (hN : X.N.Nodup) (hi : X.N[i]? = some x) (hx : Loc X.env.scope x) (hf : X.fn x = true ∨ X.env.scope.names.lookup x = some .local := by first | exact .inl rfl | exact .inr rfl | assumption) : PG X (.Name x pos) (gName i) := by
  intro pins s σ H v u Q I r h
  exact wpAny_assign_Name (store_ok I hN hi hx r (fun s' I' => ⟨_, H, I', h⟩) hf)
def tAsg (te : TE) (g : TG) : TS := fun D σ H => te σ H fun x H1 => g x σ H1 D.nx
theorem ps_set {i : Nat} {x : Str} {e : Expr} {te : TE} {pos' : Pos} (hN : X.N.Nodup) (hi : X.N[i]? = some x) (hx : Loc X.env.scope x) (he : PE X e te) (hs : swapsWith e (some (.Name x pos')) pos.line X.env = pure false := by rfl) (hf : X.fn x = true ∨ X.env.scope.names.lookup x = some .local := by first | exact .inl rfl | exact .inr rfl | assumption) :
    PS X (.Assign [.Name x pos'] e pos) (tAsg te (gName i)) := by
  intro pins s σ H D I h
  refine wpAny_Assign_Name (thn (he pins s σ H _ I h) fun v s1 ⟨y, H1, I1, r1, q1⟩ => ?_) hs
  exact store_ok I1 hN hi hx r1 (fun s2 I2 => ⟨_, H1, I2, q1⟩) hf
end

section
variable {X : Cx} {pos : Pos}
end

structure It where
  go : Nat → Hp → Prop
  yld : Nat → Hp → V → Hp → Prop
  stop : Nat → Hp → Prop
def FpOk (X : Cx) (pins : List (Addr × Obj)) (H : Hp) (b : Addr) : Prop :=
  H b = none ∧ b ≠ X.env.locals ∧ b ∉ X.fs ∧ (b ∈ X.ex ∨ X.s₀.heap.objs.size ≤ b) ∧ (∀ x c, X.env.cells.lookup x = some c → c ≠ b) ∧ ∀ p ∈ X.pn ++ pins, p.1 ≠ b
theorem Inv.fpOk {X : Cx} {pins : List (Addr × Obj)} {σ : St} {H H' : Hp} {s : Shared} {b : Addr} (I : Inv X pins σ H s) (hb : s.heap.objs.size ≤ b) (hn : H' b = none) : FpOk X pins H' b := by
  refine ⟨hn, Nat.ne_of_gt (Nat.lt_of_lt_of_le I.lt hb), I.nofs hb, .inr (Nat.le_trans I.sz hb), fun x c e z => ?_, fun p hp z => ?_⟩
  · obtain ⟨v, q⟩ := I.cell x c e
    exact absurd (Nat.lt_of_lt_of_le q.lt (by rw [z]; exact hb)) (Nat.lt_irrefl _)
  · exact absurd (Nat.lt_of_lt_of_le (Heap.lt_size (I.pin p hp).1) (by rw [z]; exact hb)) (Nat.lt_irrefl _)
structure Turn (P : Program) (w : World) (K : PySem.W.Frag) (tg : Expr) (J : It) (fp : List Addr) (it : Addr) (tn : Nat → Heap → Prop) : Prop where
  mem : it ∈ fp
  obj : ∀ i h, tn i h → ∀ b ∈ fp, ∃ o, h.get? b = some o ∧ ∀ v, o.data ≠ .cell v
  keep : ∀ i h h', tn i h → (∀ b ∈ fp, ∀ o, h.get? b = some o → h'.get? b = some o) → tn i h'
  item : ∀ (X : Cx), X.prog = P → X.w = w → X.K = K → X.calm = true → ∀ (i : Nat) (pins : List (Addr × Obj)) (s : Shared) (σ : St) (H : Hp) (E : Value → Shared → Prop), Inv X pins σ H s → (∀ b ∈ fp, FpOk X pins H b) → tn i s.heap → J.go i H →
    wpAny (model P w) X.A (pyNext (.ref it)) (fun r s1 => ∃ u, r = some u ∧
      wpAny (model P w) X.A (letOwnedTupleGo tg (.ref it) u) (fun _ s2 => ∃ x H', Inv X pins σ H' s2 ∧ RelV x u ∧ J.yld i H x H' ∧ tn (i + 1) s2.heap ∧ ∀ b ∈ fp, H' b = none) E s1) E s
  done : ∀ (X : Cx), X.prog = P → X.w = w → X.K = K → X.calm = true → ∀ (i : Nat) (pins : List (Addr × Obj)) (s : Shared) (σ : St) (H : Hp) (E : Value → Shared → Prop), Inv X pins σ H s → (∀ b ∈ fp, FpOk X pins H b) → tn i s.heap → J.stop i H →
    wpAny (model P w) X.A (pyNext (.ref it)) (fun r s1 => r = none ∧ Inv X pins σ H s1) E s
  self : ∀ (A : Around) (i : Nat) (s : Shared) (Q : Value → Shared → Prop) (E : Value → Shared → Prop), tn i s.heap → Q (.ref it) s → wpAny (model P w) A (pyIter (.ref it)) Q E s
abbrev TI := St → Hp → (It → Hp → Prop) → Prop
def PIE (X : Cx) (pins : List (Addr × Obj)) (σ : St) (tg : Expr) (R : It → Hp → Prop) (itv : Value) (s2 : Shared) : Prop :=
  ∃ (it : Addr) (fp : List Addr) (tn : Nat → Heap → Prop) (J : It) (H' : Hp), itv = .ref it ∧ Inv X pins σ H' s2 ∧ Turn X.prog X.w X.K tg J fp it tn ∧ tn 0 s2.heap ∧ (∀ b ∈ fp, FpOk X pins H' b) ∧ R J H'
def PI (X : Cx) (tg iter : Expr) (wi : TI) : Prop :=
  ∀ (pins : List (Addr × Obj)) (s : Shared) (σ : St) (H : Hp) (R : It → Hp → Prop), Inv X pins σ H s → wi σ H R →
    wpAny (model X.prog X.w) X.A (eval iter X.env) (fun v s1 => wpAny (model X.prog X.w) X.A (pyIter v) (PIE X pins σ tg R) X.xe s1) X.xe s

theorem go_of {M : Model} {A : Around} {E : Value → Shared → Prop} {s : Shared} {tg : Expr} {it : Addr} {u : Value} {o : Obj} {n : String} {vs : Array Value} {Q : Unit → Shared → Prop} (ho : s.heap.get? it = some o) (hc : o.cls = .type n) (hd : o.data = .fields vs)
    (hn : ["enumerate", "zip", "dict_itemiterator", "dict_reverseitemiterator", "odict_iterator", "itertools.zip_longest", "itertools.pairwise"].contains n = false) (hQ : Q () s) : wpAny M A (letOwnedTupleGo tg (.ref it) u) Q E s := by
  unfold letOwnedTupleGo
  cases tg <;> first
    | exact wpAny_pure hQ
    | (cases u <;> first
        | exact wpAny_pure hQ
        | (refine wpAny_bind (wpAny_load ho ?_)
           rw [hc, hd]
           show wpAny M A (if (["enumerate", "zip", "dict_itemiterator", "dict_reverseitemiterator", "odict_iterator", "itertools.zip_longest", "itertools.pairwise"].contains n && vs[0]? == some (rawInt _)) = true then _ else _) Q E s
           rw [if_neg (by intro h; rw [hn, Bool.false_and] at h; cases h)]
           exact wpAny_pure hQ))

def Itl (K : PySem.W.Frag) (a : Addr) : It :=
  ⟨fun i H => ∃ xs x, SqL K H a xs ∧ xs[i]? = some x, fun i H x H' => H' = H ∧ ∀ xs, SqL K H a xs → xs[i]? = some x, fun i H => ∃ xs, SqL K H a xs ∧ xs.length ≤ i⟩
def Itt (K : PySem.W.Frag) (a : Addr) : It :=
  ⟨fun i H => ∃ xs x, SqT K H a xs ∧ xs[i]? = some x, fun i H x H' => H' = H ∧ ∀ xs, SqT K H a xs → xs[i]? = some x, fun i H => ∃ xs, SqT K H a xs ∧ xs.length ≤ i⟩
def Itr (lo : Int) (n : Nat) : It := ⟨fun i _ => i < n, fun i H x H' => H' = H ∧ x = .int (lo + i), fun i _ => n ≤ i⟩
theorem turn_list {P : Program} {w : World} {K : PySem.W.Frag} {tg : Expr} (a it : Addr) : Turn P w K tg (Itl K a) [it] it (fun i h => h.IsListIter it a i) where
  mem := by simp
  obj := fun i h st b hb => by
    have e : b = it := by simpa using hb
    subst e
    obtain ⟨o, e, c, d⟩ := st
    exact ⟨o, e, fun v z => by rw [d] at z; cases z⟩
  keep := fun i h h' st k => st.at fun o e => k it (by simp) o e
  item := by
    intro X hP hw hK hc i pins s σ H E I hf st hg
    subst hP hw hK
    obtain ⟨xs, x, hq, hx⟩ := hg
    obtain ⟨its, rv, p, hz⟩ := I.list hq
    obtain ⟨u, hu, ru⟩ := rv.get hx
    obtain ⟨f0, f1, f2, f3, f4, f5⟩ := hf it (by simp)
    refine wpAny_pyNext_list_item st p.isList (x := u) (by simpa using hu) fun h' st' sb => ?_
    have I1 : Inv X pins σ H { s with heap := h' } := I.turned (t' := s.toks) (fun b o hb e => (sb.2 b hb).trans e) f0 f1 f3 f4 f5
    obtain ⟨o, e, c, d⟩ := id st'
    exact ⟨u, rfl, go_of (s := { s with heap := h' }) e c d (by decide) ⟨x, H, I1, ru, ⟨rfl, fun ys hy => by rw [I.list_inj hy hq]; exact hx⟩, st', fun b hb => (hf b hb).1⟩⟩
  done := by
    intro X hP hw hK hc i pins s σ H E I hf st hg
    subst hP hw hK
    obtain ⟨xs, hq, hx⟩ := hg
    obtain ⟨its, rv, p, hz⟩ := I.list hq
    obtain ⟨f0, f1, f2, f3, f4, f5⟩ := hf it (by simp)
    have hl := rv.length
    exact wpAny_pyNext_list_end (I.ok.hd hc) st p.isList (by simp; omega) fun h' eb => ⟨rfl, I.turned (t' := s.toks) (fun b o hb e => eb b o hb e) f0 f1 f3 f4 f5⟩
  self := fun _ _ _ _ _ st h => wpAny_pyIter_listiter st h
theorem turn_tuple {P : Program} {w : World} {K : PySem.W.Frag} {tg : Expr} (a it : Addr) : Turn P w K tg (Itt K a) [it] it (fun i h => h.IsTupleIter it a i) where
  mem := by simp
  obj := fun i h st b hb => by
    have e : b = it := by simpa using hb
    subst e
    obtain ⟨o, e, c, d⟩ := st
    exact ⟨o, e, fun v z => by rw [d] at z; cases z⟩
  keep := fun i h h' st k => st.at fun o e => k it (by simp) o e
  item := by
    intro X hP hw hK hc i pins s σ H E I hf st hg
    subst hP hw hK
    obtain ⟨xs, x, hq, hx⟩ := hg
    obtain ⟨its, rv, p, hz⟩ := I.tuple hq
    obtain ⟨u, hu, ru⟩ := rv.get hx
    obtain ⟨f0, f1, f2, f3, f4, f5⟩ := hf it (by simp)
    refine wpAny_pyNext_tuple_item st (show s.heap.IsTuple a its.toArray from p) (x := u) (by simpa using hu) fun h' st' sb => ?_
    have I1 : Inv X pins σ H { s with heap := h' } := I.turned (t' := s.toks) (fun b o hb e => (sb.2 b hb).trans e) f0 f1 f3 f4 f5
    obtain ⟨o, e, c, d⟩ := id st'
    exact ⟨u, rfl, go_of (s := { s with heap := h' }) e c d (by decide) ⟨x, H, I1, ru, ⟨rfl, fun ys hy => by rw [I.tuple_inj hy hq]; exact hx⟩, st', fun b hb => (hf b hb).1⟩⟩
  done := by
    intro X hP hw hK hc i pins s σ H E I hf st hg
    subst hP hw hK
    obtain ⟨xs, hq, hx⟩ := hg
    obtain ⟨its, rv, p, hz⟩ := I.tuple hq
    obtain ⟨f0, f1, f2, f3, f4, f5⟩ := hf it (by simp)
    have hl := rv.length
    exact wpAny_pyNext_tuple_end (I.ok.hd hc) st (show s.heap.IsTuple a its.toArray from p) (by simp; omega) fun h' eb => ⟨rfl, I.turned (t' := s.toks) (fun b o hb e => eb b o hb e) f0 f1 f3 f4 f5⟩
  self := fun _ _ _ _ _ st h => wpAny_pyIter_tupleiter st h
theorem turn_range {P : Program} {w : World} {K : PySem.W.Frag} {tg : Expr} (it : Addr) (lo : Int) (n : Nat) : Turn P w K tg (Itr lo n) [it] it (fun i h => IsRangeIter h it (lo + (i : Nat) * 1) ((n : Int) - (i : Nat)) 1) where
  mem := by simp
  obj := fun i h st b hb => by
    have e : b = it := by simpa using hb
    subst e
    exact ⟨_, st, fun v z => by
      have z' : Data.fields _ = Data.cell v := z
      cases z'⟩
  keep := fun i h h' st k => k it (by simp) _ st
  item := by
    intro X hP hw hK hc i pins s σ H E I hf st hg
    subst hP hw hK
    obtain ⟨f0, f1, f2, f3, f4, f5⟩ := hf it (by simp)
    have W := Walks.range (prog := X.prog) (w := X.w) (I.ok.hd hc) it lo 1 n
    refine W.item i s _ _ hg st fun v h' tk hv st' kk => ?_
    obtain ⟨t, rfl⟩ := hv
    have I1 : Inv X pins σ H { s with heap := h', toks := tk } := I.turned (fun b o hb e => kk b o (by simpa using hb) e) f0 f1 f3 f4 f5
    refine ⟨_, rfl, go_of (s := { s with heap := h', toks := tk }) (n := "range_iterator") st' rfl rfl (by decide) ⟨.int (lo + i), H, I1, ⟨t, ?_⟩, ⟨rfl, rfl⟩, st', fun b hb => (hf b hb).1⟩⟩
    rw [Int.mul_one]
  done := by
    intro X hP hw hK hc i pins s σ H E I hf st hg
    subst hP hw hK
    obtain ⟨f0, f1, f2, f3, f4, f5⟩ := hf it (by simp)
    exact wpAny_pyNext_range_end (I.ok.hd hc) st (by have : n ≤ i := hg; omega) fun h' eb => ⟨rfl, I.turned (t' := s.toks) (fun b o hb e => eb b o hb e) f0 f1 f3 f4 f5⟩
  self := fun _ _ _ _ _ st h => wpAny_pyIter_rangeiter st h
end L2

namespace L2
open PySem PySem.Spec PyProof.Rows
section
variable {X : Cx} {tg : Expr}
theorem range_it {pins : List (Addr × Obj)} {σ : St} {H : Hp} {s : Shared} {R : It → Hp → Prop} {E : Value → Shared → Prop} {lo hi : Int} {t u v : Tok} {tk : Nat} (I : Inv X pins σ H s) (h1 : -(2 ^ 62) ≤ lo) (h2 : lo < 2 ^ 62) (h3 : -(2 ^ 62) ≤ hi) (h4 : hi < 2 ^ 62)
    (q : R (Itr lo (hi - lo).toNat) H) : wpAny (model X.prog X.w) X.A (pyIter (.ref s.heap.objs.size)) (PIE X pins σ tg R) E { s with heap := s.heap.push { cls := .type "range", data := .fields #[.int lo t, .int hi u, .int 1 v] }, toks := tk } := by
  refine wpAny_pyIter_range (IsRange.new ..) (small_one h1 h2 h3 h4) ?_
  have I1 : Inv X pins σ H { s with heap := s.heap.push { cls := .type "range", data := .fields #[.int lo t, .int hi u, .int 1 v] }, toks := tk } := I.kept fun b o e => Heap.get?_push_of_some _ e
  refine ⟨(s.heap.push { cls := .type "range", data := .fields #[.int lo t, .int hi u, .int 1 v] }).objs.size, [(s.heap.push { cls := .type "range", data := .fields #[.int lo t, .int hi u, .int 1 v] }).objs.size], _, _, H, rfl,
    I1.kept (t' := tk) fun b o e => Heap.get?_push_of_some _ e, turn_range _ lo (hi - lo).toNat, ?_, fun b hb => ?_, q⟩
  · have e1 : lo + ((0 : Nat) : Int) * 1 = lo := by simp
    have e2 : (((hi - lo).toNat : Nat) : Int) - ((0 : Nat) : Int) = Builtin.Range.rangeSize lo hi 1 := by rw [rangeSize_one]; split <;> omega
    show IsRangeIter _ _ (lo + ((0 : Nat) : Int) * 1) ((((hi - lo).toNat : Nat) : Int) - ((0 : Nat) : Int)) 1
    rw [e1, e2]
    exact Heap.get?_push_size _ rfl
  · have e : b = (s.heap.push { cls := .type "range", data := .fields #[.int lo t, .int hi u, .int 1 v] }).objs.size := by simpa using hb
    subst e
    exact I1.fpOk (Nat.le_refl _) (I1.hok.fresh (Nat.le_refl _))
def iRng1 (ta : TA) : TI := fun σ H R => ta σ H fun vs H1 => ∃ j : Int, vs = [.int j] ∧ -(2 ^ 62) ≤ j ∧ j < 2 ^ 62 ∧ R (Itr 0 j.toNat) H1
theorem pi_range1 {a : Expr} {ta : TA} {p pos : Pos} (hg : Gl X "range") (hm : X.mg "range" = none) (ha : PA X [a] ta) (hs : starEach [a] X.env = [(false, eval a X.env)] := by rfl) : PI X tg (.Call (.Name "range" p) [a] [] pos) (iRng1 ta) := by
  intro pins s σ H R I h
  refine Call_ (ld_blt I hg hm boot_range (PyProof.Rows.callWith_type1 (thn (ha pos pins s σ H _ I h) fun us s1 ⟨vs, H1, I1, r1, q1⟩ => ?_) hs rfl))
  obtain ⟨j, e, q1, q2, q⟩ := q1
  subst e
  cases r1 with
  | cons r rr =>
    cases rr
    obtain ⟨t, rfl⟩ := r
    exact call_range_1 (range_it I1 (by omega) (by omega) q1 q2 (by simpa using q))
def tFor (wi : TI) (g : TG) (tb : TS) : TS := fun D σ H => wi σ H fun J H1 => ∃ W : Nat → Nat → St → Hp → Prop, (∃ m, W 0 m σ H1) ∧ ∀ i m σ H, W i m σ H →
  (J.stop i H ∧ D.nx σ H) ∨ (J.go i H ∧ ∃ N : St → Hp → Prop, (∀ σ' H', N σ' H' → ∃ m', m' < m ∧ W (i + 1) m' σ' H') ∧ ∀ x H', J.yld i H x H' → g x σ H' fun σ2 H2 => tb { D with nx := N, ct := N, bk := D.nx } σ2 H2)
def pinsAt (fp : List Addr) (h : Heap) : List (Addr × Obj) := fp.filterMap fun b => (h.get? b).map fun o => (b, o)
theorem mem_pinsAt {fp : List Addr} {h : Heap} {b : Addr} {o : Obj} (hb : b ∈ fp) (e : h.get? b = some o) : (b, o) ∈ pinsAt fp h := List.mem_filterMap.mpr ⟨b, hb, by rw [e]; rfl⟩
theorem of_pinsAt {fp : List Addr} {h : Heap} {p : Addr × Obj} (hp : p ∈ pinsAt fp h) : p.1 ∈ fp ∧ h.get? p.1 = some p.2 := by
  obtain ⟨b, hb, e⟩ := List.mem_filterMap.mp hp
  cases q : h.get? b with
  | none => rw [q] at e; cases e
  | some o =>
    rw [q] at e
    have e' : (b, o) = p := Option.some.inj e
    subst e'
    exact ⟨hb, q⟩
theorem Inv.pinned {pins : List (Addr × Obj)} {σ : St} {H : Hp} {s : Shared} {fp : List Addr} (I : Inv X pins σ H s) (hf : ∀ b ∈ fp, FpOk X pins H b) (ho : ∀ b ∈ fp, ∃ o, s.heap.get? b = some o ∧ ∀ v, o.data ≠ .cell v) : Inv X (pins ++ pinsAt fp s.heap) σ H s :=
  I.pins_of fun p hp => (List.mem_append.mp hp).elim (fun z => I.pin p (List.mem_append_right _ z)) fun z => by
    obtain ⟨hb, e⟩ := of_pinsAt z
    obtain ⟨f0, f1, f2, _⟩ := hf p.1 hb
    obtain ⟨o, e', d⟩ := ho p.1 hb
    rw [e] at e'; cases e'
    exact ⟨e, f0, f1, f2, d⟩
theorem Inv.unpinned {pins pl : List (Addr × Obj)} {σ : St} {H : Hp} {s : Shared} (I : Inv X (pins ++ pl) σ H s) : Inv X pins σ H s := I.pins_of fun p hp => I.pin p (List.mem_append_right _ (List.mem_append_left _ hp))
theorem ps_for {iter : Expr} {body : List Stmt} {wi : TI} {g : TG} {tb : TS} {pos : Pos} (hp : PassesOwn (model X.prog X.w) X.A X.env X.xe) (hc : X.calm = true) (hi : PI X tg iter wi) (hg : PG X tg g) (hb : PSs X body tb)
    (hs : ∀ x, foldedSetIterable iter X.env x = pure x := by intro _; rfl) : PS X (.For tg iter body [] pos) (tFor wi g tb) := by
  intro pins s σ H D I h
  refine wpAny_For (thn (hi pins s σ H _ I h) fun v s1 h1 => thn h1 fun itv s2 h2 => ?_) hs
  obtain ⟨it, fp, tn, J, H2, e, I2, T, st2, f2, W, ⟨m0, w0⟩, turn⟩ := h2
  subst e
  -- what stays true of the iterator's objects through the loop
  have stat : ∀ {H' : Hp}, (∀ b ∈ fp, H' b = none) → ∀ b ∈ fp, FpOk X pins H' b := fun hn b hb => ⟨hn b hb, (f2 b hb).2⟩
  refine codeAny_forLoop_any (fun n s' => ∃ i σ' H', Inv X pins σ' H' s' ∧ tn i s'.heap ∧ (∀ b ∈ fp, H' b = none) ∧ W i n σ' H') ?_ m0 ⟨0, σ, H2, I2, st2, fun b hb => (f2 b hb).1, w0⟩
  rintro n s3 ⟨i, σ3, H3, I3, st3, fr3, w3⟩
  rcases turn i n σ3 H3 w3 with ⟨stop, qn⟩ | ⟨go, N, hN, step⟩
  · refine wpAny_passesOwn hp (thn (T.done X rfl rfl rfl hc i pins s3 σ3 H3 X.xe I3 (stat fr3) st3 stop) fun r s4 ⟨hr, I4⟩ => ?_)
    subst hr
    exact wpAny_execs_nil ⟨σ3, H3, I4, qn⟩
  · refine wpAny_passesOwn hp (thn (T.item X rfl rfl rfl hc i pins s3 σ3 H3 X.xe I3 (stat fr3) st3 go) fun r s4 ⟨u, hr, h4⟩ => ?_)
    subst hr
    refine wpAny_passesOwn hp (thn h4 fun _ s5 ⟨x, H5, I5, r5, y5, st5, fr5⟩ => ?_)
    have I5' := I5.pinned (stat fr5) (T.obj _ _ st5)
    refine wpAny_passesOwn hp (thn (hg _ s5 σ3 H5 x u _ I5' r5 (step x H5 y5)) fun _ s6 ⟨σ6, H6, I6, q6⟩ => ?_)
    refine wpAny_passesOwn hp (thn (hb _ s6 σ6 H6 _ I6 q6) fun f s7 q7 => ?_)
    have again : ∀ {σ7 : St} {H7 : Hp}, Inv X (pins ++ pinsAt fp s5.heap) σ7 H7 s7 → N σ7 H7 → ∃ m, m < n ∧ ∃ i σ' H', Inv X pins σ' H' s7 ∧ tn i s7.heap ∧ (∀ b ∈ fp, H' b = none) ∧ W i m σ' H' := fun {σ7 H7} I7 n7 => by
      obtain ⟨m', hm, w7⟩ := hN σ7 H7 n7
      refine ⟨m', hm, i + 1, σ7, H7, I7.unpinned, T.keep _ _ _ st5 fun b hb o e => (I7.pin (b, o) (List.mem_append_right _ (List.mem_append_right _ (mem_pinsAt hb e)))).1, fun b hb => ?_, w7⟩
      obtain ⟨o, e, d⟩ := T.obj _ _ st5 b hb
      exact (I7.pin (b, o) (List.mem_append_right _ (List.mem_append_right _ (mem_pinsAt hb e)))).2.1
    cases f with
    | next => obtain ⟨σ7, H7, I7, n7⟩ := q7; exact again I7 n7
    | cont => obtain ⟨σ7, H7, I7, n7⟩ := q7; exact again I7 n7
    | brk => obtain ⟨σ7, H7, I7, q7⟩ := q7; exact ⟨σ7, H7, I7.unpinned, q7⟩
    | ret v => obtain ⟨x7, σ7, H7, I7, r7, q7⟩ := q7; exact ⟨x7, σ7, H7, I7.unpinned, r7, q7⟩
end

end L2

namespace L2
open PySem PySem.Spec PyProof.Rows

abbrev R2 := V → V → Hp → VK → Prop
def OpR (X : Cx) (f : Value → Value → Sem Value) (r : R2) : Prop :=
  ∀ (pins : List (Addr × Obj)) (s : Shared) (σ : St) (H : Hp) (x y : V) (v u : Value) (Q : VK), Inv X pins σ H s → RelV x v → RelV y u → r x y H Q →
    wpAny (model X.prog X.w) X.A (f v u) (EP X pins σ Q) X.xe s
def UnR (X : Cx) (f : Value → Sem Value) (r : V → Hp → VK → Prop) : Prop :=
  ∀ (pins : List (Addr × Obj)) (s : Shared) (σ : St) (H : Hp) (x : V) (v : Value) (Q : VK), Inv X pins σ H s → RelV x v → r x H Q →
    wpAny (model X.prog X.w) X.A (f v) (EP X pins σ Q) X.xe s
def CallR (X : Cx) (f : Value) (r : List V → Hp → VK → Prop) : Prop :=
  ∀ (pins : List (Addr × Obj)) (s : Shared) (σ : St) (H : Hp) (xs : List V) (us : List Value) (Q : VK), Inv X pins σ H s → Vals xs us → r xs H Q →
    wpAny (model X.prog X.w) X.A (call f us) (EP X pins σ Q) X.xe s
def tOp (r : R2) (ta tb : TE) : TE := fun σ H Q => ta σ H fun x H1 => tb σ H1 fun y H2 => r x y H2 Q
def tUn (r : V → Hp → VK → Prop) (ta : TE) : TE := fun σ H Q => ta σ H fun x H1 => r x H1 Q
def rI (C : Int → Int → Prop) (g : Int → Int → V) : R2 := fun x y H Q => ∃ i j, x = .int i ∧ y = .int j ∧ C i j ∧ Q (g i j) H
def rI0 (g : Int → Int → V) : R2 := fun x y H Q => ∃ i j, x = .int i ∧ y = .int j ∧ Q (g i j) H
def rU (g : Int → V) : V → Hp → VK → Prop := fun x H Q => ∃ i, x = .int i ∧ Q (g i) H

section
variable {X : Cx} {a b c : Expr} {ta tb tc : TE} {pos : Pos}

theorem binT (ha : PE X a ta) (hb : PE X b tb) {pins : List (Addr × Obj)} {s : Shared} {σ : St} {H : Hp} {R : V → V → Hp → Prop} (I : Inv X pins σ H s)
    (h : ta σ H fun x H1 => tb σ H1 fun y H2 => R x y H2) {Q : Value → Shared → Prop} {f : Value → Value → Sem Value}
    (hf : ∀ v u s2 x y H2, Inv X pins σ H2 s2 → RelV x v → RelV y u → R x y H2 → wpAny (model X.prog X.w) X.A (f v u) Q X.xe s2) :
    wpAny (model X.prog X.w) X.A (eval a X.env) (fun v s₁ => wpAny (model X.prog X.w) X.A (eval b X.env) (fun u s₂ => wpAny (model X.prog X.w) X.A (f v u) Q X.xe s₂) X.xe s₁) X.xe s := by
  refine thn (ha pins s σ H _ I h) fun v s1 ⟨x, H1, I1, r1, q1⟩ => ?_
  refine thn (hb pins s1 σ H1 _ I1 q1) fun u s2 ⟨y, H2, I2, r2, q2⟩ => ?_
  exact hf v u s2 x y H2 I2 r1 r2 q2

theorem pe_op {op : Operator} {r : R2} (ho : OpR X (binaryOp op) r) (ha : PE X a ta) (hb : PE X b tb) : PE X (.BinOp a op b pos) (tOp r ta tb) := by
  intro pins s σ H Q I h
  exact wpAny_BinOp (binT ha hb I h fun v u s2 x y H2 I2 rx ry q => ho pins s2 σ H2 x y v u Q I2 rx ry q)
theorem pe_un {op : UnaryOp} {r : V → Hp → VK → Prop} (ho : UnR X (unaryOp op) r) (ha : PE X a ta) : PE X (.UnaryOp op a pos) (tUn r ta) := by
  intro pins s σ H Q I h
  exact UnaryOp_ (thn (ha pins s σ H _ I h) fun v s1 ⟨x, H1, I1, r1, q1⟩ => ho pins s1 σ H1 x v Q I1 r1 q1)
theorem opI {f : Value → Value → Sem Value} {C : Int → Int → Prop} {g : Int → Int → Int}
    (rule : ∀ (i j : Int) (t u : Tok) (s : Shared) (Q : Value → Shared → Prop) (E : Value → Shared → Prop), C i j → Q (.int (g i j) s.toks) { s with toks := s.toks + 1 } → wpAny (model X.prog X.w) X.A (f (.int i t) (.int j u)) Q E s) :
    OpR X f (rI C fun i j => .int (g i j)) := by
  intro pins s σ H x y v u Q I rx ry h
  obtain ⟨i, j, rfl, rfl, hc, q⟩ := h
  obtain ⟨t, rfl⟩ := rx
  obtain ⟨t', rfl⟩ := ry
  exact rule i j t t' s _ _ hc ⟨.int (g i j), H, I.tok _, ⟨_, rfl⟩, q⟩
theorem opI0 {f : Value → Value → Sem Value} {g : Int → Int → Int}
    (rule : ∀ (i j : Int) (t u : Tok) (s : Shared) (Q : Value → Shared → Prop) (E : Value → Shared → Prop), Q (.int (g i j) s.toks) { s with toks := s.toks + 1 } → wpAny (model X.prog X.w) X.A (f (.int i t) (.int j u)) Q E s) :
    OpR X f (rI0 fun i j => .int (g i j)) := by
  intro pins s σ H x y v u Q I rx ry h
  obtain ⟨i, j, rfl, rfl, q⟩ := h
  obtain ⟨t, rfl⟩ := rx
  obtain ⟨t', rfl⟩ := ry
  exact rule i j t t' s _ _ ⟨.int (g i j), H, I.tok _, ⟨_, rfl⟩, q⟩
theorem opB0 {f : Value → Value → Sem Value} {g : Int → Int → Bool}
    (rule : ∀ (i j : Int) (t u : Tok) (s : Shared) (Q : Value → Shared → Prop) (E : Value → Shared → Prop), Q (.bool (g i j)) s → wpAny (model X.prog X.w) X.A (f (.int i t) (.int j u)) Q E s) :
    OpR X f (rI0 fun i j => .bl (g i j)) := by
  intro pins s σ H x y v u Q I rx ry h
  obtain ⟨i, j, rfl, rfl, q⟩ := h
  obtain ⟨t, rfl⟩ := rx
  obtain ⟨t', rfl⟩ := ry
  exact rule i j t t' s _ _ ⟨.bl (g i j), H, I, rfl, q⟩

def CPow (i j : Int) : Prop := 0 ≤ j ∧ j ≤ 1000000 ∧ i.natAbs < 2 ^ 64
def CMul (i j : Int) : Prop := (-(2 ^ 64) < i ∧ i < 2 ^ 64) ∨ (-(2 ^ 64) < j ∧ j < 2 ^ 64)
theorem CMul.ok {i j : Int} (h : CMul i j) : IntMulOk i j := by
  rcases h with ⟨h1, h2⟩ | ⟨h1, h2⟩
  · exact .of_left (intBits_le_64 h1 h2)
  · exact .of_right (intBits_le_64 h1 h2)
theorem two_pow_nn (k : Nat) : (0 : Int) ≤ 2 ^ k := by
  rw [two_pow_cast]
  exact Int.natCast_nonneg _

theorem op_add : OpR X (binaryOp .Add) (rI0 fun i j => .int (i + j)) := opI0 fun _ _ _ _ _ _ _ q => add_int q
theorem op_sub : OpR X (binaryOp .Sub) (rI0 fun i j => .int (i - j)) := opI0 fun _ _ _ _ _ _ _ q => sub_int q
theorem op_modN : OpR X (binaryOp .Mod) (rI (fun _ j => j ≠ 0) fun i j => .int (i.fmod j)) := opI fun _ _ _ _ _ _ _ hc q => mod_int' hc q
theorem op_pow : OpR X (binaryOp .Pow) (rI CPow fun i j => .int (i ^ j.toNat)) := opI fun _ _ _ _ _ _ _ hc q => pow_int_small hc.1 hc.2.1 hc.2.2 q
theorem op_shr : OpR X (binaryOp .RShift) (rI (fun _ j => 0 ≤ j) fun i j => .int (i / 2 ^ j.toNat)) := opI fun i j _ _ _ _ _ hc q =>
  rshift_int hc (by rw [Int.fdiv_eq_ediv_of_nonneg i (two_pow_nn _)]; exact q)
theorem unI {f : Value → Sem Value} {g : Int → Int}
    (rule : ∀ (i : Int) (t : Tok) (s : Shared) (Q : Value → Shared → Prop) (E : Value → Shared → Prop), Q (.int (g i) s.toks) { s with toks := s.toks + 1 } → wpAny (model X.prog X.w) X.A (f (.int i t)) Q E s) :
    UnR X f (rU fun i => .int (g i)) := by
  intro pins s σ H x v Q I rx h
  obtain ⟨i, rfl, q⟩ := h
  obtain ⟨t, rfl⟩ := rx
  exact rule i t s _ _ ⟨.int (g i), H, I.tok _, ⟨_, rfl⟩, q⟩
theorem un_neg : UnR X (unaryOp .USub) (rU fun i => .int (-i)) := unI fun _ _ _ _ _ q => neg_int q
end

section
variable {X : Cx} {a b c : Expr} {ta tb tc : TE} {pos : Pos}
theorem op_lt : OpR X (compareOp .Lt) (rI0 fun i j => .bl (decide (i < j))) := opB0 fun _ _ _ _ _ _ _ q => lt_int q
theorem op_gt : OpR X (compareOp .Gt) (rI0 fun i j => .bl (decide (j < i))) := opB0 fun _ _ _ _ _ _ _ q => gt_int q
theorem op_ge : OpR X (compareOp .GtE) (rI0 fun i j => .bl (decide (j ≤ i))) := opB0 fun _ _ _ _ _ _ _ q => ge_int q
theorem nomark (b : Expr) {op : CmpOp} (h : op ≠ .In := by decide) (h2 : op ≠ .NotIn := by decide) : behindInMarks op b = false := by
  have e1 : (op == CmpOp.In) = false := by cases op <;> first | rfl | exact absurd rfl h
  have e2 : (op == CmpOp.NotIn) = false := by cases op <;> first | rfl | exact absurd rfl h2
  cases b <;> simp [behindInMarks, e1, e2]
theorem pe_cmpR {op : CmpOp} {r : R2} (ho : OpR X (compareOp op) r) (ha : PE X a ta) (hb : PE X b tb) (hm : behindInMarks op b = false) : PE X (.Compare a [op] [b] pos) (tOp r ta tb) := by
  intro pins s σ H Q I h
  exact wpAny_Compare1 (binT ha hb I h fun v u s2 x y H2 I2 rx ry q => ho pins s2 σ H2 x y v u Q I2 rx ry q) hm
def tTest (t : TE) : TT := fun σ H Q => t σ H fun x H' => ∃ k, x = .bl k ∧ Q k H'
theorem pt_cmpR {op : CmpOp} {r : R2} (ho : OpR X (compareOp op) r) (ha : PE X a ta) (hb : PE X b tb) (hm : behindInMarks op b = false) : PT X (.Compare a [op] [b] pos) (tTest (tOp r ta tb)) := by
  intro pins s σ H Q I h
  refine wpAny_isTrue_Compare1 (thn (ha pins s σ H _ I h) fun v s1 ⟨x, H1, I1, r1, q1⟩ => thn (hb pins s1 σ H1 _ I1 q1) fun u s2 ⟨y, H2, I2, r2, q2⟩ =>
    thn (ho pins s2 σ H2 x y v u _ I2 r1 r2 q2) fun c s3 ⟨z, H3, I3, r3, k, e, q3⟩ => ?_) hm
  subst e
  cases r3
  exact wpAny_truthy_bool ⟨H3, I3, q3⟩
theorem line63 : (sizeLine : Nat) < 2 ^ 63 := by rw [sizeLine_eq]; decide
theorem vals1 {x : V} {us : List Value} (r : Vals [x] us) : ∃ u, us = [u] ∧ RelV x u := by
  cases r with
  | cons r1 r2 => cases r2; exact ⟨_, rfl, r1⟩
theorem vals2 {x y : V} {us : List Value} (r : Vals [x, y] us) : ∃ u w', us = [u, w'] ∧ RelV x u ∧ RelV y w' := by
  cases r with
  | cons r1 r2 =>
    cases r2 with
    | cons r3 r4 => cases r4; exact ⟨_, _, rfl, r1, r3⟩
theorem call_min2 (hc : X.calm = true) : CallR X (.builtin "min") (fun xs H Q => ∃ i j, xs = [.int i, .int j] ∧ Q (.int (if j < i then j else i)) H) := by
  intro pins s σ H xs us Q I r h
  obtain ⟨i, j, rfl, q⟩ := h
  obtain ⟨u, w', rfl, ⟨t, rfl⟩, ⟨t', rfl⟩⟩ := vals2 r
  refine min_two_ints (I.ok.hd hc) fun h' tk k => ⟨_, H, I.kept k, ?_, q⟩
  by_cases hj : j < i
  · rw [if_pos hj, if_pos hj]; exact ⟨_, rfl⟩
  · rw [if_neg hj, if_neg hj]; exact ⟨_, rfl⟩
theorem call_int1 : CallR X (.type "int") (fun xs H Q => (∃ i, xs = [.int i] ∧ Q (.int i) H) ∨ ∃ k, xs = [.bl k] ∧ Q (.int (if k then 1 else 0)) H) := by
  intro pins s σ H xs us Q I r h
  rcases h with ⟨i, rfl, q⟩ | ⟨k, rfl, q⟩
  · obtain ⟨u, rfl, t, rfl⟩ := vals1 r
    exact call_int_int ⟨.int i, H, I, ⟨_, rfl⟩, q⟩
  · obtain ⟨u, rfl, r1⟩ := vals1 r
    cases r1
    exact call_int_bool ⟨.int (if k then 1 else 0), H, I.tok _, ⟨_, rfl⟩, q⟩
end
end L2

namespace L2
open PySem PySem.Spec PyProof.Rows

structure ObjM (h : Heap) (x dx C : Addr) (mA : Str → Option Value) : Prop where
  obj : h.get? x = some (PySem.W.instObj C dx)
  ns : h.Ns1 dx mA
  ne : dx ≠ x

theorem lookIn_ns {h : Heap} {dx : Addr} {mA : Str → Option Value} (n : h.Ns1 dx mA) : ∃ od, h.get? dx = some od ∧ ∀ name, PySem.W.lookIn name od = some (mA name) := by
  obtain ⟨o, es, ep, ho, hd, hk, _, hm⟩ := n
  refine ⟨o, ho, fun name => ?_⟩
  have e := hm name
  unfold nsFind findBy at e
  rw [← Array.find?_toList] at e
  unfold PySem.W.lookIn
  rw [hd]
  dsimp only
  split
  · rename_i y q
    rw [q] at e
    exact congrArg some e
  · rename_i q
    rw [q] at e
    have a : es.toList.any (·.refKey) = false := by
      rw [List.any_eq_false]
      intro y hy
      obtain ⟨z, t, hkey⟩ := hk y (Array.mem_toList_iff.mp hy)
      simp [DictEntry.refKey, hkey]
    have a' : ¬ es.toList.any (·.refKey) = true := by rw [a]; exact Bool.false_ne_true
    rw [if_neg a']
    exact congrArg some e

theorem ObjM.look {h : Heap} {x dx C : Addr} {mA : Str → Option Value} (I : ObjM h x dx C mA) : ∃ od, PySem.W.InstAt h x (PySem.W.instObj C dx) C (some od) ∧ ∀ name, PySem.W.lookIn name od = some (mA name) :=
  let ⟨od, ho, hl⟩ := lookIn_ns I.ns
  ⟨od, ⟨I.obj, rfl, rfl, ho⟩, hl⟩

section
variable {prog : Program} {w : World} {A : Around} {E : Value → Shared → Prop} {s : Shared} {K : PySem.W.Frag} {x dx C f : Addr} {mA : Str → Option Value} {name : Str} {v : Value}

end

section
variable {P : Program} {w : World} {H H' : Hp} {h h' : Heap} {a C dx : Addr} {fs fs' : List (Str × V)}
theorem ins_get (hok : HOk P w H h) (e : H a = some (.ins C dx fs)) : ∃ mA, ObjM h a dx C mA ∧ (∀ f, RelO (fs.lookup f) (mA f)) ∧ PySem.Within mA (fs.map (·.1)) ∧ fs.length ≤ 1000 ∧ H dx = some (.own a) := by
  obtain ⟨d, z, ne, ob, mA, n, r, q⟩ := (show ObjOk P w H h a (.ins C dx fs) from hok a _ e)
  exact ⟨mA, ⟨ob, n, ne⟩, r, q, z, d⟩
end

structure Cls (K : PySem.W.Frag) (C : Addr) : Prop where
  pg : PySem.W.plainGet K C Str.empty = true
  hd : PySem.W.hasDictIn K C = true
  po : PySem.W.plainOver K C = true
  sa : PySem.W.findIn K (.ref C) "__setattr__" = some (some (.builtin "object.__setattr__"))
theorem Cls.get {K : PySem.W.Frag} {C : Addr} (c : Cls K C) (f : Str) : PySem.W.plainGet K C f = true := c.pg
section
variable {X : Cx} {pins : List (Addr × Obj)} {σ : St} {H : Hp} {s : Shared} {a C dx : Addr} {fs : List (Str × V)} {f : Str} {v : V} {A : Around} {E : Value → Shared → Prop}

end

section
variable {X : Cx} {o e value : Expr} {f : Str} {pos pos' tpos : Pos} {ta tv : TE}
end

section
variable {X : Cx} {pins : List (Addr × Obj)} {σ : St} {H : Hp} {s : Shared} {A : Around} {E : Value → Shared → Prop} {Q : Value → Shared → Prop} {c : Value} {b : Bool}
inductive TyOf (K : PySem.W.Frag) (H : Hp) : V → Value → Prop where
  | non : TyOf K H .non (.type "NoneType")
  | bl (x : Bool) : TyOf K H (.bl x) (.type "bool")
  | int (i : Int) : TyOf K H (.int i) (.type "int")
  | str (x : Str) : TyOf K H (.str x) (.type "str")
  | flt (x : UInt64) : TyOf K H (.flt x) (.type "float")
  | lst {a : Addr} {xs : List V} (e : H a = some (.lst xs)) : TyOf K H (.ref a) (.type "list")
  | frz {a : Addr} {o : Obj} {xs : List V} (e : H a = some (.frz o (.lst xs))) : TyOf K H (.ref a) (.type "list")
  | tup {a : Addr} {xs : List V} (e : H a = some (.tup xs)) : TyOf K H (.ref a) (.type "tuple")
  | dK {a : Addr} {kvs : List (Key × V)} (e : H a = some (.dK kvs)) : TyOf K H (.ref a) (.type "dict")
  | dT {a : Addr} {kvs : List (List Key × V)} (e : H a = some (.dT kvs)) : TyOf K H (.ref a) (.type "dict")
  | ins {a C dx : Addr} {fs : List (Str × V)} (e : H a = some (.ins C dx fs)) (cl : Cls K C) (ha : PySem.W.findIn K (.ref C) "__class__" = some (some (.builtin "object.__class__")))
      (hn : PySem.W.specialIn K (.builtin "object.__class__") "__get__" = some (some (.builtin "getset_descriptor.__get__"))) (htk : PySem.W.takesIn K (.builtin "object.__class__") = some true)
      (hm : PySem.W.mroIn K C (.type "object") = some true) : TyOf K H (.ref a) (.ref C)
theorem isinst_ok {x : V} {u t : Value} (I : Inv X pins σ H s) (rx : RelV x u) (ty : TyOf X.K H x t) (e : PySem.W.kitOne X.K t c = some b) (h : ∀ tk, Q (.bool b) { s with toks := tk }) :
    wpAny (model X.prog X.w) A (call (.builtin "isinstance") [u, c]) Q E s := by
  cases ty with
  | non => cases (show u = Value.none from rx); exact PySem.W.kia_one PySem.W.kitx_none I.kIn True.intro e (fun z => nomatch z) h
  | bl y => cases (show u = Value.bool y from rx); exact PySem.W.kia_one PySem.W.kitx_bool I.kIn True.intro e (fun z => nomatch z) h
  | int i => obtain ⟨t, q⟩ := (show ∃ t, u = Value.int i t from rx); cases q; exact PySem.W.kia_one PySem.W.kitx_int I.kIn True.intro e (fun z => nomatch z) h
  | str y => obtain ⟨t, q⟩ := (show ∃ t, u = Value.str y t from rx); cases q; exact PySem.W.kia_one PySem.W.kitx_str I.kIn True.intro e (fun z => nomatch z) h
  | flt y => obtain ⟨t, q⟩ := (show ∃ t, u = Value.float y t from rx); cases q; exact PySem.W.kia_one PySem.W.kitx_float I.kIn True.intro e (fun z => nomatch z) h
  | @lst a xs ea =>
    cases (show u = Value.ref a from rx)
    obtain ⟨_, _, n, _, h1⟩ := (show ObjOk X.prog X.w H s.heap a (.lst xs) from I.hok a _ ea)
    exact PySem.W.kia_one PySem.W.kitx_list I.kIn ⟨_, h1, rfl⟩ e (fun z => nomatch z) h
  | @frz a ob xs ea =>
    cases (show u = Value.ref a from rx)
    obtain ⟨_, _, _, n, _, h1⟩ := (show ObjOk X.prog X.w H s.heap a (.frz ob (.lst xs)) from I.hok a _ ea)
    exact PySem.W.kia_one PySem.W.kitx_list I.kIn ⟨_, h1, rfl⟩ e (fun z => nomatch z) h
  | @tup a xs ea =>
    cases (show u = Value.ref a from rx)
    obtain ⟨_, _, _, p⟩ := (show ObjOk X.prog X.w H s.heap a (.tup xs) from I.hok a _ ea)
    obtain ⟨o, h1, h2, _⟩ := p
    exact PySem.W.kia_one PySem.W.kitx_tuple I.kIn ⟨o, h1, h2⟩ e (fun z => nomatch z) h
  | @dK a kvs ea =>
    cases (show u = Value.ref a from rx)
    obtain ⟨_, _, vs, _, p⟩ := (show ObjOk X.prog X.w H s.heap a (.dK kvs) from I.hok a _ ea)
    obtain ⟨o, es, ep, h1, h2, _⟩ := p
    exact PySem.W.kia_one PySem.W.kitx_dict I.kIn ⟨o, h1, h2.1⟩ e (fun z => nomatch z) h
  | @dT a kvs ea =>
    cases (show u = Value.ref a from rx)
    obtain ⟨_, _, xs, _, o, es, ep, h1, h2, _⟩ := (show ObjOk X.prog X.w H s.heap a (.dT kvs) from I.hok a _ ea)
    exact PySem.W.kia_one PySem.W.kitx_dict I.kIn ⟨o, h1, h2.1⟩ e (fun z => nomatch z) h
  | @ins a C dx fs ea cl ha hn htk hm =>
    cases (show u = Value.ref a from rx)
    obtain ⟨mA, O, _⟩ := ins_get I.hok ea
    obtain ⟨od, J, _⟩ := O.look
    exact PySem.W.kia_one (PySem.W.kitx_own (cl.get _) cl.hd ha hn htk hm) I.kIn J e (fun z => nomatch z) h
end
end L2

namespace L2
open PySem PySem.Spec PyProof.Rows

structure Room (k : Nat) (A : Around) : Prop where
  hd : A.handled = none
  dp : A.depth + 3 * k + 5 < recursionLimit
  un : A.units + 16 * k + 200 < cLine
theorem Room.mono {j k : Nat} {A : Around} (r : Room k A) (h : j ≤ k) : Room j A := ⟨r.hd, by have := r.dp; omega, by have := r.un; omega⟩
theorem Room.deeper {k : Nat} {A : Around} (r : Room (k + 1) A) (env : Env) : Room k (A.deeper env) :=
  ⟨r.hd, by have := r.dp; show A.depth + 1 + 3 * k + 5 < _; omega, by have := r.un; show A.units + 3 + 16 * k + 200 < _; omega⟩
theorem Room.depth {k : Nat} {A : Around} (r : Room k A) : A.depth < recursionLimit := by have := r.dp; omega
theorem Room.units {k : Nat} {A : Around} (r : Room k A) : A.units + 64 < cLine := by have := r.un; omega
def tNil : TA := fun _ H Q => Q [] H
def tCons (ta : TE) (tr : TA) : TA := fun σ H Q => ta σ H fun x H1 => tr σ H1 fun xs H2 => Q (x :: xs) H2
section
variable {X : Cx} {e : Expr} {es : List Expr} {te : TE} {t : TA} {pos : Pos}
theorem pa_nil : PA X [] tNil := fun _ _ _ _ H Q I h => Calls.spliced_nil ⟨[], H, I, .nil, h⟩
theorem pa_cons (ha : PE X e te) (hr : PA X es t) (hs : starEach (e :: es) X.env = (false, eval e X.env) :: starEach es X.env := by rfl) : PA X (e :: es) (tCons te t) := by
  intro pos pins s σ H Q I h
  rw [hs]
  show wpAny _ _ (spliced ((false, eval e X.env) :: backTo pos (starEach es X.env))) _ _ s
  refine Calls.spliced_cons (thn (ha pins s σ H _ I h) fun u s1 ⟨x, H1, I1, r1, q1⟩ => ?_)
  exact thn (hr pos pins s1 σ H1 _ I1 q1) fun us s2 ⟨xs, H2, I2, r2, q2⟩ => ⟨x :: xs, H2, I2, .cons r1 r2, q2⟩

def tTup (t : TA) : TE := fun σ H Q => t σ H fun xs H1 => xs.length ≤ sizeLine ∧ ∀ p, H1 p = none → Q (.ref p) (upd H1 p (.tup xs))
def tLst (t : TA) : TE := fun σ H Q => t σ H fun xs H1 => xs.length ≤ sizeLine ∧ ∀ p, H1 p = none → Q (.ref p) (upd H1 p (.lst xs))
theorem pe_tup {x1} (h : PA X es t) : PE X (.Tuple es x1 pos) (tTup t) := by
  intro pins s σ H Q I hq
  refine wpAny_Tuple_spliced (thn (h pos pins s σ H _ I hq) fun us s1 ⟨xs, H1, I1, r, z, q⟩ => ⟨by rw [← r.length]; exact z, ?_⟩)
  have hf : H1 s1.heap.objs.size = none := I1.hok.fresh (Nat.le_refl _)
  refine ⟨.ref s1.heap.objs.size, upd H1 s1.heap.objs.size (.tup xs), I1.laid (t' := s1.toks) (fun b u e => Heap.get?_push_of_some _ e) (Nat.le_refl _) ?_, rfl, q _ hf⟩
  exact ⟨z, us, r, ⟨_, Heap.get?_push_size _ rfl, rfl, _, rfl⟩⟩
theorem pe_lst (h : PA X es t) : PE X (.List es pos) (tLst t) := by
  intro pins s σ H Q I hq
  refine wpAny_List_spliced (thn (h pos pins s σ H _ I hq) fun us s1 ⟨xs, H1, I1, r, z, q⟩ => ⟨by rw [← r.length]; exact z, ?_⟩)
  have hf : H1 s1.heap.objs.size = none := I1.hok.fresh (Nat.le_refl _)
  refine ⟨.ref s1.heap.objs.size, upd H1 s1.heap.objs.size (.lst xs), I1.laid (t' := s1.toks) (fun b u e => Heap.get?_push_of_some _ e) (Nat.le_refl _) ?_, rfl, q _ hf⟩
  exact ⟨z, us, 0, r, Heap.get?_push_size _ rfl⟩
end

abbrev Sp := List V → Hp → VK → XK → Prop
abbrev CXT := List Env → Hp → Shared → XK → Value → Shared → Prop

structure Env0 (P : Program) (w : World) (K : PySem.W.Frag) (mg : Str → Option Value) (base : Heap) (A : Around) (outer : List Env) (s : Shared) (H : Hp) : Prop where
  frames : A.frames = some outer
  mod : Mod K mg base
  bs : ∀ b o, base.get? b = some o → s.heap.get? b = some o ∧ H b = none
  bsz : base.objs.size ≤ s.heap.objs.size
  funs : s.heap.FunFrames base outer
  frf : ∀ b ∈ frs outer, H b = none
  hok : HOk P w H s.heap
  bare : AllBare s.gens
def CE (outer : List Env) (P : Program) (w : World) (H : Hp) (s : Shared) (Q : VK) (u : Value) (s' : Shared) : Prop :=
  ∃ v H', s'.os = s.os ∧ AllBare s'.gens ∧ Un (frs outer) [] H H' s.heap s'.heap ∧ HOk P w H' s'.heap ∧ RelV v u ∧ Q v H'
def CR (CX : CXT) (outer : List Env) (P : Program) (w : World) (H : Hp) (s : Shared) (Q : VK) (E : XK) (r : Result) (s' : Shared) : Prop :=
  match r with
  | .ok (.ret u) => CE outer P w H s Q u s'
  | .ok _ => False
  | .error e => CX outer H s E e s'
structure FnOk (P : Program) (w : World) (K : PySem.W.Frag) (mg : Str → Option Value) (base : Heap) (CX : CXT) (k : Nat) (f : Addr) (fd : FuncData) (ps : List Str) (sp : Sp) : Prop where
  len : ∀ vs H Q E, sp vs H Q E → vs.length = ps.length
  run : ∀ (A : Around) (outer : List Env) (s : Shared) (H : Hp) (args : Args) (us : List Value) (vs : List V) (Q : VK) (E : XK), Room k A → Env0 P w K mg base A outer s H → BindsTo s fd args (ps.zip us) → Vals vs us → sp vs H Q E →
    codeAny (model P w) A (.call (.ref f) args) (CR CX outer P w H s Q E) s
section
variable {X : Cx} {pins : List (Addr × Obj)} {σ : St} {H : Hp} {s s' : Shared}
theorem Inv.env0 (I : Inv X pins σ H s) : Env0 X.prog X.w X.K X.mg X.base X.A X.stack s H :=
  ⟨I.ok.frames, I.ok.mod, I.bs, Nat.le_trans I.ok.bsz I.sz, I.stack, I.stkFree, I.hok, I.bare⟩
theorem Inv.after {Q : VK} {u : Value} (I : Inv X pins σ H s) (h : CE X.stack X.prog X.w H s Q u s') : EP X pins σ Q u s' := by
  obtain ⟨v, H', os, bare, un, hok, r, q⟩ := h
  obtain ⟨hh, g, d, t, os'⟩ := s'
  obtain rfl : os' = s.os := os
  exact ⟨v, H', I.call (h' := hh) (g' := g) (d' := d) (t' := t) (ch := []) un hok bare (fun b z => absurd z (by simp)), r, q⟩
end

def tCall (sp : Sp) (dvs : List V) (E : XK) (t : TA) : TE := fun σ H Q => t σ H fun vs H1 => sp (vs ++ dvs) H1 Q E
def Binds (K : PySem.W.Frag) (fd : FuncData) (ps : List Str) (ds : List Value) : Prop :=
  ∀ (s : Shared) (us : List Value), K.In s.heap → (us ++ ds).length = ps.length → BindsTo s fd ⟨us, []⟩ (ps.zip (us ++ ds))
theorem Binds.all {K : PySem.W.Frag} {fd : FuncData} {ps : List Str} (h : ∀ us : List Value, us.length = ps.length → bindArgs fd ⟨us, []⟩ = pure (ps.zip us)) : Binds K fd ps [] := fun s us _ hl => by
  rw [List.append_nil] at hl ⊢
  exact .of_eq (h us hl)

def Passes (CX : CXT) (X : Cx) (E : XK) : Prop := ∀ (pins : List (Addr × Obj)) (σ : St) (H : Hp) (s : Shared) (e : Value) (s' : Shared), Inv X pins σ H s → CX X.stack H s E e s' → X.xe e s'

section
variable {X : Cx} {CX : CXT} {k : Nat} {f C : Addr} {fd : FuncData} {ps : List Str} {sp : Sp} {dvs : List V} {ds : List Value} {E : XK} {x m : Str} {p pos apos : Pos} {e o : Expr} {es : List Expr} {ta : TE} {t : TA}

theorem run_fn {pins : List (Addr × Obj)} {σ : St} {H : Hp} {s : Shared} {Q : VK} {us : List Value} {vs : List V} (F : FnOk X.prog X.w X.K X.mg X.base CX k f fd ps sp) (hr : Room k X.A) (hb : Binds X.K fd ps ds) (hd : Vals dvs ds) (hx : Passes CX X E)
    (I : Inv X pins σ H s) (r : Vals vs us) (h : sp (vs ++ dvs) H Q E) : wpAny (model X.prog X.w) X.A (call (.ref f) us) (EP X pins σ Q) X.xe s := by
  have r2 : Vals (vs ++ dvs) (us ++ ds) := r.append hd
  have hl : (us ++ ds).length = ps.length := by rw [← r2.length]; exact F.len _ _ _ _ h
  refine wpAny_call (codeAny_mono (F.run X.A X.stack s H ⟨us, []⟩ (us ++ ds) (vs ++ dvs) Q E hr I.env0 (hb s us I.kIn hl) r2 h) fun r s' hq => ?_)
  cases r with
  | error e => exact hx pins σ H s e s' I hq
  | ok fl =>
    cases fl with
    | ret u => exact I.after hq
    | next => exact False.elim hq
    | brk => exact False.elim hq
    | cont => exact False.elim hq

theorem pe_call (F : FnOk X.prog X.w X.K X.mg X.base CX k f fd ps sp) (hr : Room k X.A) (hg : Gl X x) (hm : X.mg x = some (.ref f)) (hk : PySem.W.keepIn X.K (.ref f) = true) (hb : Binds X.K fd ps ds) (hd : Vals dvs ds) (hx : Passes CX X E)
    (ha : PA X (e :: es) t) (hdb : (x == ("__debug__" : Str)) = false := by decide) (he : starEach (e :: es) X.env = (false, eval e X.env) :: starEach es X.env := by rfl) (hpl : (backTo pos (starEach es X.env)).any (·.1) = false := by rfl) :
    PE X (.Call (.Name x p) (e :: es) [] pos) (tCall sp dvs E t) := by
  intro pins s σ H Q I h
  refine wpAny_Call_Name_kw (ld_glob I hg hm ?_ hdb)
  refine PySem.W.callWith_K (h₀ := X.base) I.ok.mod.kin hk (thn (ha pos pins s σ H _ I h) fun us s1 ⟨vs, H1, I1, r, q⟩ => ⟨I1.kIn, ?_⟩) he hpl
  exact run_fn F hr hb hd hx I1 r q
end

section
variable {X : Cx} {CX : CXT} {k : Nat} {f C : Addr} {fd : FuncData} {ps ks : List Str} {sp : Sp} {E : XK} {x m : Str} {p pos apos kpos : Pos} {e o : Expr} {es : List Expr} {kws : List Keyword} {te ta : TE} {t tk : TA} {nm : Option Str}
variable {g : List Value → List Value → List Value} {gV : List V → List V → List V}
end

structure FnScope (N P : List Str) (sc : Scope) : Prop where
  kind : sc.kind = .function
  co : sc.isCoroutine = false
  gen : sc.isGenerator = false
  nd : N.Nodup
  pre : N.take P.length = P
  par : ∀ x ∈ P, sc.names.lookup x = some .local ∨ sc.names.lookup x = some .cell
  nofree : ∀ y ∈ sc.names, y.2 ≠ .free

theorem bindL_out {kindOf : Str → Option NameKind} {x : Str} : ∀ {binds : List (Str × Value)} {m : Str → Option Value}, (∀ v, (x, v) ∉ binds) → bindL kindOf binds m x = m x
  | [], _, _ => rfl
  | (n, v) :: r, m, h => by
    unfold bindL
    rw [bindL_out fun w hw => h w (List.mem_cons_of_mem _ hw)]
    split
    · have : x ≠ n := by rintro rfl; exact h v List.mem_cons_self
      simp [this]
    · rfl
theorem bindC_out {kindOf : Str → Option NameKind} {x : Str} : ∀ {binds : List (Str × Value)} {m : Str → Option Value}, (∀ v, (x, v) ∉ binds) → bindC kindOf binds m x = m x
  | [], _, _ => rfl
  | (n, v) :: r, m, h => by
    unfold bindC
    rw [bindC_out fun w hw => h w (List.mem_cons_of_mem _ hw)]
    split
    · rfl
    · have : x ≠ n := by rintro rfl; exact h v List.mem_cons_self
      simp [this]
theorem bindL_get {kindOf : Str → Option NameKind} {x : Str} {v : Value} : ∀ {P : List Str} {vs : List Value} {i : Nat} {m : Str → Option Value}, P.Nodup → P[i]? = some x → vs[i]? = some v → kindOf x = some .local →
    bindL kindOf (P.zip vs) m x = some v
  | [], _, _, _, _, h, _, _ => by simp at h
  | _ :: _, [], _, _, _, _, h, _ => by simp at h
  | p :: P, w :: vs, 0, m, nd, h1, h2, hk => by
    simp at h1 h2; subst h1; subst h2
    show bindL kindOf ((p, w) :: P.zip vs) m p = _
    unfold bindL
    rw [bindL_out fun v hv => (List.nodup_cons.mp nd).1 (List.of_mem_zip hv).1, if_pos hk]
    simp
  | p :: P, w :: vs, i + 1, m, nd, h1, h2, hk => by
    show bindL kindOf ((p, w) :: P.zip vs) m x = _
    unfold bindL
    exact bindL_get (i := i) (List.nodup_cons.mp nd).2 (by simpa using h1) (by simpa using h2) hk
theorem bindC_get {kindOf : Str → Option NameKind} {x : Str} {v : Value} : ∀ {P : List Str} {vs : List Value} {i : Nat} {m : Str → Option Value}, P.Nodup → P[i]? = some x → vs[i]? = some v → kindOf x ≠ some .local →
    bindC kindOf (P.zip vs) m x = some v
  | [], _, _, _, _, h, _, _ => by simp at h
  | _ :: _, [], _, _, _, _, h, _ => by simp at h
  | p :: P, w :: vs, 0, m, nd, h1, h2, hk => by
    simp at h1 h2; subst h1; subst h2
    show bindC kindOf ((p, w) :: P.zip vs) m p = _
    unfold bindC
    rw [bindC_out fun v hv => (List.nodup_cons.mp nd).1 (List.of_mem_zip hv).1, if_neg hk]
    simp
  | p :: P, w :: vs, i + 1, m, nd, h1, h2, hk => by
    show bindC kindOf ((p, w) :: P.zip vs) m x = _
    unfold bindC
    exact bindC_get (i := i) (List.nodup_cons.mp nd).2 (by simpa using h1) (by simpa using h2) hk

def start (N : List Str) (vs : List V) : St := vs.map some ++ List.replicate (N.length - vs.length) none

def cxOf (CX : CXT) (P : Program) (w : World) (K : PySem.W.Frag) (mg : Str → Option Value) (base : Heap) (N : List Str) (qual : Str) (scope : Scope) (f : Addr) (cd : Value) (A : Around) (outer : List Env) (s : Shared) (H : Hp) (E : XK) : Cx where
  prog := P
  w := w
  K := K
  mg := mg
  base := base
  A := A.deeper (envOfC qual scope s.heap.objs.size f cd)
  N := N
  s₀ := s
  H₀ := H
  env := envOfC qual scope s.heap.objs.size f cd
  outer := outer
  stack := envOfC qual scope s.heap.objs.size f cd :: outer
  ex := []
  calm := true
  fn := fun _ => true
  pn := []
  xe := fun e s' => wpAny (model P w) (A.deeper (envOfC qual scope s.heap.objs.size f cd)) (leaving (envOfC qual scope s.heap.objs.size f cd) e) (fun _ s'' => CX outer H s E e s'') (fun e' s'' => CX outer H s E e' s'') s'

theorem cell_has {sc : Scope} {n : Nat} {x : Str} (h : sc.names.lookup x = some .cell) : ∃ c, (cellsFrom n sc.names []).lookup x = some c := by
  have q := PySem.W.cellsFrom_some sc.names n [] (.inl h)
  exact Option.isSome_iff_exists.mp q

theorem inv_start {CX : CXT} {P : Program} {w : World} {K : PySem.W.Frag} {mg : Str → Option Value} {base : Heap} {N ps : List Str} {qual : Str} {scope : Scope} {f : Addr} {cd : Value} {A : Around} {outer : List Env} {s s1 : Shared} {H : Hp} {E : XK} {us : List Value} {vs : List V}
    (S : FnScope N ps scope) (hd : A.handled = none) (e0 : Env0 P w K mg base A outer s H) (hl : vs.length = ps.length) (r : Vals vs us)
    (x : InCallC s s.heap.objs.size (bindL (envOfC qual scope s.heap.objs.size f cd).kindOf (ps.zip us) fun _ => none) (cellsFrom (s.heap.objs.size + 1) scope.names []) (bindC (envOfC qual scope s.heap.objs.size f cd).kindOf (ps.zip us) fun _ => none) s1) :
    Inv (cxOf CX P w K mg base N qual scope f cd A outer s H E) [] (start N vs) H s1 := by
  have hpl : ps.length ≤ N.length := by have := congrArg List.length S.pre; rw [List.length_take] at this; omega
  obtain ⟨h1, tk, rfl, hk⟩ := x.done
  have noA : ∀ b : Addr, b ∉ (cxOf CX P w K mg base N qual scope f cd A outer s H E).ex := fun b z => absurd (show b ∈ ([] : List Addr) from z) (by simp)
  refine ⟨⟨e0.mod, S.kind, rfl, rfl, Nat.le_refl _, fun y z c h1 h2 => ?_, fun y hy => ?_, fun y c _ h => ?_, fun _ => hd, Around.frames_deeper e0.frames, .inr ⟨rfl, rfl⟩, fun b z => absurd z (noA b), e0.bs, e0.bsz, fun b _ _ => noA b, fun b z => absurd z (noA b), e0.funs, e0.frf⟩,
    rfl, e0.bare, Un.kept hk, ⟨_, x.toInCall.ns, fun i y v h1 h2 h3 => ?_⟩, fun y c h => ⟨_, x.cell y c h⟩, e0.hok.fresh (Nat.le_refl _), fun y c h => ?_, fun p hp => absurd (show p ∈ ([] : List (Addr × Obj)) from hp) (by simp), e0.hok.kept hk, ?_⟩
  · exact name_of_addr x.apart (PySem.mem_of_lookup h1) (PySem.mem_of_lookup h2)
  · have hy : scope.names.lookup y = some .cell ∨ scope.names.lookup y = some .free := hy
    rcases hy with hy | hy
    · exact cell_has hy
    · exact absurd rfl (S.nofree _ (PySem.mem_of_lookup hy))
  · exact Nat.le_of_lt (x.above y c (PySem.mem_of_lookup h))
  · have hi : i < vs.length := by
      unfold start at h2
      by_cases hi : i < vs.length
      · exact hi
      · rw [List.getElem?_append_right (by simpa using hi)] at h2
        rw [List.getElem?_replicate] at h2
        split at h2 <;> cases h2
    have ha : vs[i]? = some v := by
      unfold start at h2
      rw [List.getElem?_append_left (by simpa using hi), List.getElem?_map] at h2
      cases e : vs[i]? with
      | none => rw [e] at h2; cases h2
      | some a => rw [e] at h2; cases h2; rfl
    obtain ⟨u, hu, rv⟩ := r.get ha
    have hp : ps[i]? = some y := by
      rw [← S.pre, List.getElem?_take_of_lt (by omega)]; exact h1
    have ndP : ps.Nodup := by rw [← S.pre]; exact S.nd.sublist (List.take_sublist _ _)
    refine ⟨u, rv, ?_⟩
    rcases S.par y (List.mem_of_getElem? hp) with k | k
    · exact .inl ⟨k, bindL_get ndP hp hu k⟩
    · obtain ⟨c, e⟩ := cell_has (n := s.heap.objs.size + 1) k
      refine .inr ⟨.inl k, c, e, ?_⟩
      have q := x.cell y c e
      rw [bindC_get ndP hp hu (by show scope.names.lookup y ≠ _; rw [k]; decide)] at q
      exact q
  · exact e0.hok.fresh (Nat.le_of_lt (x.above y c (PySem.mem_of_lookup h)))
  · unfold start
    show _ = N.length
    rw [List.length_append, List.length_map, List.length_replicate]
    omega

theorem fn_of {CX : CXT} {P : Program} {w : World} {K : PySem.W.Frag} {mg : Str → Option Value} {base : Heap} {k : Nat} {f : Addr} {name qual : Str} {params : Arguments} {body : List Stmt} {scope : Scope} {dV kV doc pm cdv ct oc : Value} {an od : Option Addr}
    {osl : Array (Option Value)} {N ps : List Str} {sp : Sp} (lk : K.lookup f = some ⟨oc, od, .func (PySem.W.fnOf name qual params body scope dV kV doc pm an cdv ct), osl⟩) (hcd : PySem.W.codeIn K cdv qual = true) (S : FnScope N ps scope)
    (len : ∀ vs H Q E, sp vs H Q E → vs.length = ps.length)
    (hbody : ∀ (A : Around) (outer : List Env) (s : Shared) (H : Hp) (vs : List V) (Q : VK) (E : XK), Room k (A.deeper (envOfC qual scope s.heap.objs.size f cdv)) → sp vs H Q E →
      ∃ t, PSs (cxOf CX P w K mg base N qual scope f cdv A outer s H E) body t ∧ t { nx := fun _ H' => Q .non H', rt := Q } (start N vs) H) :
    FnOk P w K mg base CX (k + 1) f (PySem.W.fnOf name qual params body scope dV kV doc pm an cdv ct) ps sp := by
  refine ⟨len, fun A outer s H args us vs Q E hr e0 hb r hsp => ?_⟩
  have hl := len _ _ _ _ hsp
  have KX : K.In s.heap := e0.mod.kin.keeps fun b o e => (e0.bs b o e).1
  have lim : s.heap.NoLimit := e0.mod.nolimit.keeps fun b o e => (e0.bs b o e).1
  have hkind : ∀ y ∈ ps.zip us, scope.names.lookup y.1 = some .local ∨ (scope.names.lookup y.1 = some .cell ∧ ((cellsFrom (s.heap.objs.size + 1) scope.names []).lookup y.1).isSome = true) := fun ⟨n, v⟩ hy => by
    rcases S.par n (List.of_mem_zip hy).1 with q | q
    · exact .inl q
    · exact .inr ⟨q, PySem.W.cellsFrom_some _ _ _ (.inl q)⟩
  refine codeAny_call_function hr.depth (KX _ _ lk) rfl S.co S.gen rfl (PySem.W.codeRec_of KX hcd) (hb _ _ _ _ ?_)
  refine wpAny_newFunctionEnv_cells S.kind hkind fun env he s1 x => ?_
  subst he
  refine ⟨lim.keeps x.toInCall.keep, codeAny_func ?_⟩
  obtain ⟨t, ht, hq⟩ := hbody A outer s H vs Q E (hr.deeper _) hsp
  have I : Inv (cxOf CX P w K mg base N qual scope f cdv A outer s H E) [] (start N vs) H s1 := inv_start S hr.hd e0 hl r x
  refine wpAny_mono (ht [] s1 (start N vs) H _ I hq) (fun fl s' hs => ?_) fun e s' hs => hs
  have fin : ∀ {σ' : St} {H' : Hp} {v : V} {u : Value}, Inv (cxOf CX P w K mg base N qual scope f cdv A outer s H E) [] σ' H' s' → RelV v u → Q v H' → CE outer P w H s Q u s' :=
    fun {σ' H' v u} J rv q => ⟨v, H', J.os, J.bare, J.base, J.hok, rv, q⟩
  cases fl with
  | ret u =>
    obtain ⟨v, σ', H', J, rv, q⟩ := hs
    exact fin J rv q
  | next =>
    obtain ⟨σ', H', J, q⟩ := hs
    exact fin (v := V.non) (u := Value.none) J rfl q
  | brk =>
    obtain ⟨_, _, _, q⟩ := hs
    exact False.elim q
  | cont =>
    obtain ⟨_, _, _, q⟩ := hs
    exact False.elim q
end L2

namespace L2
open PySem PySem.Spec PyProof.Rows
section
variable {X : Cx} {x : Str} {p pos : Pos} {e : Expr} {es : List Expr} {t : TA} {id T : String} {r : List V → Hp → VK → Prop}

def tCB (r : List V → Hp → VK → Prop) (t : TA) : TE := fun σ H Q => t σ H fun vs H1 => r vs H1 Q
theorem pe_callB (hc : CallR X (.builtin id) r) (hg : Gl X x) (hm : X.mg x = none) (hv : bootBuiltins x = some (.builtin id)) (ha : PA X (e :: es) t) (hn : x ≠ "__name__" := by decide) (hdb : (x == ("__debug__" : Str)) = false := by decide)
    (he : starEach (e :: es) X.env = (false, eval e X.env) :: starEach es X.env := by rfl) (hpl : (backTo pos (starEach es X.env)).any (·.1) = false := by rfl) : PE X (.Call (.Name x p) (e :: es) [] pos) (tCB r t) := by
  intro pins s σ H Q I h
  refine wpAny_Call_Name_kw (ld_blt I hg hm hv ?_ hn hdb)
  exact PyProof.Rows.callWith_builtin1 (thn (ha pos pins s σ H _ I h) fun us s1 ⟨vs, H1, I1, r1, q1⟩ => hc pins s1 σ H1 vs us Q I1 r1 q1) he hpl
theorem pe_callTy (hc : CallR X (.type T) r) (hg : Gl X x) (hm : X.mg x = none) (hv : bootBuiltins x = some (.type T)) (ha : PA X (e :: es) t) (hn : x ≠ "__name__" := by decide) (hdb : (x == ("__debug__" : Str)) = false := by decide)
    (he : starEach (e :: es) X.env = (false, eval e X.env) :: starEach es X.env := by rfl) (hpl : (backTo pos (starEach es X.env)).any (·.1) = false := by rfl) : PE X (.Call (.Name x p) (e :: es) [] pos) (tCB r t) := by
  intro pins s σ H Q I h
  refine wpAny_Call_Name_kw (ld_blt I hg hm hv ?_ hn hdb)
  exact PyProof.Rows.callWith_type1 (thn (ha pos pins s σ H _ I h) fun us s1 ⟨vs, H1, I1, r1, q1⟩ => hc pins s1 σ H1 vs us Q I1 r1 q1) he hpl
end
end L2

namespace HT
open PySem PyProof.Rows

section
open PySem.SeqAt
open PySem.AutoSeq1 (wpAny_loadPart')
open PySem.MeetsSeq PySem.MeetsSeq2 PySem.MeetsSeq3

end

section
variable {prog : Program} {w : World} {A : Around} {E : Value → Shared → Prop} {s : Shared}

theorem cat_tup {t b : Addr} {vs ws : List Value} {Q : Value → Shared → Prop} (ht : IsTup s.heap t vs.toArray) (hb : IsTup s.heap b ws.toArray) (hv : vs ≠ [])
    (h1 : ws = [] → Q (.ref t) s) (h2 : ws ≠ [] → Q (.ref s.heap.objs.size) { s with heap := s.heap.push { cls := .type "tuple", data := .seq (vs ++ ws).toArray } })
    (hsz : vs.length + ws.length ≤ sizeLine) : wpAny (model prog w) A (binaryOp .Add (.ref t) (.ref b)) Q E s := by
  obtain ⟨⟨cls, dd, data, sl⟩, ho, hc, n, hd⟩ := id ht
  obtain ⟨⟨cls2, dd2, data2, sl2⟩, ho2, hc2, n2, hd2⟩ := id hb
  simp only at hc hd hc2 hd2
  subst hc hd hc2 hd2
  have e : vs.toArray ++ ws.toArray = (vs ++ ws).toArray := by simp
  by_cases hw : ws = []
  · exact concat_meets ⟨_, ho, rfl⟩ ⟨_, ho2, rfl⟩ noFill_tuple_add seq_tuple_add PySem.F.slot_tuple_add PySem.F.entry_tuple_add (PySem.F.args_tuple_add_2 _ _)
      (tuple_addW1 t b vs.toArray ws.toArray n n2 dd dd2 sl sl2 (by simpa using hv) (by simp [hw])) ⟨ho, ho2, h1 hw⟩
  · refine concat_meets ⟨_, ho, rfl⟩ ⟨_, ho2, rfl⟩ noFill_tuple_add seq_tuple_add PySem.F.slot_tuple_add PySem.F.entry_tuple_add (PySem.F.args_tuple_add_2 _ _)
      (tuple_addW2 t b vs.toArray ws.toArray n n2 dd dd2 sl sl2 (by simpa using hv) (by simpa using hw) (by rw [List.size_toArray, List.size_toArray]; exact hsz)) ⟨ho, ho2, ?_⟩
    rw [e]
    exact h2 hw

def sIx (n d : Nat) : Option Int → Nat
  | none => d
  | some v => if v < 0 then (v + (n : Int)).toNat else min v.toNat n
end
end HT

namespace L2
open PySem PySem.Spec PyProof.Rows

abbrev TO := St → Hp → (Option Int → Hp → Prop) → Prop
def PO (X : Cx) (e : Option Expr) (t : TO) : Prop :=
  ∀ (pins : List (Addr × Obj)) (s : Shared) (σ : St) (H : Hp) (Q : Option Int → Hp → Prop), Inv X pins σ H s → t σ H Q →
    wpAny (model X.prog X.w) X.A (evalPart e X.env) (fun u s' => ∃ o H', Inv X pins σ H' s' ∧ IsPart u o ∧ Q o H') X.xe s
section
variable {X : Cx} {e : Expr} {te : TE} {lo hi : Option Expr} {tl th : TO} {pos p2 : Pos}

def SlR (X : Cx) (r : V → Option Int → Option Int → Hp → VK → Prop) : Prop :=
  ∀ (pins : List (Addr × Obj)) (s : Shared) (σ : St) (H : Hp) (x : V) (v vl vu : Value) (lo hi : Option Int) (sl : Addr) (Q : VK), Inv X pins σ H s → RelV x v → s.heap.IsSliceOf sl vl vu .none → IsPart vl lo → IsPart vu hi → r x lo hi H Q →
    ∃ T id, typeLookup (.type T) "__getitem__" = pure (some (.builtin id)) ∧ s.TypeIs v T ∧ wpAny (model X.prog X.w) X.A (getItem v (.ref sl)) (EP X pins σ Q) X.xe s
def cutV (xs : List V) (lo hi : Option Int) : List V := (xs.drop (HT.sIx xs.length 0 lo)).take (HT.sIx xs.length xs.length hi - HT.sIx xs.length 0 lo)
theorem cutV_length (xs : List V) (lo hi : Option Int) : (cutV xs lo hi).length ≤ xs.length := by
  unfold cutV
  rw [List.length_take, List.length_drop]
  omega
def rCatT (K : PySem.W.Frag) : R2 := fun x y H Q => ∃ a b xs ys, x = .ref a ∧ y = .ref b ∧ SqT K H a xs ∧ SqT K H b ys ∧ xs ≠ [] ∧ xs.length + ys.length ≤ sizeLine ∧
  (ys = [] → Q (.ref a) H) ∧ (ys ≠ [] → ∀ p, H p = none → Q (.ref p) (upd H p (.tup (xs ++ ys))))
theorem Vals.nil_iff {xs : List V} {us : List Value} (r : Vals xs us) : us = [] ↔ xs = [] := by
  cases r with
  | nil => simp
  | cons _ _ => simp
theorem op_catT : OpR X (binaryOp .Add) (rCatT X.K) := by
  intro pins s σ H x y v u Q I rx ry h
  obtain ⟨a, b, xs, ys, rfl, rfl, ha, hb, hx, hz, q1, q2⟩ := h
  cases rx
  cases ry
  obtain ⟨its, r1, p1, _⟩ := I.tuple ha
  obtain ⟨its2, r2, p2, _⟩ := I.tuple hb
  refine HT.cat_tup p1 p2 (fun z => hx (r1.nil_iff.mp z)) (fun z => ⟨.ref a, H, I, rfl, q1 (r2.nil_iff.mp z)⟩) (fun z => ?_) (by rw [← r1.length, ← r2.length]; exact hz)
  refine ⟨.ref s.heap.objs.size, _, I.laid (t' := s.toks) (o := .tup (xs ++ ys)) (fun b ob q => Heap.get?_push_of_some _ q) (Nat.le_refl _) ?_, rfl, q2 (fun w => z (r2.nil_iff.mpr w)) _ (I.hok.fresh (Nat.le_refl _))⟩
  exact ⟨by rw [List.length_append]; exact hz, _, r1.append r2, IsTup.new _ _⟩
end
end L2

namespace L2
open PySem PySem.Spec PyProof.Rows

def ixN (n : Nat) (i : Int) : Option Nat := if 0 ≤ i then (if i < n then some i.toNat else none) else if -(n : Int) ≤ i then some (i + n).toNat else none
def atI {α : Type} (xs : List α) (i : Int) : Option α := (ixN xs.length i).bind fun j => xs[j]?
theorem ixN_seq {n : Nat} {i : Int} {j : Nat} (h : ixN n i = some j) : seqIndex? i n = some j ∧ j < n ∧ -(n : Int) ≤ i ∧ i < n := by
  unfold ixN at h
  by_cases h0 : 0 ≤ i
  · rw [if_pos h0] at h
    by_cases h1 : i < n
    · rw [if_pos h1] at h
      have e : i.toNat = j := Option.some.inj h
      exact ⟨by rw [seqIndex_of h0 h1, e], by omega, by omega, h1⟩
    · rw [if_neg h1] at h; cases h
  · rw [if_neg h0] at h
    by_cases h1 : -(n : Int) ≤ i
    · rw [if_pos h1] at h
      have e : (i + n).toNat = j := Option.some.inj h
      exact ⟨by rw [seqIndex_neg (by omega) h1, e], by omega, h1, by omega⟩
    · rw [if_neg h1] at h; cases h
theorem atI_get {α : Type} {xs : List α} {i : Int} {v : α} (h : atI xs i = some v) : ∃ j, seqIndex? i xs.length = some j ∧ xs[j]? = some v ∧ j < xs.length ∧ -(xs.length : Int) ≤ i ∧ i < xs.length := by
  unfold atI at h
  cases e : ixN xs.length i with
  | none => rw [e] at h; cases h
  | some j =>
    rw [e] at h
    obtain ⟨h1, h2, h3, h4⟩ := ixN_seq e
    exact ⟨j, h1, h, h2, h3, h4⟩
def PlainIx (b : Expr) : Prop := ∀ o i, subscripted b false o i = operate [o, i] (getItem o i)
def IxR (X : Cx) (r : R2) : Prop :=
  ∀ (value slice : Expr) (pins : List (Addr × Obj)) (s : Shared) (σ : St) (H : Hp) (x y : V) (v u : Value) (Q : VK), Inv X pins σ H s → RelV x v → RelV y u → r x y H Q →
    subscripted slice false v u = operate [v, u] (getItem v u) → wpAny (model X.prog X.w) X.A (subscriptTail value slice v u) (EP X pins σ Q) X.xe s
def MtR (X : Cx) (id : String) (r : V → List V → Hp → VK → Prop) : Prop :=
  ∀ (pins : List (Addr × Obj)) (s : Shared) (σ : St) (H : Hp) (x : V) (xs : List V) (v : Value) (us : List Value) (Q : VK), Inv X pins σ H s → RelV x v → Vals xs us → r x xs H Q →
    wpAny (model X.prog X.w) X.A (call (.builtin id) (v :: us)) (EP X pins σ Q) X.xe s
section
variable {X : Cx} {a b : Expr} {ta tb : TE} {pos : Pos}
theorem IxR.or {r r' : R2} (h : IxR X r) (h' : IxR X r') : IxR X (fun x y H Q => r x y H Q ∨ r' x y H Q) := by
  intro value slice pins s σ H x y v u Q I rx ry q hs
  rcases q with q | q
  · exact h value slice pins s σ H x y v u Q I rx ry q hs
  · exact h' value slice pins s σ H x y v u Q I rx ry q hs
theorem pe_ix {r : R2} (hr : IxR X r) (ha : PE X a ta) (hb : PE X b tb) (hs : PlainIx b) : PE X (.Subscript a b pos) (tOp r ta tb) := by
  intro pins s σ H Q I h
  exact Subscript_ (binT ha hb I h fun v u s2 x y H2 I2 rx ry q => hr a b pins s2 σ H2 x y v u Q I2 rx ry q (hs _ _))

def rIxL (K : PySem.W.Frag) : R2 := fun x y H Q => ∃ p xs i v, x = .ref p ∧ y = .int i ∧ SqL K H p xs ∧ atI xs i = some v ∧ Q v H
def rIxT (K : PySem.W.Frag) : R2 := fun x y H Q => ∃ p xs i v, x = .ref p ∧ y = .int i ∧ SqT K H p xs ∧ atI xs i = some v ∧ Q v H
theorem ix_list : IxR X (rIxL X.K) := by
  intro value slice pins s σ H x y v u Q I rx ry h hs
  obtain ⟨p, xs, i, z, rfl, rfl, hq, he, q⟩ := h
  cases rx
  obtain ⟨t, rfl⟩ := ry
  obtain ⟨its, r, pl, hz⟩ := I.list hq
  obtain ⟨j, h1, h2, h3, h4, h5⟩ := atI_get he
  obtain ⟨w, ew, rw'⟩ := r.get h2
  have hl := r.length
  have hn := line63
  have fin : EP X pins σ Q w s := ⟨z, H, I, rw', q⟩
  by_cases h0 : 0 ≤ i
  · have hj : i.toNat = j := by
      rw [seqIndex_of h0 h5] at h1
      exact Option.some.inj h1
    exact item_listR pl.isList h0 (by omega) (by rw [hj]; simpa using ew) fin hs
  · have hj : (i + (its.toArray.size : Int)).toNat = j := by
      rw [seqIndex_neg (by omega) h4] at h1
      rw [List.size_toArray, ← hl]
      exact Option.some.inj h1
    exact subscriptTail_builtinR (x := w) pl.isList.typeIs slot_list_getitem.lookup
      (wpAny_getItem_list_neg (Q := fun r s' => r = w ∧ EP X pins σ Q r s') pl.isList (by omega) (by rw [List.size_toArray] <;> omega) (by omega) (by rw [hj]; simpa using ew) ⟨rfl, fin⟩) hs
theorem ix_tup : IxR X (rIxT X.K) := by
  intro value slice pins s σ H x y v u Q I rx ry h hs
  obtain ⟨p, xs, i, z, rfl, rfl, hq, he, q⟩ := h
  cases rx
  obtain ⟨t, rfl⟩ := ry
  obtain ⟨its, r, pl, hz⟩ := I.tuple hq
  obtain ⟨j, h1, h2, h3, h4, h5⟩ := atI_get he
  obtain ⟨w, ew, rw'⟩ := r.get h2
  have hl := r.length
  have hn := line63
  have fin : EP X pins σ Q w s := ⟨z, H, I, rw', q⟩
  exact subscriptTail_builtinR (x := w) pl.typeIs slot_tuple_getitem.lookup
    (getItem_tuple (j := j) (Q := fun r s' => r = w ∧ EP X pins σ Q r s') pl (by omega) (by omega) (by rw [List.size_toArray, ← hl]; exact h1) (by simpa using ew) ⟨rfl, fin⟩) hs
theorem slice_bounds (lo hi : Option Int) (n : Nat) : (sliceBounds lo hi none n).1 = ((HT.sIx n 0 lo : Nat) : Int) ∧ (sliceBounds lo hi none n).2.1 = ((HT.sIx n n hi : Nat) : Int) ∧ (sliceBounds lo hi none n).2.2 = 1 := by
  refine ⟨?_, ?_, rfl⟩
  · cases lo with
    | none => simp [sliceBounds, HT.sIx]
    | some i =>
      simp only [sliceBounds, HT.sIx, Option.getD_none, show (1 : Int) > 0 by decide, if_true]
      by_cases h : i < 0
      · simp only [h, if_true] <;> omega
      · simp only [h, if_false] <;> omega
  · cases hi with
    | none => simp [sliceBounds, HT.sIx]
    | some i =>
      simp only [sliceBounds, HT.sIx, Option.getD_none, show (1 : Int) > 0 by decide, if_true]
      by_cases h : i < 0
      · simp only [h, if_true] <;> omega
      · simp only [h, if_false] <;> omega
theorem slicePick_cut (its : List Value) (lo hi : Option Int) : slicePick its.toArray lo hi none = ((its.drop (HT.sIx its.length 0 lo)).take (HT.sIx its.length its.length hi - HT.sIx its.length 0 lo)).toArray := by
  obtain ⟨h1, h2, h3⟩ := slice_bounds lo hi its.toArray.size
  unfold slicePick
  rw [h1, h2, h3]
  simp only [sliceRange_one, pick_run, List.size_toArray] <;> rfl
def rSlL (K : PySem.W.Frag) : V → Option Int → Option Int → Hp → VK → Prop := fun x lo hi H Q => ∃ a xs, x = .ref a ∧ SqL K H a xs ∧ ∀ p, H p = none → Q (.ref p) (upd H p (.lst (cutV xs lo hi)))
theorem sl_list : SlR X (rSlL X.K) := by
  intro pins s σ H x v vl vu lo hi sl Q I rx hs pl pu h
  obtain ⟨a, xs, rfl, hx, q⟩ := h
  cases rx
  obtain ⟨its, r, ht, hz⟩ := I.list hx
  have hlen := r.length
  refine ⟨"list", _, slot_list_getitem.lookup, ht.isList.typeIs, ?_⟩
  refine wpAny_getItem_list_slice ht.isList hs pl pu .none (by simp) ?_ (by rw [List.size_toArray] <;> omega)
  rw [slicePick_cut, ← hlen]
  refine ⟨.ref s.heap.objs.size, _, I.laid (t' := s.toks) (o := .lst (cutV xs lo hi)) (fun b ob q => Heap.get?_push_of_some _ q) (Nat.le_refl _) ?_, rfl, q _ (I.hok.fresh (Nat.le_refl _))⟩
  exact ⟨Nat.le_trans (cutV_length xs lo hi) hz, _, 0, (r.drop (HT.sIx xs.length 0 lo)).take (HT.sIx xs.length xs.length hi - HT.sIx xs.length 0 lo), Heap.get?_push_size _ rfl⟩

theorem call_len_seq : CallR X (.builtin "len") (fun xs H Q => ∃ p ys, xs = [.ref p] ∧ (SqL X.K H p ys ∨ SqT X.K H p ys) ∧ Q (.int ys.length) H) := by
  intro pins s σ H xs us Q I r h
  obtain ⟨p, ys, rfl, hq, q⟩ := h
  obtain ⟨u, rfl, rx⟩ := vals1 r
  cases rx
  have hn := line63
  rcases hq with hq | hq
  · obtain ⟨its, r', pl, hz⟩ := I.list hq
    have hlen := r'.length
    exact Calls.call_len_list pl.isList (by simp only [List.size_toArray] <;> omega) ⟨.int ys.length, H, I.tok _, ⟨s.toks + 1, by rw [List.size_toArray, hlen]⟩, q⟩
  · obtain ⟨its, r', pl, hz⟩ := I.tuple hq
    have hlen := r'.length
    exact len_tuple pl (by simp only [List.size_toArray] <;> omega) ⟨.int ys.length, H, I.tok _, ⟨s.toks + 1, by rw [List.size_toArray, hlen]⟩, q⟩
theorem call_list_of : CallR X (.type "list") (fun xs H Q => ∃ p ys, xs = [.ref p] ∧ (SqL X.K H p ys ∨ SqT X.K H p ys) ∧ ∀ l, H l = none → Q (.ref l) (upd H l (.lst ys))) := by
  intro pins s σ H xs us Q I r h
  obtain ⟨p, ys, rfl, hq, q⟩ := h
  obtain ⟨u, rfl, rx⟩ := vals1 r
  cases rx
  have fin : ∀ (its : List Value), Vals ys its → ys.length ≤ sizeLine → ∀ (h' : Heap) (c' : Nat), (∀ b o', s.heap.get? b = some o' → h'.get? b = some o') →
      h'.get? s.heap.objs.size = some { cls := .type "list", dict := none, data := .seq its.toArray c', slots := #[] } → EP X pins σ Q (.ref s.heap.objs.size) { s with heap := h' } := fun its r' hz h' c' kp e =>
    ⟨.ref s.heap.objs.size, _, I.laid (t' := s.toks) kp (Nat.le_refl _) (show ObjOk X.prog X.w _ h' _ (.lst ys) from ⟨hz, its, c', r', e⟩), rfl, q _ (I.hok.fresh (Nat.le_refl _))⟩
  rcases hq with hq | hq
  · obtain ⟨its, r', pl, hz⟩ := I.list hq
    have hlen := r'.length
    obtain ⟨o, ho, hc, n, hd⟩ := pl.isList
    exact call_list_seq p (.inl rfl) ho hc hd (fun h' c' kp e => fin its r' hz h' c' kp e) (by simp only [List.size_toArray] <;> omega)
  · obtain ⟨its, r', pl, hz⟩ := I.tuple hq
    have hlen := r'.length
    obtain ⟨o, ho, hc, n, hd⟩ := pl
    exact call_list_seq p (.inr rfl) ho hc hd (fun h' c' kp e => fin its r' hz h' c' kp e) (by simp only [List.size_toArray] <;> omega)
theorem call_tuple_of : CallR X (.type "tuple") (fun xs H Q => ∃ p ys, xs = [.ref p] ∧ ((SqL X.K H p ys ∧ ∀ l, H l = none → Q (.ref l) (upd H l (.tup ys))) ∨ (SqT X.K H p ys ∧ Q (.ref p) H))) := by
  intro pins s σ H xs us Q I r h
  obtain ⟨p, ys, rfl, h⟩ := h
  obtain ⟨u, rfl, rx⟩ := vals1 r
  cases rx
  rcases h with ⟨hq, q⟩ | ⟨hq, q⟩
  · obtain ⟨its, r', pl, hz⟩ := I.list hq
    have hlen := r'.length
    refine call_tuple_list pl.isList (fun h' kp => ?_) (by simp only [List.size_toArray] <;> omega)
    have I1 : Inv X pins σ H { s with heap := h' } := I.kept (t' := s.toks) kp
    have I2 : Inv X pins σ (upd H h'.objs.size (.tup ys)) { s with heap := h'.push { cls := .type "tuple", data := .seq its.toArray } } :=
      I1.laid (t' := s.toks) (fun b o e => Heap.get?_push_of_some _ e) (Nat.le_refl _) (show ObjOk X.prog X.w _ _ _ (.tup ys) from ⟨hz, its, r', IsTup.new _ _⟩)
    exact ⟨.ref h'.objs.size, _, I2, rfl, q _ (I1.hok.fresh (Nat.le_refl _))⟩
  · obtain ⟨its, r', pl, hz⟩ := I.tuple hq
    exact call_tuple_same pl ⟨.ref p, H, I, rfl, q⟩

def tyV (K : PySem.W.Frag) (T : String) (x : V) (H : Hp) : Prop := match x with
  | .str _ => T = "str"
  | .int _ => T = "int"
  | .ref p => (T = "list" ∧ ∃ xs, SqL K H p xs) ∨ (T = "tuple" ∧ ∃ o, K.lookup p = some o ∧ o.cls = .type "tuple" ∧ o.dict = none) ∨
      (T = "dict" ∧ ((∃ kvs, H p = some (.dK kvs)) ∨ ∃ kvs, H p = some (.dT kvs))) ∨ (T = "set" ∧ ∃ S n, H p = some (.set S n))
  | _ => False
theorem tyV_is {pins : List (Addr × Obj)} {σ : St} {H : Hp} {s : Shared} {T : String} {x : V} {v : Value} (I : Inv X pins σ H s) (r : RelV x v) (ty : tyV X.K T x H) :
    s.TypeIs v T ∧ ∀ a, v = .ref a → ∃ ob, s.heap.get? a = some ob ∧ ob.dict = none := by
  cases x with
  | str z =>
    obtain ⟨t, rfl⟩ := r
    cases (show T = "str" from ty)
    exact ⟨typeIs_str s z t, fun _ e => nomatch e⟩
  | int i =>
    obtain ⟨t, rfl⟩ := r
    cases (show T = "int" from ty)
    exact ⟨typeIs_int s i t, fun _ e => nomatch e⟩
  | ref p =>
    cases r
    rcases ty with ⟨rfl, xs, hq⟩ | ⟨rfl, o, hk, hc, hd⟩ | ⟨rfl, hk⟩ | ⟨rfl, S, n, hk⟩
    · obtain ⟨its, _, pl, _⟩ := I.list hq
      refine ⟨pl.isList.typeIs, fun a e => ?_⟩
      cases e
      obtain ⟨o, n, e, c, hd, _⟩ := pl
      exact ⟨o, e, hd⟩
    · refine ⟨⟨o, I.kIn p o hk, hc⟩, fun a e => ?_⟩
      cases e
      exact ⟨o, I.kIn _ o hk, hd⟩
    · have z : ∃ o, s.heap.get? p = some o ∧ o.ExactDict := by
        rcases hk with ⟨kvs, hk⟩ | ⟨kvs, hk⟩
        · obtain ⟨_, _, _, _, o, _, _, e, ex, _⟩ := I.hok p _ hk
          exact ⟨o, e, ex⟩
        · obtain ⟨_, _, _, _, o, _, _, e, ex, _⟩ := I.hok p _ hk
          exact ⟨o, e, ex⟩
      obtain ⟨o, e, ex⟩ := z
      refine ⟨⟨o, e, ex.1⟩, fun a e2 => ?_⟩
      cases e2
      exact ⟨o, e, ex.2.1⟩
    · obtain ⟨o, _, _, _, e, ex, _⟩ := I.hok p _ hk
      refine ⟨⟨o, e, ex.1⟩, fun a e2 => ?_⟩
      cases e2
      exact ⟨o, e, ex.2.1⟩
  | _ => exact False.elim ty
def tBM0 (K : PySem.W.Frag) (T : String) (r : V → List V → Hp → VK → Prop) (to : TE) : TE := fun σ H Q => to σ H fun x H1 => tyV K T x H1 ∧ r x [] H1 Q
def tBM (K : PySem.W.Frag) (T : String) (r : V → List V → Hp → VK → Prop) (to : TE) (t : TA) : TE := fun σ H Q => to σ H fun x H1 => tyV K T x H1 ∧ t σ H1 fun xs H2 => r x xs H2 Q
variable {o e : Expr} {es : List Expr} {to : TE} {t : TA} {name : Str} {apos cpos : Pos} {T id : String} {r : V → List V → Hp → VK → Prop}
theorem pe_bm0 (pa : PlainAttrs T) (slot : Slot T name id) (hty : typeOf (.builtin id) = pure (.type "method_descriptor")) (hm : MtR X id r) (ho : PE X o to)
    (hbase : attributeBase o name X.env (eval o X.env) = eval o X.env := by rfl) (hline : (apos.endLine == cpos.line) = true := by rfl) : PE X (.Call (.Attribute o name apos) [] [] cpos) (tBM0 X.K T r to) := by
  intro pins s σ H Q I h
  refine wpAny_Call_method0_late hbase hline (thn (ho pins s σ H _ I h) fun v s1 ⟨x, H1, I1, r1, ty, q1⟩ => ?_)
  obtain ⟨h1, h2⟩ := tyV_is I1 r1 ty
  exact ⟨T, id, pa, slot, hty, h1, h2, Calls.callWith_builtin rfl (PySem.evalArgs_none (hm pins s1 σ H1 x [] v [] Q I1 r1 .nil q1))⟩
theorem pe_bm (pa : PlainAttrs T) (slot : Slot T name id) (hty : typeOf (.builtin id) = pure (.type "method_descriptor")) (hm : MtR X id r) (ho : PE X o to) (ha : PA X (e :: es) t)
    (hbase : attributeBase o name X.env (eval o X.env) = eval o X.env := by rfl)
    (hfew : ((backTo cpos (starEach (e :: es) X.env)).all (fun x => !x.1) && (backToKw cpos (keywordEach [] X.env)).all (fun x => x.1.isSome)
      && decide ((e :: es).length + ([] : List Keyword).length + (if ([] : List Keyword).isEmpty then 0 else 1) < 30)) = true := by rfl)
    (hline : (apos.endLine == cpos.line) = true := by rfl) (hs : starEach (e :: es) X.env = (false, eval e X.env) :: starEach es X.env := by rfl) (hplain : (backTo cpos (starEach es X.env)).any (·.1) = false := by rfl) :
    PE X (.Call (.Attribute o name apos) (e :: es) [] cpos) (tBM X.K T r to t) := by
  intro pins s σ H Q I h
  refine wpAny_Call_method_late hbase hfew hline rfl (thn (ho pins s σ H _ I h) fun v s1 ⟨x, H1, I1, r1, ty, q1⟩ => ?_)
  obtain ⟨h1, h2⟩ := tyV_is I1 r1 ty
  refine ⟨T, id, pa, slot, hty, h1, h2, ?_⟩
  have hA := ha cpos pins s1 σ H1 _ I1 q1
  rw [hs] at hA ⊢
  refine Calls.callWith_builtin (by show (false || (backTo cpos (starEach es X.env)).any (·.1)) = false; rw [hplain] <;> rfl) (Calls.evalArgs_plain ?_)
  exact thn hA fun us s2 ⟨vs, H2, I2, r2, q2⟩ => hm pins s2 σ H2 x vs v us Q I2 r1 r2 q2
/- xs.append(e), list.index on a module's tuple .. are MtR facts of 06m -/
end
end L2

namespace L2
open PySem PySem.Spec PyProof.Rows

def MtM (X : Cx) (id : String) (r : V → List V → Hp → VK → Prop) : Prop :=
  ∀ (pins : List (Addr × Obj)) (s : Shared) (σ : St) (H : Hp) (x : V) (xs : List V) (v : Value) (us : List Value) (Q : VK), Inv X pins σ H s → RelV x v → Vals xs us → r x xs H Q →
    wpAny (model X.prog X.w) X.A (call (.builtin id) (v :: us)) (EP X pins σ Q) X.xe s

theorem Vals.one : ∀ {x : V} {us : List Value}, Vals [x] us → ∃ u, us = [u] ∧ RelV x u
  | _, _, .cons r .nil => ⟨_, rfl, r⟩
theorem Vals.two : ∀ {x y : V} {us : List Value}, Vals [x, y] us → ∃ u v, us = [u, v] ∧ RelV x u ∧ RelV y v
  | _, _, _, .cons r (.cons q .nil) => ⟨_, _, rfl, r, q⟩
theorem Vals.zero : ∀ {us : List Value}, Vals [] us → us = []
  | _, .nil => rfl
theorem Vals.dropLast {xs : List V} {us : List Value} (h : Vals xs us) : Vals xs.dropLast us.dropLast := by
  induction h with
  | nil => exact .nil
  | cons r t ih =>
    cases t with
    | nil => exact .nil
    | cons q t' => exact .cons r ih
theorem erase_last {α : Type} (l : List α) : l.eraseIdx (l.length - 1) = l.dropLast := by
  induction l with
  | nil => rfl
  | cons a r ih =>
    cases r with
    | nil => rfl
    | cons b r =>
      have e : (a :: b :: r).length - 1 = ((b :: r).length - 1) + 1 := by
        have h1 : (a :: b :: r).length = r.length + 2 := rfl
        have h2 : (b :: r).length = r.length + 1 := rfl
        omega
      rw [e, List.eraseIdx_cons_succ, ih]
      all_goals rfl
section
variable {X : Cx} {pins : List (Addr × Obj)} {σ : St} {H : Hp} {s : Shared} {l b : Addr} {xs ys zs : List V}

theorem Inv.lset {its its' : List Value} {n : Nat} {f : Array Value → Array Value} {t' : Nat} (I : Inv X pins σ H s) (hH : H l = some (.lst xs))
    (e : s.heap.get? l = some { cls := .type "list", data := .seq its.toArray n }) (hf : f its.toArray = its'.toArray) (hv : Vals ys its') (hz : ys.length ≤ sizeLine) :
    Inv X pins σ (upd H l (.lst ys)) { s with heap := s.heap.update l (Obj.mapSeq f), toks := t' } := by
  have q := PySem.IsL.update e f
  rw [hf] at q
  refine I.write (x := l) (e := l) (by rw [hH]; exact trivial) (.inl rfl) (fun b' u hb hu => (Heap.get?_update_other s.heap (Obj.mapSeq f) (Ne.symm hb)).trans hu) ⟨_, q⟩ ?_
  exact ⟨hz, its', _, hv, q⟩
theorem Inv.lnew {its : List Value} {t' : Nat} (I : Inv X pins σ H s) (hv : Vals ys its) (hz : ys.length ≤ sizeLine) :
    Inv X pins σ (upd H s.heap.objs.size (.lst ys)) { s with heap := s.heap.push { cls := .type "list", data := .seq its.toArray }, toks := t' } :=
  I.laid (fun _ _ q => Heap.get?_push_of_some _ q) (Nat.le_refl _) ⟨hz, its, 0, hv, Heap.get?_push_size _ rfl⟩
theorem Inv.fresh (I : Inv X pins σ H s) : H s.heap.objs.size = none := I.hok.fresh (Nat.le_refl _)
theorem Inv.lstM (I : Inv X pins σ H s) (hH : H l = some (.lst xs)) : xs.length ≤ sizeLine ∧ ∃ (its : List Value) (n : Nat), Vals xs its ∧ xs.length = its.length ∧ s.heap.get? l = some { cls := .type "list", data := .seq its.toArray n } := by
  obtain ⟨z, its, n, r, e⟩ := I.hok l _ hH
  exact ⟨z, its, n, r, r.length, e⟩

theorem notLongL {n : Nat} (h : n ≤ sizeLine) : Builtin.List.listTooLong n = false := by
  unfold Builtin.List.listTooLong
  exact decide_eq_false (by omega)
end

section
variable {X : Cx}

def rAppend : V → List V → Hp → VK → Prop := fun x vs H Q => ∃ l xs y, x = .ref l ∧ vs = [y] ∧ H l = some (.lst xs) ∧ xs.length < sizeLine ∧ Q .non (upd H l (.lst (xs ++ [y])))
theorem mt_append : MtM X "list.append" rAppend := by
  intro pins s σ H x vs v us Q I rx rv h
  obtain ⟨l, xs, y, rfl, rfl, hH, hz, q⟩ := h
  cases rx
  obtain ⟨u, rfl, ru⟩ := rv.one
  obtain ⟨z, its, n, r, hl, e⟩ := I.lstM hH
  refine call_meets F.slot_list_append ⟨_, e, rfl⟩ F.entry_list_append (F.args_list_append_2 _ _) (PySem.list_append l its.toArray n u (by rw [List.size_toArray]; omega)) ⟨e, ?_⟩
  refine ⟨.non, _, I.lset (its' := its ++ [u]) hH e (by simp) (r.append (.cons ru .nil)) ?_, rfl, q⟩
  rw [List.length_append, List.length_singleton]
  omega

def rPop : V → List V → Hp → VK → Prop := fun x vs H Q => ∃ l xs y, x = .ref l ∧ vs = [] ∧ H l = some (.lst xs) ∧ xs[xs.length - 1]? = some y ∧ Q y (upd H l (.lst xs.dropLast))
theorem mt_pop : MtM X "list.pop" rPop := by
  intro pins s σ H x vs v us Q I rx rv h
  obtain ⟨l, xs, y, rfl, rfl, hH, hy, q⟩ := h
  cases rx
  have hus := rv.zero
  subst hus
  obtain ⟨z, its, n, r, hl, e⟩ := I.lstM hH
  obtain ⟨u, hu, ru⟩ := r.get hy
  have hy' : its.toArray[its.toArray.size - 1]? = some u := by
    show its.toArray[its.length - 1]? = some u
    rw [← Array.getElem?_toList, ← hl]
    exact hu
  refine call_meets F.slot_list_pop ⟨_, e, rfl⟩ F.entry_list_pop (F.args_list_pop_1 _) (MeetsSeq.list_pop_last l its.toArray n u hy' (by rw [List.size_toArray]; omega)) ⟨e, ?_⟩
  refine ⟨y, _, I.lset (its' := its.dropLast) hH e ?_ r.dropLast ?_, ru, q⟩
  · show its.toArray.eraseIdxIfInBounds (its.toArray.size - 1) = its.dropLast.toArray
    rw [List.size_toArray, List.eraseIdxIfInBounds_toArray, erase_last]
  · rw [List.length_dropLast]
    omega

end

section
variable {prog : Program} {w : World} {A : Around} {E : Value → Shared → Prop} {s : Shared}
end

section
variable {X : Cx}
end
end L2

namespace Att
open PySem PySem.W PySem.Calls PyProof.Rows

theorem ints_of_wellAll {P : Params} {h : Heap} : ∀ (ns : List Int) (vs : List Value), WellAll P h vs (ns.map WData.int) → IntsAre vs ns := by
  intro ns
  induction ns with
  | nil =>
    intro vs w
    rw [List.map_nil] at w
    cases w
    exact .nil
  | cons n ns ih =>
    intro vs w
    rw [List.map_cons] at w
    cases w with
    | cons a b =>
      cases a
      exact .cons _ _ (ih _ b)

theorem script_of {l : OpenLaw} {n : Nat} (hn : l.most = some n) {P : Params} {h : Heap} {args : List WData} {vals : List Value}
    (hpre : l.row.toRowW.claim.pre args = true) (hwl : WellAll P h vals args) :
    ∃ a vs ns, vals = [Value.ref a] ∧ args = [WData.list (ns.map WData.int)] ∧ h.get? a = some { cls := .type "list", data := .seq vs.toArray } ∧ IntsAre vs ns ∧ ns.length ≤ n := by
  have hsh : WShape.hasAll [] args [.list .int] = true := (pre_splitW hpre).1
  have hc : l.pre.holds [] { args := args } = true := (pre_splitW hpre).2
  obtain ⟨d, r, rfl, h1, h2⟩ := hasAllW_cons hsh
  obtain rfl := hasAllW_nil h2
  obtain ⟨xs, rfl, h3⟩ := hasW_list h1
  obtain ⟨ns, rfl⟩ := items_int h3
  have hlen : ns.length ≤ n := by
    unfold OpenLaw.pre at hc
    have h4 : (WTm.not (.lt (.lit (.int (n : Int))) (.len (.arg 0)))).holds [] { args := [.list (ns.map .int)] } = true := by
      have h4 := (holds_andW hc).1
      rw [hn] at h4
      exact h4
    have h5 := condW_of h4 (w_not (w_lt w_lit (w_len_list (w_arg rfl))))
    rw [List.length_map] at h5
    refine Nat.le_of_not_lt fun q => ?_
    have q' : (n : Int) < ((ns.length : Nat) : Int) := by omega
    first
      | (rw [decide_eq_true q'] at h5; exact absurd h5 (by decide))
      | (simp at h5; omega)
  cases hwl with
  | cons w1 w2 =>
    cases w2
    cases w1 with
    | list ho hall => exact ⟨_, _, ns, rfl, rfl, ho, ints_of_wellAll ns _ hall, hlen⟩

theorem post_true (l : OpenLaw) (args : List WData) : l.row.toRowW.claim.post args (.bool true) args = true :=
  postW_of (r := l.row.toRowW) (X := (true == true))
    (show WShape.has [] (.bool true) .bool = true by first | rfl | decide | simp [WShape.has, WShape.arms, WShape.armsAll])
    (show (WTm.eq .res (.lit (.bool true))).value [] { args := args, res := some (.bool true), after := args } = some (.bool (true == true)) from w_eq_bool (w_res rfl) w_lit) rfl

theorem attach_call {l : OpenLaw} {n : Nat} {q : Program} {loose : List Str} {XP : (Str → Option Value) → Heap → Prop} {YP : World → Heap → Prop} {d : DefRec}
    (hn : l.most = some n) (hdf : d.params.defaults = [])
    (call : ∀ (w : World) (s₀ s₁ : Shared) (mg mb : Str → Option Value) (fa : Addr) (o : Obj) (pm cd doc : Value) (a : Addr) (vs : List Value) (ns : List Int),
      Ground q loose [] XP w s₀ mg mb s₁.heap → YP w s₁.heap →
      s₁.heap.get? fa = some o → o.data = .func (docDef d.name d.params d.body d.scope pm cd doc) → s₁.heap.CodeRec cd d.name → mg d.name = some (.ref fa) →
      s₁.heap.get? a = some { cls := .type "list", data := .seq vs.toArray } → IntsAre vs ns → ns.length ≤ n → s₁.gens = #[] →
      codeAny (model l.prog w) callerA (.call (.ref fa) ⟨[.ref a], []⟩) (fun r s' => r = .ok (.ret (.bool true)) ∧ OldK s₁.heap s'.heap ∧ s'.os = s₁.os ∧ AllBare s'.gens) s₁) :
    WalkO q loose XP YP l.row.toRowW d [] (fun f vs => PySem.call f vs) := by
  intro w s₀ s₁ mg mb G Y fa o pm cd doc dV kV ho hd hcd hD hmg hg args vals as hpre hlay hrd hwl hlo
  obtain rfl : dV = .none := Dflts.none hD hdf
  obtain rfl : kV = .none := Dflts.noKw hD
  obtain ⟨a, vs, ns, rfl, rfl, hobj, hints, hlen⟩ := script_of hn hpre hwl
  refine enter_call (codeAny_mono (call w s₀ s₁ mg mb fa o pm cd doc a vs ns G Y ho (fd_plain hd) hcd hmg hobj hints hlen hg) fun r s' hq => ?_)
  obtain ⟨rfl, h2, h3, h4⟩ := hq
  exact ⟨.inl ⟨.bool true, .bool true, [], rfl, fun _ => rfl, .bool true, post_true l _, fun _ => ⟨List.Pairwise.nil, fun _ hm => (nomatch hm)⟩⟩, h2, h3, h4⟩

section
variable {prog : Program} {w : World} {A : Around} {E : Value → Shared → Prop} {s : Shared} {K : Frag}

def ledger (h : Heap) (L d : Addr) : List (Addr × Obj) := (List.range h.objs.size).filterMap fun a => if a = L ∨ a = d then none else (h.get? a).map fun o => (a, o)
end
end Att

namespace L2
open PySem PySem.Spec PyProof.Rows

theorem vals_ints : ∀ {vs : List Value} {ns : List Int}, IntsAre vs ns → Vals (ns.map V.int) vs
  | _, _, .nil => .nil
  | _, _, .cons n t h => .cons ⟨t, rfl⟩ (vals_ints h)

def Only (H : Hp) : Prop := ∀ b, H b = none ∨ ∃ o xs, H b = some (.frz o (.lst xs))

theorem law_call {P : Program} {w : World} {K : PySem.W.Frag} {mg mb : Str → Option Value} {CX : CXT} {k : Nat} {fa a : Addr} {fd : FuncData} {x : Str} {sp : Sp} {s₁ : Shared} {vs : List Value} {ns : List Int}
    (KX : K.In s₁.heap) (hns : s₁.heap.Ns mainGlobals mg) (hb : s₁.heap.Ns builtinsNs mb) (hbb : ∀ x : Str, x ≠ "__name__" → mb x = bootBuiltins x) (hlim : s₁.heap.NoLimit) (hg : s₁.gens = #[])
    (ha : s₁.heap.get? a = some { cls := .type "list", data := .seq vs.toArray }) (hi : IntsAre vs ns) (hl : ns.length ≤ sizeLine) (hr : Room k callerA)
    (F : ∀ base : Heap, K.In base → base.Ns mainGlobals mg → FnOk P w K mg base CX k fa fd [x] sp) (hbind : ∀ (s : Shared) (u : Value), BindsTo s fd ⟨[u], []⟩ [(x, u)])
    (hsp : ∀ H : Hp, Only H → SqL K H a (ns.map V.int) → sp [.ref a] H (fun v _ => v = .bl true) fun _ _ _ => False)
    (hCX : ∀ H e s', CX [] H s₁ (fun _ _ _ => False) e s' → False) :
    codeAny (model P w) callerA (.call (.ref fa) ⟨[.ref a], []⟩) (fun r s' => r = .ok (.ret (.bool true)) ∧ OldK s₁.heap s'.heap ∧ s'.os = s₁.os ∧ AllBare s'.gens) s₁ := by
  have rv := vals_ints hi
  have lenV := hi.length
  -- from an abstract heap in which nothing but the script may be tracked
  have core : ∀ H : Hp, Only H → SqL K H a (ns.map V.int) → HOk P w H s₁.heap → (∀ b, H b ≠ none → b = a) → (H a ≠ none → K.lookup a = none) →
      codeAny (model P w) callerA (.call (.ref fa) ⟨[.ref a], []⟩) (fun r s' => r = .ok (.ret (.bool true)) ∧ OldK s₁.heap s'.heap ∧ s'.os = s₁.os ∧ AllBare s'.gens) s₁ := by
    intro H hO hS hok hA hK
    have base_of : ∀ {b : Addr} {o : Obj}, s₁.heap.get? b = some o → H b = none → (hidT s₁.heap H).get? b = some o := fun e n => hidT_get e n
    have noA : ∀ {b : Addr} {o : Obj} {es : Array DictEntry} {ep : Nat}, s₁.heap.get? b = some o → o.data = .dict es ep → H b = none := fun {b o es ep} e d => by
      cases q : H b with
      | none => rfl
      | some u =>
        have e' : b = a := hA b (by rw [q]; simp)
        subst e'
        rw [ha] at e; cases e
        have d' : Data.seq vs.toArray _ = Data.dict es ep := d
        cases d'
    have nsK : ∀ {b : Addr} {m : Str → Option Value}, s₁.heap.Ns b m → (hidT s₁.heap H).Ns b m := fun {b m} ⟨o, es, ep, e, d, r⟩ => ⟨o, es, ep, base_of e (noA e d), d, r⟩
    have hKb : K.In (hidT s₁.heap H) := fun b o e => base_of (KX b o e) (by
      cases q : H b with
      | none => rfl
      | some u =>
        have e' : b = a := hA b (by rw [q]; simp)
        subst e'
        rw [hK (by rw [q]; simp)] at e; cases e)
    have hM : Mod K mg (hidT s₁.heap H) := ⟨hKb, nsK hns, ⟨mb, nsK hb, hbb⟩, let ⟨mc, h1, h2⟩ := hlim; ⟨mc, nsK h1, h2⟩⟩
    have e0 : Env0 P w K mg (hidT s₁.heap H) callerA [] s₁ H := ⟨rfl, hM, fun b o e => of_hidT e, Nat.le_of_eq (hidT_size _ _), trivial, fun b hb => absurd (show b ∈ ([] : List Addr) from hb) (by simp), hok, .of_eq hg⟩
    refine codeAny_mono ((F _ hKb (nsK hns)).run callerA [] s₁ H ⟨[.ref a], []⟩ [.ref a] [.ref a] _ _ hr e0 (hbind s₁ (.ref a)) (.cons rfl .nil) (hsp H hO hS)) fun r s' h => ?_
    cases r with
    | error e => exact (hCX H e s' h).elim
    | ok fl =>
      cases fl with
      | next => exact False.elim h
      | brk => exact False.elim h
      | cont => exact False.elim h
      | ret u =>
        obtain ⟨v, H', os, bare, un, hok', r', q⟩ := h
        have q' : v = .bl true := q
        subst q'
        obtain rfl : u = Value.bool true := r'
        refine ⟨rfl, OldK.of_keep fun b o e => ?_, os, bare⟩
        cases q : H b with
        | none => exact un.keep b o e q (by intro z; exact absurd (show b ∈ ([] : List Addr) from z) (by simp)) (by simp)
        | some u =>
          rcases hO b with z | ⟨ob, xs, z⟩
          · rw [q] at z; cases z
          · have z2 := un.frzs b ob _ z
            obtain ⟨e1, _⟩ := hok b _ z
            obtain ⟨e2, _⟩ := hok' b _ z2
            rw [e] at e1; cases e1
            exact e2
  cases hk : K.lookup a with
  | some o =>
    -- the script is one of the module's own objects
    have e := KX a o hk
    rw [ha] at e
    cases e
    refine core (fun _ => none) (fun _ => .inl rfl) (.inr ⟨_, vs.toArray, _, hk, rfl, rfl, rfl, by rw [List.size_toArray, lenV]; exact hl, by simpa using rv⟩) (fun b u z => by have z' : (none : Option HO) = some u := z; cases z') (fun b z => absurd rfl z) fun z => absurd rfl z
  | none =>
    refine core (fun b => if b = a then some (.frz { cls := .type "list", data := .seq vs.toArray } (.lst (ns.map V.int))) else none) (fun b => ?_) (.inl (.inr ⟨{ cls := .type "list", data := .seq vs.toArray }, if_pos rfl⟩)) (fun b u z => ?_) (fun b z => ?_) fun _ => hk
    · by_cases hb : b = a
      · exact .inr ⟨_, _, if_pos hb⟩
      · exact .inl (if_neg hb)
    · by_cases hb : b = a
      · have z' := (if_pos hb).symm.trans z
        cases z'
        subst hb
        exact ⟨ha, by rw [List.length_map]; exact hl, vs, _, rv, ha⟩
      · have z' := (if_neg hb).symm.trans z
        cases z'
    · by_cases hb : b = a
      · exact hb
      · exact absurd (if_neg hb) z
end L2

namespace L2
open PySem PySem.Spec PyProof.Rows

abbrev KOf {K : PySem.W.Frag} {h : Heap} (_ : K.In h) : PySem.W.Frag := K

theorem walk_of {l : PySem.W.OpenLaw} {n k : Nat} {q : Program} {loose : List Str} {XP : (Str → Option Value) → Heap → Prop} {YP : World → Heap → Prop} {d : DefRec} {K : Params → PySem.W.Frag} {CX : World → CXT} {sp : World → Sp} {x : Str}
    (hn : l.most = some n) (hn2 : n ≤ sizeLine) (hdf : d.params.defaults = []) (hr : Room k callerA)
    (hY : ∀ (w : World) (h : Heap), YP w h → (K w.params).In h)
    (F : ∀ (w : World) (mg : Str → Option Value) (fa : Addr) (h : Heap), (K w.params).In h → h.Ns mainGlobals mg → mg d.name = some (.ref fa) →
      ∃ fd : FuncData, (∀ (s : Shared) (u : Value), BindsTo s fd ⟨[u], []⟩ [(x, u)]) ∧
        ∀ base : Heap, (K w.params).In base → base.Ns mainGlobals mg → FnOk l.prog w (K w.params) mg base (CX w) k fa fd [x] (sp w))
    (hsp : ∀ (w : World) (H : Hp) (a : Addr) (ns : List Int), ns.length ≤ n → Only H → SqL (K w.params) H a (ns.map V.int) → sp w [.ref a] H (fun v _ => v = .bl true) fun _ _ _ => False)
    (hCX : ∀ (w : World) (H : Hp) (s : Shared) (e : Value) (s' : Shared), CX w [] H s (fun _ _ _ => False) e s' → False) :
    PySem.W.WalkO q loose XP YP l.row.toRowW d [] (fun f vs => PySem.call f vs) := by
  refine Att.attach_call hn hdf fun w s₀ s₁ mg mb fa o pm cd doc a vs ns G Y ho hd hcd hmg hobj hints hlen hg => ?_
  have KX := hY w _ Y
  obtain ⟨fd, hb, hF⟩ := F w mg fa _ KX G.T.g hmg
  exact law_call KX G.T.g G.T.b G.T.builtins G.T.nolimit hg hobj hints (Nat.le_trans hlen hn2) hr hF hb (fun H hO hS => hsp w H a ns hlen hO hS) fun H e s' => hCX w H s₁ e s'
theorem walk_ofK {l : PySem.W.OpenLaw} {n k : Nat} {q : Program} {loose : List Str} {XP : (Str → Option Value) → Heap → Prop} {YP : World → Heap → Prop} {d : DefRec} {K : Params → PySem.W.Frag} {CX : CXT} {sp : PySem.W.Frag → Sp} {x : Str}
    (hn : l.most = some n) (hn2 : n ≤ sizeLine) (hdf : d.params.defaults = []) (hr : Room k callerA)
    (hY : ∀ (w : World) (h : Heap), YP w h → (K w.params).In h)
    (F : ∀ (w : World) (mg : Str → Option Value) (fa : Addr) (h : Heap), (K w.params).In h → h.Ns mainGlobals mg → mg d.name = some (.ref fa) →
      ∃ fd : FuncData, (∀ (s : Shared) (u : Value), BindsTo s fd ⟨[u], []⟩ [(x, u)]) ∧
        ∀ base : Heap, (K w.params).In base → base.Ns mainGlobals mg → FnOk l.prog w (K w.params) mg base CX k fa fd [x] (sp (K w.params)))
    (hsp : ∀ (K : PySem.W.Frag) (H : Hp) (a : Addr) (ns : List Int), ns.length ≤ n → Only H → SqL K H a (ns.map V.int) → sp K [.ref a] H (fun v _ => v = .bl true) fun _ _ _ => False)
    (hCX : ∀ (H : Hp) (s : Shared) (e : Value) (s' : Shared), CX [] H s (fun _ _ _ => False) e s' → False) :
    PySem.W.WalkO q loose XP YP l.row.toRowW d [] (fun f vs => PySem.call f vs) :=
  walk_of (K := K) (CX := fun _ => CX) (sp := fun w => sp (K w.params)) hn hn2 hdf hr hY F (fun w H a ns h1 h2 h3 => hsp (K w.params) H a ns h1 h2 h3) fun _ H s e s' => hCX H s e s'
end L2

/- THE LAST THEOREM (shape; LID, My.* are yours):
   My.Adr: a structure of the addresses that your layer names (classes, functions); My.Txt K t: a structure (Prop) of the equations over K;
   My.txt_mk : {K} {implicit addresses ..} (e1 : nsIn K mainGlobals "law" = some (some (.ref f))) (e2 : K.lookup f = some ⟨oc, od, .func (fnOf "law" "law" params body scope dV kV doc pm an cdv ct), sl⟩) (e3 : codeIn K cdv "law" = true) .. : ∃ t, My.Txt K t

set_option maxRecDepth 100000 in
set_option maxHeartbeats 0 in
theorem PySem.Challenge.cw_LID_holds : PySem.Challenge.rw_LID.Holds := by
  w_on; o_law; k_head; (case hw => w_witness2)
  k_fill
  refine L2.walk_of (l := PySem.Challenge.rw_LID) (n := 63) (k := 40) (x := "script") (CX := fun w => ..) (sp := fun _ => My.sp_law) rfl (by decide) rfl ⟨rfl, by decide, by decide⟩ (fun w h Y => PySem.W.kIn_of Y) ?F ?S ?C
  case F =>
    intro w mg fa h KX G hmg
    have T : ∃ t, My.Txt (L2.KOf KX) t := by
      dsimp only [L2.KOf]                          -- K must stand as «<heap const> w.params» for k_is
      refine' My.txt_mk ?e1 ?e2 ?e3 ..
      (case e1 => PySem.W.k_is)                    -- in the order: a name -> its address -> its object -> its parts
      (case e2 => PySem.W.k_is)
      ..
    obtain ⟨t, T⟩ := T
    have e0 := hmg.symm.trans (PySem.W.mg_of KX G T.law)
    cases e0                                       -- fa is the law's own address
    exact ⟨_, fun s u => .of_eq rfl, fun base kb nb => My.law_fn T kb nb⟩     -- if «.of_eq rfl» comes too early: refine' ⟨_, ?b, fun base kb nb => My.law_fn T kb nb⟩; exact fun s u => .of_eq rfl
  case S => exact fun w H a ns hl hO hS => ..
  case C => exact ..
(the tactic k_is has no namespace: write k_is) -/

namespace L2
open PySem PySem.Spec PyProof.Rows

def defArgs (s : Stmt) : Arguments := match s with
  | .FunctionDef _ a _ _ _ _ _ _ _ _ => a
  | _ => { posonlyargs := [], args := [], vararg := none, kwonlyargs := [], kw_defaults := [], kwarg := none, defaults := [] }
def defBody (s : Stmt) : List Stmt := match s with
  | .FunctionDef _ _ b _ _ _ _ _ _ _ => b
  | _ => []
def defScope (s : Stmt) : Scope := match s with
  | .FunctionDef _ _ _ _ _ _ sc _ _ _ => sc
  | _ => { kind := .function, names := [], isGenerator := false, isCoroutine := false }

abbrev CX0 : CXT := fun _ _ _ _ _ _ => False
abbrev E0 : XK := fun _ _ _ => False
theorem pass0 {X : Cx} : Passes CX0 X E0 := fun _ _ _ _ _ _ _ h => h.elim

structure Fun (K : PySem.W.Frag) (x qual : Str) (st : Stmt) (f : Addr) (fd : FuncData) : Prop where
  ex : ∃ (oc : Value) (od : Option Addr) (kV doc pm : Value) (an : Option Addr) (cdv ct : Value) (osl : Array (Option Value)),
    fd = PySem.W.fnOf x qual (defArgs st) (defBody st) (defScope st) .none kV doc pm an cdv ct ∧ K.lookup f = some ⟨oc, od, .func fd, osl⟩ ∧ PySem.W.codeIn K cdv qual = true
  kp : PySem.W.keepIn K (.ref f) = true
section
variable {P : Program} {w : World} {K : PySem.W.Frag} {mg : Str → Option Value} {base : Heap}
theorem Fun.ok {x qual : Str} {st : Stmt} {f : Addr} {fd : FuncData} {N ps : List Str} {k : Nat} {sp : Sp} (F : Fun K x qual st f fd) (S : FnScope N ps (defScope st)) (len : ∀ vs H Q E, sp vs H Q E → vs.length = ps.length)
    (hbody : ∀ (cdv : Value) (A : Around) (outer : List Env) (s : Shared) (H : Hp) (vs : List V) (Q : VK) (E : XK), Room k (A.deeper (envOfC qual (defScope st) s.heap.objs.size f cdv)) → sp vs H Q E →
      ∃ t, PSs (cxOf CX0 P w K mg base N qual (defScope st) f cdv A outer s H E).nox (defBody st) t ∧ t { nx := fun _ H' => Q .non H', rt := Q } (start N vs) H) : FnOk P w K mg base CX0 (k + 1) f fd ps sp := by
  obtain ⟨oc, od, kV, doc, pm, an, cdv, ct, osl, rfl, lk, hcd⟩ := F.ex
  refine fn_of lk hcd S len fun A outer s H vs Q E hr hsp => ?_
  obtain ⟨t, h, q⟩ := hbody cdv A outer s H vs Q E hr hsp
  exact ⟨t, h.nox, q⟩
theorem Fun.binds {x qual : Str} {st : Stmt} {f : Addr} {fd : FuncData} {ps : List Str} (F : Fun K x qual st f fd)
    (h : ∀ (kV doc pm : Value) (an : Option Addr) (cdv ct : Value) (us : List Value), us.length = ps.length → bindArgs (PySem.W.fnOf x qual (defArgs st) (defBody st) (defScope st) .none kV doc pm an cdv ct) ⟨us, []⟩ = pure (ps.zip us)) : Binds K fd ps [] := by
  obtain ⟨oc, od, kV, doc, pm, an, cdv, ct, osl, rfl, lk, hcd⟩ := F.ex
  exact .all (h kV doc pm an cdv ct)
theorem fun_mk {x qual : Str} {st : Stmt} {f : Addr} {oc : Value} {od an : Option Addr} {osl : Array (Option Value)} {kV doc pm cdv ct : Value} (l : K.lookup f = some ⟨oc, od, .func (PySem.W.fnOf x qual (defArgs st) (defBody st) (defScope st) .none kV doc pm an cdv ct), osl⟩)
    (c : PySem.W.codeIn K cdv qual = true) (k : PySem.W.keepIn K (.ref f) = true) : Fun K x qual st f (PySem.W.fnOf x qual (defArgs st) (defBody st) (defScope st) .none kV doc pm an cdv ct) := ⟨⟨oc, od, kV, doc, pm, an, cdv, ct, osl, rfl, l, c⟩, k⟩
end
theorem small1000 {n : Nat} (h : n ≤ 1000) : n < sizeLine := Nat.lt_of_le_of_lt h (by decide)

section
variable {X : Cx}
theorem pv (i : Nat) {x : Str} {pos : Pos} (hN : X.N[i]? = some x := by rfl) (hv : Vis X.env.scope x := by first | exact Or.inl rfl | exact Or.inr (Or.inl rfl) | exact Or.inr (Or.inr rfl)) (hd : (x == ("__debug__" : Str)) = false := by decide)
    (hcd : (x == ("__classdict__" : Str)) = false := by decide) : PE X (.Name x pos) (tVar i) := pe_var hN hv hd hcd
end

theorem iteF {A B : Prop} (h : B) : if false = true then A else B := by
  rw [if_neg Bool.false_ne_true]
  exact h
theorem iteT {A B : Prop} (h : A) : if true = true then A else B := by
  rw [if_pos rfl]
  exact h
end L2


namespace L2
open PySem PySem.Spec PyProof.Rows

section
variable {κ : Type} [DecidableEq κ]
end


section
variable {P : Program} {w : World} {H : Hp} {h : Heap} {a : Addr}
end

section
variable {X : Cx} {pins : List (Addr × Obj)} {σ : St} {H : Hp} {s : Shared} {a : Addr} {y v : V} {u r : Value} {o : Option V} {A : Around} {E : Value → Shared → Prop}

theorem Inv.big (I : Inv X pins σ H s) : sysModules < s.heap.objs.size := by
  have h : mainGlobals < s.heap.objs.size := (I.mod.glob.keeps I.bk).lt
  exact Nat.lt_trans (by decide) h

end

section
variable {X : Cx} {pins : List (Addr × Obj)} {σ : St} {H : Hp} {s : Shared} {a : Addr} {kvs : List (Key × V)} {k : Key} {u : Value} {A : Around} {E : Value → Shared → Prop}
end


section
variable {X : Cx} {o i e value : Expr} {pos pos' tpos : Pos} {td ty tv : TE}
end


section
variable {X : Cx} {pos : Pos}
end

end L2


set_option linter.all false
set_option maxRecDepth 100000
set_option maxHeartbeats 4000000 -- own
namespace L2
open PySem PySem.Spec PyProof.Rows
variable {X : Cx} {pins : List (Addr × Obj)} {σ : St} {H : Hp} {s : Shared}
def NDic (P : Program) (w : World) (a : Addr) (ks : List NK.Nd) (as : List Addr) : Heap → Prop := fun h => (a == sysModules) = false ∧ ∃ o es ep, ∃ xs : List (NK.Nd × Addr × Value), h.get? a = some o ∧ o.ExactDict ∧ o.data = .dict es ep ∧ es.toList = xs.map (entryOfKey (NK.kind P w)) ∧ xs.map (·.1) = ks ∧ xs.map (·.2.1) = as ∧ (∀ (i : Nat) x, xs[i]? = some x → ∃ tk, x.2.2 = .int (i : Int) tk) ∧ ks.Nodup
theorem NDic.ok {P : Program} {w : World} {a : Addr} {ks : List NK.Nd} {as : List Addr} {H : Hp} {h : Heap} (n : NDic P w a ks as h) : ObjOk P w H h a (.ext (NDic P w a ks as)) := by
  refine ⟨n, ?_, ?_⟩
  · obtain ⟨_, o, es, ep, xs, ho, _⟩ := n
    exact ⟨o, ho⟩
  · rintro h1 h2 ⟨hb, o, es, ep, xs, ho, r⟩ k
    exact ⟨hb, o, es, ep, xs, k o ho, r⟩
def NodeIn (K : PySem.W.Frag) (H : Hp) (k : NK.Nd) (a : Addr) : Prop := ∃ b c, SqT K H a [.str k.1, .ref b, .ref c] ∧ SqT K H b (k.2.1.map V.int) ∧ SqT K H c (k.2.2.map V.int)
theorem items_ints {prog : Program} {w : World} : ∀ {ns : List Int} {vs : List Value}, Vals (ns.map V.int) vs → ItemsAre (intKind prog w) ns vs
  | [], _, .nil => .nil
  | n :: ns, _, .cons r t => by
    obtain ⟨tk, rfl⟩ := r
    exact .cons (by simp [intKind, Value.isInt]) (items_ints t)
theorem key_ints (I : Inv X pins σ H s) {ns : List Int} {b : Addr} (h : SqT X.K H b (ns.map V.int)) : IsTupleKey (intKind X.prog X.w) s.heap ns b := by
  obtain ⟨is, r, ⟨o, ho, hc, n, hd⟩, _⟩ := I.tuple h
  exact ⟨o, _, n, ho, hc, hd, items_ints r⟩
theorem node_at (I : Inv X pins σ H s) {k : NK.Nd} {a : Addr} (h : NodeIn X.K H k a) : NK.At X.prog X.w s.heap k a := by
  obtain ⟨b, c, h1, h2, h3⟩ := h
  obtain ⟨is, r, ⟨o, ho, hc, n, hd⟩, _⟩ := I.tuple h1
  cases r with
  | cons r1 r =>
    cases r with
    | cons r2 r =>
      cases r with
      | cons r3 r =>
        cases r
        cases r2
        cases r3
        obtain ⟨tk, rfl⟩ := r1
        exact ⟨o, _, n, _, b, c, ho, hc, hd, rfl, by show Value.isStrOf k.1 (Value.str k.1 tk) = true; simp [Value.isStrOf], key_ints I h2, key_ints I h3⟩
def NodesIn (K : PySem.W.Frag) (H : Hp) (ks : List NK.Nd) (as : List Addr) : Prop := Paired (NodeIn K H) ks as
theorem paired_get {α β : Type} {R : α → β → Prop} {xs : List (α × β × Value)} : Paired R (xs.map (·.1)) (xs.map (·.2.1)) → ∀ x ∈ xs, R x.1 x.2.1 := by
  induction xs with
  | nil => intro _ x hx; cases hx
  | cons y xs ih =>
    intro h x hx
    cases h with
    | cons h1 h2 =>
      rcases List.mem_cons.mp hx with rfl | hx2
      · exact h1
      · exact ih h2 x hx2
theorem atKey_at {α : Type} [DecidableEq α] {xs : List (α × Addr × Value)} {k : α} {p : Addr × Value} (h : atKey xs k = some p) : ∃ i : Nat, xs[i]? = some (k, p) := by
  unfold atKey at h
  cases e : xs.find? fun x => decide (x.1 = k) with
  | none => rw [e] at h; cases h
  | some x =>
    rw [e] at h
    have h1 := List.find?_some e
    have h2 := List.mem_of_find?_eq_some e
    obtain ⟨i, hi, ei⟩ := List.getElem_of_mem h2
    have q : x.1 = k := of_decide_eq_true h1
    have q2 : x.2 = p := Option.some.inj h
    refine ⟨i, ?_⟩
    rw [List.getElem?_eq_getElem hi, ei, ← q, ← q2]
theorem atKey_not {α : Type} [DecidableEq α] {xs : List (α × Addr × Value)} {k : α} (h : atKey xs k = none) : k ∉ xs.map (·.1) := by
  unfold atKey at h
  rw [Option.map_eq_none_iff, List.find?_eq_none] at h
  intro q
  obtain ⟨x, hx, e⟩ := List.mem_map.mp q
  exact h x hx (decide_eq_true e)
def rSetD (P : Program) (w : World) (K : PySem.W.Frag) : V → List V → Hp → VK → Prop := fun x vs H Q => ∃ d ks as k a, x = .ref d ∧ vs = [.ref a, .int (ks.length : Nat)] ∧ H d = some (.ext (NDic P w d ks as)) ∧ NodesIn K H ks as ∧ NodeIn K H k a ∧ ks.length < 1000 ∧ (∀ i : Nat, ks[i]? = some k → Q (.int i) H) ∧ (k ∉ ks → Q (.int (ks.length : Nat)) (upd H d (.ext (NDic P w d (ks ++ [k]) (as ++ [a])))))
theorem mt_setD (hu : X.A.units + 64 < cLine) : MtM X "dict.setdefault" (rSetD X.prog X.w X.K) := by
  intro pins s σ H x vs v us Q I rx rv h
  obtain ⟨d, ks, as, k, a, rfl, rfl, hH, hK, hk, hz, q1, q2⟩ := h
  cases rx
  obtain ⟨u1, u2, rfl, r1, r2⟩ := rv.two
  cases r1
  obtain ⟨tk, rfl⟩ := r2
  obtain ⟨hN, _, _⟩ := (show ObjOk X.prog X.w H s.heap d (.ext (NDic X.prog X.w d ks as)) from I.hok d _ hH)
  obtain ⟨hb, o, es, ep, xs, ho, hc, hd, he, rfl, rfl, hv, nd⟩ := hN
  have hm : s.heap.DictOfH (NK.kind X.prog X.w) d xs := ⟨o, es, ep, ho, hc, hd, he, fun x hx => node_at I (paired_get hK x hx), nd⟩
  have lz : xs.length < 1000 := by rw [List.length_map] at hz; exact hz
  refine wpAny_call_entry F.slot_dict_setdefault hm.typeIs F.entry_dict_setdefault (NK.call_tree (knd := NK.kind X.prog X.w) (k := k) (xs := xs) hb (show X.A.units + 1 + 8 < cLine by omega) (node_at I hk) hm (by rw [sizeLine_eq]; omega) (fun p hp => ?_) fun hn h' hm' hs' => ?_) (F.args_dict_setdefault_3 _ _ _)
  · obtain ⟨i, ei⟩ := atKey_at hp
    obtain ⟨tk', e'⟩ := hv i _ ei
    refine ⟨_, rfl, .int i, H, I.kept (fun b o e => e), ⟨tk', e'⟩, q1 i ?_⟩
    rw [List.getElem?_map, ei]
    rfl
  · have nk := atKey_not hn
    obtain ⟨o', es', ep', ho', hc', hd', he', _, nd'⟩ := hm'
    refine ⟨_, rfl, .int (List.map (fun x => x.fst) xs).length, _, I.write (x := d) (e := d) (o := .ext (NDic X.prog X.w d (xs.map (·.1) ++ [k]) (xs.map (·.2.1) ++ [a]))) (by rw [hH]; exact trivial) (.inl rfl) (fun b u hb hu => (hs'.2 b hb).trans hu) ⟨o', ho'⟩ (NDic.ok ?_), ⟨tk, rfl⟩, q2 nk⟩
    refine ⟨hb, o', es', ep', _, ho', hc', hd', he', by simp, by simp, fun i x hx => ?_, by simpa using nd'⟩
    rw [List.getElem?_append] at hx
    by_cases hi : i < xs.length
    · rw [if_pos hi] at hx
      exact hv i x hx
    · rw [if_neg hi] at hx
      have q : i = xs.length ∧ x = (k, a, Value.int (List.map (fun x => x.fst) xs).length tk) := by
        cases e : i - xs.length with
        | zero => rw [e] at hx; simp at hx; exact ⟨by omega, by rw [← hx, List.length_map]⟩
        | succ j => rw [e] at hx; simp at hx
      obtain ⟨e1, e2⟩ := q
      subst e2
      exact ⟨tk, by rw [List.length_map, e1]⟩
def tDNewN (P : Program) (w : World) : TE := fun _ H Q => ∀ p, H p = none → Q (.ref p) (upd H p (.ext (NDic P w p [] [])))
theorem pe_dnewN {pos : Pos} : PE X (.Dict [] [] pos) (tDNewN X.prog X.w) := fun pins s σ H Q I h =>
  wpAny_Dict_empty ⟨.ref s.heap.objs.size, _, I.laid (a := s.heap.objs.size) (o := .ext (NDic X.prog X.w s.heap.objs.size [] [])) (t' := s.toks) (fun _ _ q => Heap.get?_push_of_some _ q) (Nat.le_refl _) (NDic.ok ⟨beq_eq_false_iff_ne.mpr (Ne.symm (Nat.ne_of_lt I.big)), _, #[], 0, [], Heap.get?_push_size _ rfl, ⟨rfl, rfl, rfl⟩, rfl, rfl, rfl, rfl, fun i x h => by simp at h, List.nodup_nil⟩), rfl, h _ (I.hok.fresh (Nat.le_refl _))⟩
end L2


set_option linter.all false
set_option maxRecDepth 100000
set_option maxHeartbeats 4000000 -- own
namespace RD
open PySem PyProof.Rows
open Sem (wp)
def At (h : Heap) (d : Addr) (es : Array DictEntry) (ep : Nat) : Prop := ∃ o, h.get? d = some o ∧ o.ExactDict ∧ o.data = .dict es ep
variable {prog : Program} {w : World} {A : Around} {E : Value → Shared → Prop} {s : Shared} {d it : Addr} {es : Array DictEntry} {ep i : Nat}
theorem At.ty (x : At s.heap d es ep) : s.TypeIs (.ref d) "dict" := by
  obtain ⟨o, g, c, _⟩ := x
  exact ⟨o, g, c.1⟩
theorem At.lt {h : Heap} (x : At h d es ep) : d < h.objs.size := by
  obtain ⟨o, g, _⟩ := x
  exact Heap.lt_size g
theorem At.to {h h' : Heap} (x : At h d es ep) (k : ∀ o, h.get? d = some o → h'.get? d = some o) : At h' d es ep := by
  obtain ⟨o, g, r⟩ := x
  exact ⟨o, k o g, r⟩
theorem iter {Q : Value → Shared → Prop} (lo : (d == sysModules) = false) (m : At s.heap d es ep) (q : Q (.ref s.heap.objs.size) { s with heap := s.heap.push { cls := .type "dict_keyiterator", data := .fields #[.ref d, .int 0 0, .int es.size 0, .int ep 0] } }) :
    wpAny (model prog w) A (PySem.pyIter (.ref d)) Q E s := by
  have ty := m.ty
  obtain ⟨o, g, c, g2⟩ := m
  refine wpAny_pyIter_slot ty F.slot_dict_iter (wpAny_call_entry F.slot_dict_iter ty F.entry_dict_iter ?_ (F.args_dict_iter_1 _))
  unfold Builtin.«dict.__iter__»; refine wpAny_bind ?_; unfold Builtin.Dict.dictSlotNone
  refine wpAny_bind (wpAny_notOrdered_dict ty ?_)
  show wpAny _ _ (Pure.pure (Value.ref d)) _ _ s
  refine wpAny_pure ?_
  show wpAny _ _ (Bind.bind (Builtin.Dict.showsAll d) _) _ _ s
  unfold Builtin.Dict.showsAll
  rw [if_neg (by rw [lo]; simp)]
  refine wpAny_bind (wpAny_pure (wpAny_bind (wpAny_dictEntries g g2 (wpAny_bind (wpAny_dictEpoch g g2 ?_)))))
  refine wpAny_bind (wpAny_newObj_type (wpAny_pure ⟨_, rfl, "dict_keyiterator", _, ⟨_, Heap.get?_push_size s.heap rfl, rfl⟩, F.slot_dict_keyiterator_next.lookup, ?_⟩))
  simpa [rawInt] using q
theorem item {Q : Option Value → Shared → Prop} (t : s.heap.IsKeyIter it d i es.size ep) (m : At s.heap d es ep) (hi : i < es.size) (q : ∀ h', h'.IsKeyIter it d (i + 1) es.size ep → Heap.SameBut it s.heap h' → Q (some es[i].key) { s with heap := h' }) :
    wpAny (model prog w) A (PySem.pyNext (.ref it)) Q E s := by
  obtain ⟨o, g, c, g2⟩ := id t
  obtain ⟨od, gd, cd, gd2⟩ := id m
  have ty := t.typeIs
  unfold pyNext
  refine wpAny_bind (wpAny_attempt (wpAny_callSpecial?_slot (name := Str.ofString "__next__") ty F.slot_dict_keyiterator_next (wpAny_call_entry F.slot_dict_keyiterator_next ty F.entry_dict_keyiterator_next ?_ (F.args_dict_keyiterator_next_1 _))))
  refine wpAny_bind (wpAny_pure (wpAny_bind (wpAny_bind ?_)))
  first | refine wpAny_bind (wpAny_typeNameOfWhole_keyiter ty (wpAny_pure ?_)) | refine wpAny_bind (wpAny_typeNameOf_keyiter ty (wpAny_pure ?_))
  refine wpAny_bind (wpAny_fieldsOf g g2 ?_)
  simp only [show Builtin.Dict_items.ownsTuple "dict_keyiterator" = false by decide, Bool.false_eq_true, if_false]
  show wpAny _ _ (ite ((Value.ref d == Value.none) = true) _ _) _ _ s
  rw [if_neg (show ¬ ((Value.ref d == Value.none) = true) by simp)]
  refine wpAny_bind (wpAny_pure (wpAny_bind (wpAny_dictEntries gd gd2 ?_)))
  rw [if_neg (by simp)]
  refine wpAny_bind (wpAny_pure (wpAny_bind (wpAny_dictEpoch gd gd2 ?_)))
  rw [if_neg (by simp)]
  refine wpAny_pure ?_
  simp only [show ¬ ((i : Int) < 0) by omega, if_false, Int.toNat_natCast, Array.getElem?_eq_getElem hi]
  refine wpAny_bind ?_
  first | refine wpAny_bind (wpAny_typeNameOfWhole_keyiter ty (wpAny_pure ?_)) | refine wpAny_bind (wpAny_typeNameOf_keyiter ty (wpAny_pure ?_))
  refine wpAny_bind (wpAny_isOneOf_keyiter ty ?_)
  show wpAny _ _ (Bind.bind (setField (.ref it) 1 (rawInt ((i : Int) + 1))) _) _ _ s
  refine wpAny_bind (wpAny_setField g g2 (by simp) ?_)
  have t' : (s.heap.update it (Obj.mapFields (·.setIfInBounds 1 (rawInt ((i : Int) + 1))))).IsKeyIter it d (i + 1) es.size ep := ⟨_, Heap.get?_update_self _ g (Obj.isFreed_of_fields (Obj.data_mapFields g2 _)), (Obj.cls_mapFields ..).trans c, by rw [Obj.data_mapFields g2]; simp [rawInt]⟩
  refine wpAny_bind (wpAny_holding (wpAny_bind (wpAny_isOneOf_keyiter (s := { s with heap := s.heap.update it (Obj.mapFields (·.setIfInBounds 1 (rawInt ((i : Int) + 1)))) }) t'.typeIs ?_)))
  show wpAny _ _ (Pure.pure es[i].key) _ _ _
  exact wpAny_pure (wpAny_pure ⟨_, rfl, wpAny_pure (q _ t' (Heap.SameBut.update ..))⟩)
theorem fin {Q : Option Value → Shared → Prop} (hh : A.handled = none) (t : s.heap.IsKeyIter it d es.size es.size ep) (m : At s.heap d es ep) (q : ∀ h', Heap.ExtBut it s.heap h' → Q none { s with heap := h' }) : wpAny (model prog w) A (pyNext (.ref it)) Q E s := by
  obtain ⟨o, g, c, g2⟩ := id t
  obtain ⟨od, gd, cd, gd2⟩ := id m
  have ty := t.typeIs
  unfold pyNext
  refine wpAny_bind (wpAny_attempt (wpAny_callSpecial?_slot (name := Str.ofString "__next__") ty F.slot_dict_keyiterator_next (wpAny_call_entry F.slot_dict_keyiterator_next ty F.entry_dict_keyiterator_next ?_ (F.args_dict_keyiterator_next_1 _))))
  refine wpAny_bind (wpAny_pure (wpAny_bind (wpAny_bind ?_)))
  first | refine wpAny_bind (wpAny_typeNameOfWhole_keyiter ty (wpAny_pure ?_)) | refine wpAny_bind (wpAny_typeNameOf_keyiter ty (wpAny_pure ?_))
  refine wpAny_bind (wpAny_fieldsOf g g2 ?_)
  simp only [show Builtin.Dict_items.ownsTuple "dict_keyiterator" = false by decide, Bool.false_eq_true, if_false]
  show wpAny _ _ (ite ((Value.ref d == Value.none) = true) _ _) _ _ s
  rw [if_neg (show ¬ ((Value.ref d == Value.none) = true) by simp)]
  refine wpAny_bind (wpAny_pure (wpAny_bind (wpAny_dictEntries gd gd2 ?_)))
  rw [if_neg (by simp)]
  refine wpAny_bind (wpAny_pure (wpAny_bind (wpAny_dictEpoch gd gd2 ?_)))
  rw [if_neg (by simp)]
  refine wpAny_pure ?_
  simp only [show ¬ ((es.size : Int) < 0) by omega, if_false, Int.toNat_natCast, Array.getElem?_eq_none (Nat.le_refl es.size)]
  refine wpAny_bind ?_
  first | refine wpAny_bind (wpAny_typeNameOfWhole_keyiter ty (wpAny_pure ?_)) | refine wpAny_bind (wpAny_typeNameOf_keyiter ty (wpAny_pure ?_))
  show wpAny _ _ (Bind.bind (setField (.ref it) 0 .none) _) _ _ s
  refine wpAny_bind (wpAny_setField g g2 (by simp) ?_)
  show wpAny _ _ (Bind.bind (newExc (.type "StopIteration") []) _) _ _ _
  refine wpAny_bind ?_
  simp only [newExc, newTuple]
  refine wpAny_bind (wpAny_newObj_type (wpAny_bind (m := firstArgMember _ _) (wpAny_of_eq (a := Value.none) (by first | rfl | (simp only [firstArgMember]; rfl)) (wpAny_newObj_type ?_ (by size_fits)))) (by size_fits))
  simp only [raiseNew]
  refine wpAny_bind (wpAny_handled ?_); rw [show A.in1.handled = none from hh]
  refine wpAny_bind (wpAny_pure (wpAny_throw ?_)); refine wpAny_bind (wpAny_isInstance (T := "StopIteration") (b := true) ⟨_, Heap.get?_push_size _ rfl, rfl⟩ isSubtype_stop ?_)
  exact wpAny_pure (q _ (((Heap.SameBut.update ..).extBut.push _).push _))
theorem walks (hh : A.handled = none) (I : Addr) (hne : d ≠ I) : Walks prog w A I [I, d] [I] es.size (fun j v => ∃ h : j < es.size, v = es[j].key) (fun j h => h.IsKeyIter I d j es.size ep ∧ At h d es ep) where
  sub := fun b hb => by simp only [List.mem_singleton] at hb; simp [hb]
  frame := fun _ _ _ st hk => ⟨st.1.at fun o e => hk I (by simp) o e, st.2.to fun o e => hk d (by simp) o e⟩
  item := fun j s Q E hi st hQ => item st.1 st.2 hi fun h' t' hs => hQ _ h' s.toks ⟨hi, rfl⟩ ⟨t', st.2.to fun o e => hs.extBut d o hne e⟩ fun b o hb e => hs.extBut b o (fun z => hb (by simp [z])) e
  done := fun s Q E st hQ => fin hh st.1 st.2 fun h' he => hQ h' s.toks fun b o hb e => he b o (fun z => hb (by simp [z])) e
  self := fun _ _ _ _ st q => wpAny_pyIter_keyiter st.1 q
theorem src (lo : (d == sysModules) = false) : PySem.W.KdlSrc prog w "dict" d d es.size (fun j v => ∃ h : j < es.size, v = es[j].key) (fun h => At h d es ep) where
  type := fun _ m => m.ty
  there := fun _ m => ⟨m.lt, m.lt⟩
  keep := fun _ _ m k => m.to fun o e => k d (.inl rfl) o e
  notList := by decide
  notTuple := by decide
  hint := fun _ _ _ _ m q => PySem.W.kdl_hint_dict m.ty q
  iter := fun _ _ hh m => ⟨_, _, (fun _ _ q => iter lo m q), walks hh _ (Nat.ne_of_lt m.lt), ⟨⟨_, Heap.get?_push_size _ rfl, rfl, rfl⟩, m.to fun o e => Heap.get?_push_of_some _ e⟩⟩
end RD


set_option linter.all false
set_option maxRecDepth 100000
set_option maxHeartbeats 4000000 -- own
namespace L2
open PySem PySem.Spec PyProof.Rows
variable {X : Cx}
theorem NDic.raw {P : Program} {w : World} {a : Addr} {ks : List NK.Nd} {as : List Addr} {h : Heap} (n : NDic P w a ks as h) : (a == sysModules) = false ∧ ∃ es ep, RD.At h a es ep ∧ es.toList.map (·.key) = as.map Value.ref ∧ as.length = ks.length := by
  obtain ⟨lo, o, es, ep, xs, ho, hc, hd, he, rfl, rfl, _, _⟩ := n
  refine ⟨lo, es, ep, ⟨o, ho, hc, hd⟩, ?_, by simp⟩
  rw [he, List.map_map, List.map_map]
  rfl
theorem raw_len {prog : Program} {w : World} {A : Around} {E : Value → Shared → Prop} {s : Shared} {d : Addr} {es : Array DictEntry} {ep : Nat} {Q : Value → Shared → Prop} (lo : (d == sysModules) = false) (m : RD.At s.heap d es ep) (fit : es.size < 1000)
    (h : Q (.int es.size (s.toks + 1)) { s with toks := s.toks + 1 + 1 }) : wpAny (model prog w) A (call (.builtin "len") [.ref d]) Q E s := by
  have ty := m.ty
  obtain ⟨o, g, c, g2⟩ := m
  refine Calls.call_function_entry kind_len plain_len entry_len (args_len1 _) ?_
  unfold Builtin.«len»
  refine wpAny_bind (m := oneArg "len" _) (wpAny_pure (wpAny_bind (m := callSpecial? (.ref d) (Str.ofString "__len__")) (wpAny_callSpecial?_slot (name := Str.ofString "__len__") ty F.slot_dict_len (wpAny_call_entry F.slot_dict_len ty F.entry_dict_len ?_ (F.args_dict_len_1 _)))))
  show wpAny _ _ (Bind.bind (dictSize d) _) _ _ s
  unfold dictSize
  refine wpAny_bind (wpAny_bind (wpAny_dictEntries g g2 (wpAny_pure ?_)))
  show wpAny _ _ (Bind.bind (Builtin.Dict.pendingCount d) _) _ _ s
  refine wpAny_bind (wpAny_pendingCount_other lo ?_)
  refine wpAny_ret_mkInt ?_
  rw [Nat.add_zero]
  show wpAny _ _ _ _ _ { s with toks := s.toks + 1 }
  refine wpAny_bind (wpAny_holding (wpAny_pure (wpAny_bind (wpAny_letGo ?_))))
  show wpAny _ _ (ite (((es.size : Nat) : Int) < 0) _ _) _ _ _
  rw [if_neg (by omega)]
  show wpAny _ _ (ite (((es.size : Nat) : Int) ≥ 2 ^ 63) _ _) _ _ _
  rw [if_neg (by omega)]
  exact wpAny_bind (wpAny_mkInt (wpAny_pure ⟨_, rfl, h⟩))
theorem call_lenN {P : Program} {w : World} : CallR X (.builtin "len") (fun xs H Q => ∃ d ks as, xs = [.ref d] ∧ H d = some (.ext (NDic P w d ks as)) ∧ ks.length < 1000 ∧ Q (.int (ks.length : Nat)) H) := by
  intro pins s σ H xs us Q I r h
  obtain ⟨d, ks, as, rfl, hH, hz, q⟩ := h
  obtain ⟨u, rfl, ru⟩ := Vals.one r
  cases ru
  obtain ⟨hN, _, _⟩ := (show ObjOk X.prog X.w H s.heap d (.ext (NDic P w d ks as)) from I.hok d _ hH)
  obtain ⟨lo, es, ep, m, hk, hl⟩ := hN.raw
  have e : es.size = ks.length := by
    have := congrArg List.length hk
    rw [List.length_map, List.length_map, Array.length_toList] at this
    omega
  rw [← e] at hz q
  exact raw_len lo m hz ⟨.int es.size, H, I.kept (fun b o e => e), ⟨_, rfl⟩, q⟩
theorem vals_refs : ∀ {as : List Addr}, Vals (as.map V.ref) (as.map Value.ref)
  | [] => .nil
  | _ :: _ => .cons rfl vals_refs
theorem call_listN {P : Program} {w : World} (hc : X.calm = true) : CallR X (.type "list") (fun xs H Q => ∃ d ks as, xs = [.ref d] ∧ H d = some (.ext (NDic P w d ks as)) ∧ ks.length < 1000 ∧ ∀ r, H r = none → Q (.ref r) (upd H r (.lst (as.map V.ref)))) := by
  intro pins s σ H xs us Q I r h
  obtain ⟨d, ks, as, rfl, hH, hz, q⟩ := h
  obtain ⟨u, rfl, ru⟩ := Vals.one r
  cases ru
  obtain ⟨hN, _, _⟩ := (show ObjOk X.prog X.w H s.heap d (.ext (NDic P w d ks as)) from I.hok d _ hH)
  obtain ⟨lo, es, ep, m, hk, hl⟩ := hN.raw
  have e : es.size = as.length := by
    have := congrArg List.length hk
    rw [List.length_map, List.length_map, Array.length_toList] at this
    exact this
  refine PySem.W.kdl_call (RD.src lo) (I.ok.hd hc) m (by rw [sizeLine_eq]; omega) fun h' tk acc c kp hS hacc => ?_
  have hn : H s.heap.objs.size = none := I.hok.fresh (Nat.le_refl _)
  have ea : acc.toList = as.map Value.ref := by
    rw [← hk]
    apply List.ext_getElem?
    intro j
    rw [List.getElem?_map, Array.getElem?_toList, Array.getElem?_toList]
    by_cases hj : j < es.size
    · have hj' : j < acc.size := by rw [hacc.1]; exact hj
      obtain ⟨_, ev⟩ := hacc.2 j acc[j] (Array.getElem?_eq_getElem hj')
      rw [Array.getElem?_eq_getElem hj', Array.getElem?_eq_getElem hj, ev]; rfl
    · rw [Array.getElem?_eq_none (by rw [hacc.1]; omega), Array.getElem?_eq_none (by omega)]; rfl
  refine ⟨.ref s.heap.objs.size, _, I.laid (t' := tk) (o := .lst (as.map V.ref)) (fun b o e => kp b o e) (Nat.le_refl _) ?_, rfl, q _ hn⟩
  refine ⟨by rw [List.length_map, sizeLine_eq]; omega, as.map Value.ref, c, vals_refs, ?_⟩
  rw [hS, ← ea]
end L2


set_option linter.all false
set_option maxRecDepth 100000
set_option maxHeartbeats 4000000
namespace U
open PySem PySem.Spec PyProof.Rows L2
inductive PV where
  | non | bl (b : Bool) | int (i : Int) | str (x : Str) | ref (a : Addr) | tup (l : List PV) | fls (l : List PV) | oth (v : V)
def FzL (K : PySem.W.Frag) (H : Hp) (a : Addr) (xs : List V) : Prop :=
  (∃ o, H a = some (.frz o (.lst xs))) ∨
    ∃ (o : Obj) (its : Array Value) (n : Nat), K.lookup a = some o ∧ o.cls = .type "list" ∧ o.dict = none ∧ o.data = .seq its n ∧ its.size ≤ sizeLine ∧ Vals xs its.toList
theorem FzL.sq {K : PySem.W.Frag} {H : Hp} {a : Addr} {xs : List V} (h : FzL K H a xs) : SqL K H a xs := by
  rcases h with h | h
  · exact .inl (.inr h)
  · exact .inr h
structure Kp (H H1 : Hp) : Prop where
  t : ∀ a us, H a = some (.tup us) → H1 a = some (.tup us)
  z : ∀ a o u, H a = some (.frz o u) → H1 a = some (.frz o u)
theorem Kp.sqT {K : PySem.W.Frag} {H H1 : Hp} (k : Kp H H1) {a : Addr} {us : List V} (h : SqT K H a us) : SqT K H1 a us := by
  rcases h with (h | ⟨o, h⟩) | h
  · exact .inl (.inl (k.t _ _ h))
  · exact .inl (.inr ⟨o, k.z _ _ _ h⟩)
  · exact .inr h
theorem Kp.fzL {K : PySem.W.Frag} {H H1 : Hp} (k : Kp H H1) {a : Addr} {us : List V} (h : FzL K H a us) : FzL K H1 a us := by
  rcases h with ⟨o, h⟩ | h
  · exact .inl ⟨o, k.z _ _ _ h⟩
  · exact .inr h
section
variable (K : PySem.W.Frag)
mutual
def RP (H : Hp) : PV → V → Prop
  | .non, v => v = .non
  | .bl b, v => v = .bl b
  | .int i, v => v = .int i
  | .str x, v => v = .str x
  | .ref a, v => v = .ref a
  | .oth w, v => v = w
  | .tup l, v => ∃ a us, v = .ref a ∧ SqT K H a us ∧ RPs H l us
  | .fls l, v => ∃ a us, v = .ref a ∧ FzL K H a us ∧ RPs H l us
def RPs (H : Hp) : List PV → List V → Prop
  | [], us => us = []
  | x :: l, us => ∃ u r, us = u :: r ∧ RP H x u ∧ RPs H l r
end
mutual
theorem RP.kp {H H1 : Hp} (k : Kp H H1) : ∀ {x : PV} {v : V}, RP K H x v → RP K H1 x v
  | .non, _, h => h
  | .bl _, _, h => h
  | .int _, _, h => h
  | .str _, _, h => h
  | .ref _, _, h => h
  | .oth _, _, h => h
  | .tup l, v, h => by
    simp only [RP] at h ⊢
    obtain ⟨a, us, e, q, r⟩ := h
    exact ⟨a, us, e, k.sqT q, RPs.kp k r⟩
  | .fls l, v, h => by
    simp only [RP] at h ⊢
    obtain ⟨a, us, e, q, r⟩ := h
    exact ⟨a, us, e, k.fzL q, RPs.kp k r⟩
theorem RPs.kp {H H1 : Hp} (k : Kp H H1) : ∀ {l : List PV} {us : List V}, RPs K H l us → RPs K H1 l us
  | [], _, h => h
  | x :: l, us, h => by
    simp only [RPs] at h ⊢
    obtain ⟨u, r, e, a, b⟩ := h
    exact ⟨u, r, e, RP.kp k a, RPs.kp k b⟩
end
theorem RPs.nil {H : Hp} : RPs K H [] [] := by simp [RPs]
theorem RPs.cons {H : Hp} {x : PV} {l : List PV} {u : V} {us : List V} (a : RP K H x u) (b : RPs K H l us) : RPs K H (x :: l) (u :: us) := by
  simp only [RPs]; exact ⟨u, us, rfl, a, b⟩
theorem RPs.length {H : Hp} : ∀ {l : List PV} {us : List V}, RPs K H l us → us.length = l.length
  | [], us, h => by simp only [RPs] at h; subst h; rfl
  | x :: l, us, h => by
    simp only [RPs] at h
    obtain ⟨u, r, rfl, _, b⟩ := h
    simp [RPs.length b]
theorem RPs.get {H : Hp} : ∀ {l : List PV} {us : List V} {i : Nat} {x : PV}, RPs K H l us → l[i]? = some x → ∃ u, us[i]? = some u ∧ RP K H x u
  | [], _, _, _, _, e => by simp at e
  | y :: l, us, i, x, h, e => by
    simp only [RPs] at h
    obtain ⟨u, r, rfl, a, b⟩ := h
    cases i with
    | zero => simp at e; subst e; exact ⟨u, by simp, a⟩
    | succ i => obtain ⟨w, e1, e2⟩ := RPs.get (i := i) (x := x) b (by simpa using e); exact ⟨w, by simpa using e1, e2⟩
theorem RPs.append {H : Hp} : ∀ {l m : List PV} {us ws : List V}, RPs K H l us → RPs K H m ws → RPs K H (l ++ m) (us ++ ws)
  | [], m, us, ws, h, g => by simp only [RPs] at h; subst h; simpa using g
  | x :: l, m, us, ws, h, g => by
    simp only [RPs] at h
    obtain ⟨u, r, rfl, a, b⟩ := h
    exact RPs.cons K a (RPs.append b g)
theorem RPs.take {H : Hp} : ∀ {l : List PV} {us : List V} (n : Nat), RPs K H l us → RPs K H (l.take n) (us.take n)
  | [], us, n, h => by simp only [RPs] at h; subst h; simp [RPs]
  | x :: l, us, 0, h => by simp [RPs]
  | x :: l, us, n + 1, h => by
    simp only [RPs] at h
    obtain ⟨u, r, rfl, a, b⟩ := h
    exact RPs.cons K a (RPs.take n b)
theorem RPs.dropLast {H : Hp} {l : List PV} {us : List V} (h : RPs K H l us) : RPs K H l.dropLast us.dropLast := by
  rw [List.dropLast_eq_take, List.dropLast_eq_take, RPs.length K h]
  exact RPs.take K _ h
theorem RPs.ints {H : Hp} : ∀ (ns : List Int), RPs K H (ns.map PV.int) (ns.map V.int)
  | [] => by simp [RPs]
  | n :: ns => RPs.cons K (by simp [RP]) (RPs.ints ns)
end
def ExcA (a C : Addr) (h : Heap) : Prop := ∃ o, h.get? a = some o ∧ o.cls = .ref C
inductive PO where
  | exc (C : Addr)
  | lst (l : List PV)
  | ins (C dx : Addr) (fs : List (Str × PV))
  | dK (kvs : List (Key × PV))
  | dT (kvs : List (List Key × PV))
  | dN (P : Program) (w : World) (ks : List NK.Nd)
abbrev PHp := Addr → Option PO
def put (H : PHp) (a : Addr) (o : PO) : PHp := fun b => if b = a then some o else H b
theorem put_same {H : PHp} {a : Addr} {o : PO} : put H a o a = some o := by unfold put; rw [if_pos rfl]
theorem put_ne {H : PHp} {a b : Addr} {o : PO} (h : b ≠ a) : put H a o b = H b := by unfold put; rw [if_neg h]
theorem put_put {H : PHp} {a : Addr} {o u : PO} : put (put H a o) a u = put H a u := by
  funext b; unfold put; split <;> rfl
theorem ne_none {H : PHp} {a b : Addr} {o : PO} (h : H a = some o) (h' : H b = none) : a ≠ b := by
  intro e; subst e; rw [h] at h'; cases h'
abbrev FRel (K : PySem.W.Frag) (H : Hp) {κ : Type} : List (κ × PV) → List (κ × V) → Prop := Paired fun p q => p.1 = q.1 ∧ RP K H p.2 q.2
def ndV (k : NK.Nd) : PV := .tup [.str k.1, .tup (k.2.1.map PV.int), .tup (k.2.2.map PV.int)]
def OAt (K : PySem.W.Frag) (H : Hp) (a : Addr) : PO → Prop
  | .exc C => H a = some (.ext (ExcA a C))
  | .lst l => ∃ us, H a = some (.lst us) ∧ RPs K H l us
  | .ins C dx fs => ∃ gs, H a = some (.ins C dx gs) ∧ FRel K H fs gs
  | .dK kvs => ∃ ws, H a = some (.dK ws) ∧ FRel K H kvs ws
  | .dT kvs => ∃ ws, H a = some (.dT ws) ∧ FRel K H kvs ws
  | .dN P w ks => ∃ as : List Addr, H a = some (.ext (NDic P w a ks as)) ∧ RPs K H (ks.map ndV) (as.map V.ref)
abbrev HR (K : PySem.W.Frag) (H' : PHp) (H : Hp) : Prop := ∀ a o, H' a = some o → OAt K H a o
abbrev St' := List (Option PV)
abbrev Bs := PHp × Hp
def Ev (H' : PHp) (H : Hp) (H1' : PHp) (H1 : Hp) : Prop := ∀ a o, H a = some o → H' a = none → H1 a = some o ∧ H1' a = none
structure SR (K : PySem.W.Frag) (B : Bs) (σ' : St') (H' : PHp) (σ : L2.St) (H : Hp) : Prop where
  len : σ'.length = σ.length
  loc : ∀ (i : Nat) (v' : PV), σ'[i]? = some (some v') → ∃ v, σ[i]? = some (some v) ∧ RP K H v' v
  hp : HR K H' H
  ev : Ev B.1 B.2 H' H
theorem Ev.refl (H' : PHp) (H : Hp) : Ev H' H H' H := fun _ _ h h' => ⟨h, h'⟩
theorem Ev.trans {H' : PHp} {H : Hp} {H1' : PHp} {H1 : Hp} {H2' : PHp} {H2 : Hp} (a : Ev H' H H1' H1) (b : Ev H1' H1 H2' H2) : Ev H' H H2' H2 := fun c o h h' => by
  obtain ⟨p, q⟩ := a c o h h'
  exact b c o p q
section
variable {K : PySem.W.Frag}
theorem FRel.kp {κ : Type} {H H1 : Hp} (k : Kp H H1) {fs : List (κ × PV)} {gs : List (κ × V)} (h : FRel K H fs gs) : FRel K H1 fs gs := Paired.mapP h fun _ _ ⟨a, b⟩ => ⟨a, RP.kp K k b⟩
theorem OAt.some {H : Hp} {a : Addr} : ∀ {o : PO}, OAt K H a o → ∃ u, H a = Option.some u ∧ (∀ us, u ≠ .tup us) ∧ (∀ o us, u ≠ .frz o us) ∧ (∀ x, u ≠ .own x)
  | .exc C, e => ⟨_, e, (fun _ => by nofun), (fun _ _ => by nofun), (fun _ => by nofun)⟩
  | .lst l, ⟨us, e, _⟩ => ⟨_, e, (fun _ => by nofun), (fun _ _ => by nofun), (fun _ => by nofun)⟩
  | .ins C dx fs, ⟨us, e, _⟩ => ⟨_, e, (fun _ => by nofun), (fun _ _ => by nofun), (fun _ => by nofun)⟩
  | .dK l, ⟨us, e, _⟩ => ⟨_, e, (fun _ => by nofun), (fun _ _ => by nofun), (fun _ => by nofun)⟩
  | .dT l, ⟨us, e, _⟩ => ⟨_, e, (fun _ => by nofun), (fun _ _ => by nofun), (fun _ => by nofun)⟩
  | .dN P w ks, ⟨us, e, _⟩ => ⟨_, e, (fun _ => by nofun), (fun _ _ => by nofun), (fun _ => by nofun)⟩
theorem OAt.keep {H H1 : Hp} {a : Addr} (k : Kp H H1) (e : H1 a = H a) : ∀ {o : PO}, OAt K H a o → OAt K H1 a o
  | .exc C, h => e.trans h
  | .lst l, ⟨us, h, r⟩ => ⟨us, e.trans h, RPs.kp K k r⟩
  | .ins C dx fs, ⟨us, h, r⟩ => ⟨us, e.trans h, FRel.kp k r⟩
  | .dK l, ⟨us, h, r⟩ => ⟨us, e.trans h, FRel.kp k r⟩
  | .dT l, ⟨us, h, r⟩ => ⟨us, e.trans h, FRel.kp k r⟩
  | .dN P w ks, ⟨as, h, r⟩ => ⟨as, e.trans h, RPs.kp K k r⟩
theorem HR.tup {H' : PHp} {H : Hp} (h : HR K H' H) {a : Addr} {us : List V} (e : H a = some (.tup us)) : H' a = none := by
  cases q : H' a with
  | none => rfl
  | some o => obtain ⟨u, e1, n, _⟩ := (h a o q).some; rw [e] at e1; exact absurd (Option.some.inj e1).symm (n us)
theorem HR.frz {H' : PHp} {H : Hp} (h : HR K H' H) {a : Addr} {o : Obj} {u : HO} (e : H a = some (.frz o u)) : H' a = none := by
  cases q : H' a with
  | none => rfl
  | some o' => obtain ⟨u', e1, _, n, _⟩ := (h a o' q).some; rw [e] at e1; exact absurd (Option.some.inj e1).symm (n o u)
theorem HR.free {H' : PHp} {H : Hp} (h : HR K H' H) {a : Addr} (e : H a = none) : H' a = none := by
  cases q : H' a with
  | none => rfl
  | some o => obtain ⟨u, e1, _⟩ := (h a o q).some; rw [e] at e1; cases e1
theorem Ev.kp {H' : PHp} {H : Hp} {H1' : PHp} {H1 : Hp} (e : Ev H' H H1' H1) (h : HR K H' H) : Kp H H1 :=
  ⟨fun a us q => (e a _ q (h.tup q)).1, fun a o u q => (e a _ q (h.frz q)).1⟩
theorem kp_fresh {H : Hp} {p : Addr} {o : HO} (e : H p = none) : Kp H (upd H p o) :=
  ⟨fun a us q => by rw [upd_ne (ne_of_none q e)]; exact q, fun a o u q => by rw [upd_ne (ne_of_none q e)]; exact q⟩
theorem kp_write {H : Hp} {p : Addr} {o u : HO} (e : H p = some u) (n1 : ∀ us, u ≠ .tup us) (n2 : ∀ o us, u ≠ .frz o us) : Kp H (upd H p o) :=
  ⟨fun a us q => by rw [upd_ne (ne_of q e fun z => n1 us z.symm)]; exact q, fun a o' u' q => by rw [upd_ne (ne_of q e fun z => n2 o' u' z.symm)]; exact q⟩
theorem SR.kp {B : Bs} {σ' : St'} {H' H1' : PHp} {σ : L2.St} {H H1 : Hp} (s : SR K B σ' H' σ H) (e : Ev H' H H1' H1) (h : HR K H1' H1) : SR K B σ' H1' σ H1 :=
  ⟨s.len, fun i v' q => by obtain ⟨v, a, b⟩ := s.loc i v' q; exact ⟨v, a, RP.kp K (e.kp s.hp) b⟩, h, s.ev.trans e⟩
theorem HR.hid {H' : PHp} {H : Hp} {p : Addr} {o : HO} (h : HR K H' H) (e : H p = none) : HR K H' (upd H p o) := fun a u q => by
  have na : a ≠ p := by rintro rfl; rw [h.free e] at q; cases q
  exact (h a u q).keep (kp_fresh e) (upd_ne na)
theorem Ev.hid {H' : PHp} {H : Hp} {p : Addr} {o : HO} (e : H p = none) : Ev H' H H' (upd H p o) := fun a u q n => ⟨by rw [upd_ne (ne_of_none q e)]; exact q, n⟩
theorem HR.new {H' : PHp} {H : Hp} {p : Addr} {o : HO} {o' : PO} (h : HR K H' H) (e : H p = none) (new : OAt K (upd H p o) p o') : HR K (put H' p o') (upd H p o) := fun a u q => by
  by_cases hp : a = p
  · subst hp; rw [put_same] at q; cases q; exact new
  · rw [put_ne hp] at q; exact (h a u q).keep (kp_fresh e) (upd_ne hp)
theorem Ev.new {H' : PHp} {H : Hp} {p : Addr} {o : HO} {o' : PO} (e : H p = none) : Ev H' H (put H' p o') (upd H p o) := fun a u q n => by
  have na := ne_of_none q e
  exact ⟨by rw [upd_ne na]; exact q, by rw [put_ne na]; exact n⟩
theorem HR.wr {H' : PHp} {H : Hp} {p : Addr} {o : HO} {o' u' : PO} (h : HR K H' H) (e : H' p = some u') (new : OAt K (upd H p o) p o') : HR K (put H' p o') (upd H p o) := fun a u q => by
  obtain ⟨v, e1, n1, n2, _⟩ := (h p u' e).some
  by_cases hp : a = p
  · subst hp; rw [put_same] at q; cases q; exact new
  · rw [put_ne hp] at q; exact (h a u q).keep (kp_write e1 n1 n2) (upd_ne hp)
theorem HR.kpw {H' : PHp} {H : Hp} {p : Addr} {o : HO} {u' : PO} (h : HR K H' H) (e : H' p = some u') : Kp H (upd H p o) := by
  obtain ⟨v, e1, n1, n2, _⟩ := (h p u' e).some
  exact kp_write e1 n1 n2
theorem Ev.wr {H' : PHp} {H : Hp} {p : Addr} {o : HO} {o' u' : PO} (e : H' p = some u') : Ev H' H (put H' p o') (upd H p o) := fun a u q n => by
  have na : a ≠ p := by rintro rfl; rw [e] at n; cases n
  exact ⟨by rw [upd_ne na]; exact q, by rw [put_ne na]; exact n⟩
def Sub (A B : PHp) : Prop := ∀ a o, A a = some o → B a = some o
theorem Sub.refl (A : PHp) : Sub A A := fun _ _ h => h
theorem Sub.put {A B : PHp} {p : Addr} {o : PO} (a : Sub A B) (n : A p = none) : Sub A (put B p o) := fun c u h => by rw [put_ne (ne_none h n)]; exact a c u h
theorem Sub.free {A B : PHp} (a : Sub A B) {p : Addr} (n : B p = none) : A p = none := by
  cases q : A p with
  | none => rfl
  | some o => rw [a p o q] at n; cases n
theorem HR.sub {A B : PHp} {H : Hp} (h : HR K B H) (s : Sub A B) : HR K A H := fun a o e => h a o (s a o e)
theorem Ev.sub {H' : PHp} {H : Hp} {A B : PHp} {H1 : Hp} (e : Ev H' H B H1) (s : Sub A B) : Ev H' H A H1 := fun a o q n => by
  obtain ⟨x, y⟩ := e a o q n
  exact ⟨x, s.free y⟩
end
end U


set_option linter.all false
set_option maxRecDepth 100000
set_option maxHeartbeats 4000000
namespace U
open PySem PySem.Spec PyProof.Rows L2
variable {B : Bs}
abbrev VK' := PV → PHp → Prop
abbrev TE' := St' → PHp → VK' → Prop
abbrev TT' := St' → PHp → (Bool → PHp → Prop) → Prop
abbrev TA' := St' → PHp → (List PV → PHp → Prop) → Prop
abbrev XK' := Value → Option Addr → PHp → Prop
structure Ends' where
  nx : St' → PHp → Prop
  rt : VK'
  bk : St' → PHp → Prop := fun _ _ => False
  ct : St' → PHp → Prop := fun _ _ => False
abbrev TS' := Ends' → St' → PHp → Prop
abbrev TG' := PV → St' → PHp → (St' → PHp → Prop) → Prop
abbrev TGs' := List PV → St' → PHp → (St' → PHp → Prop) → Prop
structure It' where
  items : List PV
  ok : PHp → Prop
abbrev TI' := St' → PHp → (It' → PHp → Prop) → Prop
section
variable (K : PySem.W.Frag) (B : Bs)
def low (t : TE') : TE := fun σ H Q => ∃ σ' H' Q', SR K B σ' H' σ H ∧ t σ' H' Q' ∧ ∀ v' H1' v H1, Q' v' H1' → RP K H1 v' v → SR K B σ' H1' σ H1 → Ev H' H H1' H1 → Q v H1
def lowT (t : TT') : TT := fun σ H Q => ∃ σ' H' Q', SR K B σ' H' σ H ∧ t σ' H' Q' ∧ ∀ b H1' H1, Q' b H1' → SR K B σ' H1' σ H1 → Ev H' H H1' H1 → Q b H1
def lowA (t : TA') : TA := fun σ H Q => ∃ σ' H' Q', SR K B σ' H' σ H ∧ t σ' H' Q' ∧ ∀ vs' H1' vs H1, Q' vs' H1' → RPs K H1 vs' vs → SR K B σ' H1' σ H1 → Ev H' H H1' H1 → Q vs H1
structure DR (D' : Ends') (D : Ends) (H' : PHp) (H : Hp) : Prop where
  nx : ∀ σ1' H1' σ1 H1, D'.nx σ1' H1' → SR K B σ1' H1' σ1 H1 → Ev H' H H1' H1 → D.nx σ1 H1
  rt : ∀ v' H1' v H1, D'.rt v' H1' → RP K H1 v' v → HR K H1' H1 → Ev H' H H1' H1 → D.rt v H1
  bk : ∀ σ1' H1' σ1 H1, D'.bk σ1' H1' → SR K B σ1' H1' σ1 H1 → Ev H' H H1' H1 → D.bk σ1 H1
  ct : ∀ σ1' H1' σ1 H1, D'.ct σ1' H1' → SR K B σ1' H1' σ1 H1 → Ev H' H H1' H1 → D.ct σ1 H1
theorem DR.ev {D' : Ends'} {D : Ends} {H' : PHp} {H : Hp} {H1' : PHp} {H1 : Hp} (d : DR K B D' D H' H) (e : Ev H' H H1' H1) : DR K B D' D H1' H1 :=
  ⟨fun a b c f p q r => d.nx a b c f p q (e.trans r), fun a b c f p q r s => d.rt a b c f p q r (e.trans s), fun a b c f p q r => d.bk a b c f p q (e.trans r), fun a b c f p q r => d.ct a b c f p q (e.trans r)⟩
def lowS (t : TS') : TS := fun D σ H => ∃ σ' H' D', SR K B σ' H' σ H ∧ t D' σ' H' ∧ DR K B D' D H' H
def lowG (t : TG') : TG := fun v σ H Q => ∃ v' σ' H' Q', RP K H v' v ∧ SR K B σ' H' σ H ∧ t v' σ' H' Q' ∧ ∀ σ1' H1' σ1 H1, Q' σ1' H1' → SR K B σ1' H1' σ1 H1 → Ev H' H H1' H1 → Q σ1 H1
structure Walks (H1 : Hp) (J : It) (J' : It') : Prop where
  go : ∀ H' H i, Kp H1 H → HR K H' H → J'.ok H' → i < J'.items.length → J.go i H
  yld : ∀ H' H i x H2, Kp H1 H → HR K H' H → J'.ok H' → J.yld i H x H2 → H2 = H ∧ ∀ x', J'.items[i]? = some x' → RP K H x' x
  stop : ∀ H' H i, Kp H1 H → HR K H' H → J'.ok H' → J'.items.length ≤ i → J.stop i H
def lowI (t : TI') : TI := fun σ H R => ∃ σ' H' R', SR K B σ' H' σ H ∧ t σ' H' R' ∧ ∀ J' H1' J H1, R' J' H1' → Walks K H1 J J' → SR K B σ' H1' σ H1 → Ev H' H H1' H1 → R J H1
end
section
variable {X : Cx}
theorem pe_imp {e : Expr} {t1 t2 : TE} (h : PE X e t2) (i : ∀ σ H Q, t1 σ H Q → t2 σ H Q) : PE X e t1 := fun pins s σ H Q I q => h pins s σ H Q I (i σ H Q q)
theorem pt_imp {e : Expr} {t1 t2 : TT} (h : PT X e t2) (i : ∀ σ H Q, t1 σ H Q → t2 σ H Q) : PT X e t1 := fun pins s σ H Q I q => h pins s σ H Q I (i σ H Q q)
theorem pw_imp {e : Expr} {t1 t2 : TT} (h : PW X e t2) (i : ∀ σ H Q, t1 σ H Q → t2 σ H Q) : PW X e t1 := fun w pins s σ H Q I q => h w pins s σ H Q I (i σ H Q q)
theorem pa_imp {e : List Expr} {t1 t2 : TA} (h : PA X e t2) (i : ∀ σ H Q, t1 σ H Q → t2 σ H Q) : PA X e t1 := fun p pins s σ H Q I q => h p pins s σ H Q I (i σ H Q q)
theorem ps_imp {e : Stmt} {t1 t2 : TS} (h : PS X e t2) (i : ∀ D σ H, t1 D σ H → t2 D σ H) : PS X e t1 := fun pins s σ H D I q => h pins s σ H D I (i D σ H q)
theorem pss_imp {e : List Stmt} {t1 t2 : TS} (h : PSs X e t2) (i : ∀ D σ H, t1 D σ H → t2 D σ H) : PSs X e t1 := fun pins s σ H D I q => h pins s σ H D I (i D σ H q)
theorem pg_imp {e : Expr} {t1 t2 : TG} (h : PG X e t2) (i : ∀ v σ H Q, t1 v σ H Q → t2 v σ H Q) : PG X e t1 := fun pins s σ H v u Q I r q => h pins s σ H v u Q I r (i v σ H Q q)
theorem pi_imp {tg e : Expr} {t1 t2 : TI} (h : PI X tg e t2) (i : ∀ σ H Q, t1 σ H Q → t2 σ H Q) : PI X tg e t1 := fun pins s σ H Q I q => h pins s σ H Q I (i σ H Q q)
abbrev PE' (X : Cx) (B : Bs) (e : Expr) (t : TE') : Prop := PE X e (low X.K B t)
abbrev PT' (X : Cx) (B : Bs) (e : Expr) (t : TT') : Prop := PT X e (lowT X.K B t)
abbrev PW' (X : Cx) (B : Bs) (e : Expr) (t : TT') : Prop := PW X e (lowT X.K B t)
abbrev PA' (X : Cx) (B : Bs) (e : List Expr) (t : TA') : Prop := PA X e (lowA X.K B t)
abbrev PS' (X : Cx) (B : Bs) (e : Stmt) (t : TS') : Prop := PS X e (lowS X.K B t)
abbrev PSs' (X : Cx) (B : Bs) (e : List Stmt) (t : TS') : Prop := PSs X e (lowS X.K B t)
abbrev PG' (X : Cx) (B : Bs) (e : Expr) (t : TG') : Prop := PG X e (lowG X.K B t)
abbrev PI' (X : Cx) (B : Bs) (tg e : Expr) (t : TI') : Prop := PI X tg e (lowI X.K B t)
def withV (o : Option (Option PV)) (k : PV → Prop) : Prop := match o with
  | some (some v) => k v
  | _ => False
theorem withV.ex {o : Option (Option PV)} {k : PV → Prop} (h : withV o k) : ∃ v, o = some (some v) ∧ k v := by
  unfold withV at h; split at h
  · exact ⟨_, rfl, h⟩
  · exact h.elim
def uVar (i : Nat) : TE' := fun σ H Q => withV σ[i]? fun v => Q v H
def uC (v : PV) : TE' := fun _ H Q => Q v H
theorem qv (i : Nat) {x : Str} {pos : Pos} (hN : X.N[i]? = some x := by rfl) (hv : Vis X.env.scope x := by first | exact Or.inl rfl | exact Or.inr (Or.inl rfl) | exact Or.inr (Or.inr rfl)) (hd : (x == ("__debug__" : Str)) = false := by decide)
    (hcd : (x == ("__classdict__" : Str)) = false := by decide) : PE' X B (.Name x pos) (uVar i) := pe_imp (pv i hN hv hd hcd) fun σ H Q ⟨σ', H', Q', s, h, k⟩ => by
  obtain ⟨v', e, q⟩ := h.ex
  obtain ⟨v, a, b⟩ := s.loc i v' e
  exact ⟨v, a, k v' H' v H q b s (Ev.refl _ _)⟩
theorem lowC {K : PySem.W.Frag} {v' : PV} {v : V} (r : ∀ H, RP K H v' v) {σ : L2.St} {H : Hp} {Q : VK} (h : low K B (uC v') σ H Q) : tC v σ H Q := by
  obtain ⟨σ', H', Q', s, h, k⟩ := h
  exact k v' H' v H h (r H) s (Ev.refl _ _)
theorem qe_int {i j pos} : PE' X B (.Constant (.int i) j pos) (uC (.int i)) := pe_imp pe_int fun _ _ _ h => lowC (fun _ => by simp [RP]) h
theorem qe_bl {i j pos} : PE' X B (.Constant (.bool i) j pos) (uC (.bl i)) := pe_imp pe_bl fun _ _ _ h => lowC (fun _ => by simp [RP]) h
theorem qe_str {i j pos} : PE' X B (.Constant (.str i) j pos) (uC (.str i)) := pe_imp pe_str fun _ _ _ h => lowC (fun _ => by simp [RP]) h
abbrev R2' := PV → PV → PHp → VK' → Prop
def VR (K : PySem.W.Frag) (B : Bs) (r' : R2') (r : R2) : Prop := ∀ (σ' : St') (σ : L2.St) (H' : PHp) (H : Hp) x' y' x y (Q' : VK') (Q : VK), SR K B σ' H' σ H → RP K H x' x → RP K H y' y → r' x' y' H' Q' →
  (∀ v' H1' v H1, Q' v' H1' → RP K H1 v' v → SR K B σ' H1' σ H1 → Ev H' H H1' H1 → Q v H1) → r x y H Q
def uOp (r : R2') (ta tb : TE') : TE' := fun σ H Q => ta σ H fun x H1 => tb σ H1 fun y H2 => r x y H2 Q
theorem low_op {K : PySem.W.Frag} {r' : R2'} {r : R2} {ta tb : TE'} (v : VR K B r' r) {σ : L2.St} {H : Hp} {Q : VK} (h : low K B (uOp r' ta tb) σ H Q) : tOp r (low K B ta) (low K B tb) σ H Q := by
  obtain ⟨σ', H', Q', s, h, k⟩ := h
  refine ⟨σ', H', _, s, h, fun x' H1' x H1 h1 rx s1 e1 => ⟨σ', H1', _, s1, h1, fun y' H2' y H2 h2 ry s2 e2 => ?_⟩⟩
  exact v σ' σ H2' H2 x' y' x y Q' Q s2 (RP.kp K (e2.kp s1.hp) rx) ry h2 fun v' H3' v H3 q rv s3 e3 => k v' H3' v H3 q rv s3 (e1.trans (e2.trans e3))
variable {a b c : Expr} {ta tb tc : TE'} {pos : Pos}
theorem qe_op {op : Operator} {r' : R2'} {r : R2} (ho : OpR X (binaryOp op) r) (v : VR X.K B r' r) (ha : PE' X B a ta) (hb : PE' X B b tb) : PE' X B (.BinOp a op b pos) (uOp r' ta tb) := pe_imp (pe_op ho ha hb) fun _ _ _ h => low_op v h
theorem qe_cmp {op : CmpOp} {r' : R2'} {r : R2} (ho : OpR X (compareOp op) r) (v : VR X.K B r' r) (ha : PE' X B a ta) (hb : PE' X B b tb) (hm : behindInMarks op b = false) : PE' X B (.Compare a [op] [b] pos) (uOp r' ta tb) :=
  pe_imp (pe_cmpR ho ha hb hm) fun _ _ _ h => low_op v h
def cif (b : Bool) (A B : Prop) : Prop := match b with
  | true => A
  | false => B
theorem cif_t {A B : Prop} : cif true A B = A := rfl
theorem cif_f {A B : Prop} : cif false A B = B := rfl
theorem cif_by {b : Bool} {A B : Prop} (h1 : b = true → A) (h2 : b = false → B) : cif b A B := by
  cases b
  · exact h2 rfl
  · exact h1 rfl
theorem cif_pos {b : Bool} {A B : Prop} (h : b = true) (h1 : A) : cif b A B := by subst h; exact h1
theorem cif_neg {b : Bool} {A B : Prop} (h : b = false) (h1 : B) : cif b A B := by subst h; exact h1
def withB (x : PV) (k : Bool → Prop) : Prop := match x with
  | .bl b => k b
  | _ => False
theorem withB.ex {x : PV} {k : Bool → Prop} (h : withB x k) : ∃ v, x = .bl v ∧ k v := by
  unfold withB at h; split at h
  · exact ⟨_, rfl, h⟩
  · exact h.elim
def withI (x : PV) (k : Int → Prop) : Prop := match x with
  | .int i => k i
  | _ => False
theorem withI.ex {x : PV} {k : Int → Prop} (h : withI x k) : ∃ v, x = .int v ∧ k v := by
  unfold withI at h; split at h
  · exact ⟨_, rfl, h⟩
  · exact h.elim
def uTest (t : TE') : TT' := fun σ H Q => t σ H fun x H1 => withB x fun b => Q b H1
theorem low_test {K : PySem.W.Frag} {t : TE'} {σ : L2.St} {H : Hp} {Q : Bool → Hp → Prop} (h : lowT K B (uTest t) σ H Q) : tTest (low K B t) σ H Q := by
  obtain ⟨σ', H', Q', s, h, k⟩ := h
  refine ⟨σ', H', _, s, h, fun x' H1' x H1 h1 rx s1 e1 => ?_⟩
  obtain ⟨b, rfl, q⟩ := h1.ex
  simp only [RP] at rx
  exact ⟨b, rx, k b H1' H1 q s1 e1⟩
theorem qt_val {e : Expr} {t : TE'} (h : PE' X B e t) (he : ∀ whole, isTrue e X.env whole = (do let v ← whole; standAt e.pos; holding [v] (truthy v)) := by intro _; rfl) : PT' X B e (uTest t) := pt_imp (pt_val h he) fun _ _ _ h => low_test h
theorem qt_cmp {op : CmpOp} {r' : R2'} {r : R2} (ho : OpR X (compareOp op) r) (v : VR X.K B r' r) (ha : PE' X B a ta) (hb : PE' X B b tb) (hm : behindInMarks op b = false) : PT' X B (.Compare a [op] [b] pos) (uTest (uOp r' ta tb)) :=
  pt_imp (pt_cmpR ho ha hb hm) fun _ _ _ h => by
    obtain ⟨σ', H', Q', s, h, k⟩ := low_test h
    exact low_op v ⟨σ', H', Q', s, h, k⟩
def uChain (r r' : R2') (ta tb tc : TE') : TE' := fun σ H Q => ta σ H fun x H1 => tb σ H1 fun y H2 => r x y H2 fun z H3 => withB z fun k => cif k (tc σ H3 fun w' H4 => r' y w' H4 Q) (Q (.bl false) H3)
def uI (C : Int → Int → Prop) (g : Int → Int → PV) : R2' := fun x y H Q => withI x fun i => withI y fun j => C i j ∧ Q (g i j) H
def uI0 (g : Int → Int → PV) : R2' := fun x y H Q => withI x fun i => withI y fun j => Q (g i j) H
theorem vr_I {K : PySem.W.Frag} {C : Int → Int → Prop} {g' : Int → Int → PV} {g : Int → Int → V} (r : ∀ i j H, RP K H (g' i j) (g i j)) : VR K B (uI C g') (rI C g) := by
  intro σ' σ H' H x' y' x y Q' Q s rx ry h k
  obtain ⟨i, rfl, h1⟩ := withI.ex h
  obtain ⟨j, rfl, hc, h⟩ := withI.ex h1
  simp only [RP] at rx ry
  exact ⟨i, j, rx, ry, hc, k _ H' _ H h (r i j H) s (Ev.refl _ _)⟩
theorem vr_I0 {K : PySem.W.Frag} {g' : Int → Int → PV} {g : Int → Int → V} (r : ∀ i j H, RP K H (g' i j) (g i j)) : VR K B (uI0 g') (rI0 g) := by
  intro σ' σ H' H x' y' x y Q' Q s rx ry h k
  obtain ⟨i, rfl, h1⟩ := withI.ex h
  obtain ⟨j, rfl, h⟩ := withI.ex h1
  simp only [RP] at rx ry
  exact ⟨i, j, rx, ry, k _ H' _ H h (r i j H) s (Ev.refl _ _)⟩
abbrev uAdd : R2' := uI0 fun i j => .int (i + j)
abbrev uSub : R2' := uI0 fun i j => .int (i - j)
abbrev uLt : R2' := uI0 fun i j => .bl (decide (i < j))
abbrev uGt : R2' := uI0 fun i j => .bl (decide (j < i))
abbrev uGe : R2' := uI0 fun i j => .bl (decide (j ≤ i))
def Fit (i : Int) : Prop := i.natAbs.log2 < 9000
def CMulN (i j : Int) : Prop := CMul i j ∨ (Fit i ∧ Fit j)
def CDivB (i j : Int) : Prop := j ≠ 0 ∧ Fit j
theorem CMulN.ok {i j : Int} (h : CMulN i j) : IntMulOk i j := by
  rcases h with h | ⟨h1, h2⟩
  · exact h.ok
  · unfold IntMulOk
    have e : ∀ x : Int, Fit x → Builtin.Int.intBits x ≤ 9000 := fun x hx => by
      unfold Builtin.Int.intBits Fit at *
      split <;> omega
    have e1 := e i h1
    have e2 := e j h2
    have e3 : Builtin.Int.intTooBig (Builtin.Int.intBits i + Builtin.Int.intBits j) = false := by
      unfold Builtin.Int.intTooBig
      refine decide_eq_false ?_
      show ¬ (bitsLine : Int) < _
      have hb : (18000 : Nat) ≤ bitsLine := by decide +kernel
      omega
    rw [e3]
    simp
abbrev uMul : R2' := uI CMulN fun i j => .int (i * j)
abbrev uFdiv : R2' := uI CDivB fun i j => .int (i.fdiv j)
theorem op_mulB {X : Cx} : OpR X (binaryOp .Mult) (rI CMulN fun i j => .int (i * j)) := opI fun _ _ _ _ _ _ _ hc q => mul_int q hc.ok
theorem op_fdivB {X : Cx} : OpR X (binaryOp .FloorDiv) (rI CDivB fun i j => .int (i.fdiv j)) := opI fun _ _ _ _ _ _ _ hc q => floordiv_int hc.1 q (.inl (PyProof.noPylong_of_log2 hc.2))
abbrev uMod : R2' := uI (fun _ j => j ≠ 0) fun i j => .int (i.fmod j)
abbrev uPow : R2' := uI CPow fun i j => .int (i ^ j.toNat)
theorem qe_add (ha : PE' X B a ta) (hb : PE' X B b tb) : PE' X B (.BinOp a .Add b pos) (uOp uAdd ta tb) := qe_op op_add (vr_I0 fun _ _ _ => by simp [RP]) ha hb
theorem qe_sub (ha : PE' X B a ta) (hb : PE' X B b tb) : PE' X B (.BinOp a .Sub b pos) (uOp uSub ta tb) := qe_op op_sub (vr_I0 fun _ _ _ => by simp [RP]) ha hb
theorem qe_mul (ha : PE' X B a ta) (hb : PE' X B b tb) : PE' X B (.BinOp a .Mult b pos) (uOp uMul ta tb) := qe_op op_mulB (vr_I fun _ _ _ => by simp [RP]) ha hb
theorem qe_fdiv (ha : PE' X B a ta) (hb : PE' X B b tb) : PE' X B (.BinOp a .FloorDiv b pos) (uOp uFdiv ta tb) := qe_op op_fdivB (vr_I fun _ _ _ => by simp [RP]) ha hb
theorem qe_mod (ha : PE' X B a ta) (hb : PE' X B b tb) : PE' X B (.BinOp a .Mod b pos) (uOp uMod ta tb) := qe_op op_modN (vr_I fun _ _ _ => by simp [RP]) ha hb
theorem qe_pow (ha : PE' X B a ta) (hb : PE' X B b tb) : PE' X B (.BinOp a .Pow b pos) (uOp uPow ta tb) := qe_op op_pow (vr_I fun _ _ _ => by simp [RP]) ha hb
theorem vr_lt {K : PySem.W.Frag} : VR K B uLt (rI0 fun i j => .bl (decide (i < j))) := vr_I0 fun _ _ _ => by simp [RP]
theorem vr_gt {K : PySem.W.Frag} : VR K B uGt (rI0 fun i j => .bl (decide (j < i))) := vr_I0 fun _ _ _ => by simp [RP]
theorem vr_ge {K : PySem.W.Frag} : VR K B uGe (rI0 fun i j => .bl (decide (j ≤ i))) := vr_I0 fun _ _ _ => by simp [RP]
end
end U


set_option linter.all false
set_option maxRecDepth 100000
set_option maxHeartbeats 4000000
namespace U
open PySem PySem.Spec PyProof.Rows L2
variable {B : Bs}
section
variable {X : Cx} {a b c e o : Expr} {es rest : List Expr} {ta tb tc : TE'} {tA tB : TT'} {t : TA'} {pos : Pos}
def uAnd (t u : TT') : TT' := fun σ H Q => t σ H fun c H1 => cif c (u σ H1 Q) (Q false H1)
def uOr (t u : TT') : TT' := fun σ H Q => t σ H fun c H1 => cif c (Q true H1) (u σ H1 Q)
def uNot (t : TT') : TT' := fun σ H Q => t σ H fun c H1 => Q (!c) H1
theorem qw_and1 (ha : PT' X B a tA) : PW' X B (.BoolOp .And [a] pos) tA := pw_and1 ha
theorem qw_or1 (ha : PT' X B a tA) : PW' X B (.BoolOp .Or [a] pos) tA := pw_or1 ha
theorem qw_and (ha : PT' X B a tA) (hb : PW' X B (.BoolOp .And (b :: rest) pos) tB) : PW' X B (.BoolOp .And (a :: b :: rest) pos) (uAnd tA tB) := pw_imp (pw_and ha hb) fun σ H Q ⟨σ', H', Q', s, h, k⟩ => by
  refine ⟨σ', H', _, s, h, fun x H1' H1 h1 s1 e1 => ?_⟩
  cases x with
  | true => exact iteT ⟨σ', H1', _, s1, h1, fun y H2' H2 h2 s2 e2 => k y H2' H2 h2 s2 (e1.trans e2)⟩
  | false => exact iteF (k false H1' H1 h1 s1 e1)
theorem qw_or (ha : PT' X B a tA) (hb : PW' X B (.BoolOp .Or (b :: rest) pos) tB) : PW' X B (.BoolOp .Or (a :: b :: rest) pos) (uOr tA tB) := pw_imp (pw_or ha hb) fun σ H Q ⟨σ', H', Q', s, h, k⟩ => by
  refine ⟨σ', H', _, s, h, fun x H1' H1 h1 s1 e1 => ?_⟩
  cases x with
  | false => exact iteF ⟨σ', H1', _, s1, h1, fun y H2' H2 h2 s2 e2 => k y H2' H2 h2 s2 (e1.trans e2)⟩
  | true => exact iteT (k true H1' H1 h1 s1 e1)
theorem qt_bool (h : PW' X B e tA) : PT' X B e tA := PW.pt h
theorem qt_not (ha : PT' X B a tA) : PT' X B (.UnaryOp .Not a pos) (uNot tA) := pt_imp (pt_not ha) fun σ H Q ⟨σ', H', Q', s, h, k⟩ => ⟨σ', H', _, s, h, fun x H1' H1 h1 s1 e1 => k _ H1' H1 h1 s1 e1⟩
def uAndV (ta tb : TE') : TE' := fun σ H Q => ta σ H fun x H1 => withB x fun c => cif c (tb σ H1 Q) (Q (.bl false) H1)
def uOrV (ta tb : TE') : TE' := fun σ H Q => ta σ H fun x H1 => withB x fun c => cif c (Q (.bl true) H1) (tb σ H1 Q)
def uNotV (ta : TE') : TE' := fun σ H Q => ta σ H fun x H1 => withB x fun c => Q (.bl (!c)) H1
theorem qe_one {op} (h : PE' X B a ta) : PE' X B (.BoolOp op [a] pos) ta := pe_one h
theorem qe_and (ha : PE' X B a ta) (hb : PE' X B (.BoolOp .And (b :: rest) pos) tb) : PE' X B (.BoolOp .And (a :: b :: rest) pos) (uAndV ta tb) := pe_imp (pe_and ha hb) fun σ H Q ⟨σ', H', Q', s, h, k⟩ => by
  refine ⟨σ', H', _, s, h, fun x H1' v H1 h1 r1 s1 e1 => ?_⟩
  obtain ⟨y, rfl, h1⟩ := h1.ex
  simp only [RP] at r1
  refine ⟨y, r1, ?_⟩
  cases y with
  | true => exact iteT ⟨σ', H1', _, s1, h1, fun y H2' v2 H2 h2 r2 s2 e2 => k y H2' v2 H2 h2 r2 s2 (e1.trans e2)⟩
  | false => exact iteF (k _ H1' _ H1 h1 (by simp [RP]) s1 e1)
theorem qe_not (ha : PE' X B a ta) : PE' X B (.UnaryOp .Not a pos) (uNotV ta) := pe_imp (pe_not ha) fun σ H Q ⟨σ', H', Q', s, h, k⟩ => by
  refine ⟨σ', H', _, s, h, fun x H1' v H1 h1 r1 s1 e1 => ?_⟩
  obtain ⟨y, rfl, h1⟩ := h1.ex
  simp only [RP] at r1
  exact ⟨y, r1, k _ H1' _ H1 h1 (by simp [RP]) s1 e1⟩
def uIf (t : TT') (ta tb : TE') : TE' := fun σ H Q => t σ H fun c H1 => cif c (ta σ H1 Q) (tb σ H1 Q)
theorem qe_ifExp (hc : PT' X B c tA) (ha : PE' X B a ta) (hb : PE' X B b tb) : PE' X B (.IfExp c a b pos) (uIf tA ta tb) := pe_imp (pe_ifExp hc ha hb) fun σ H Q ⟨σ', H', Q', s, h, k⟩ => by
  refine ⟨σ', H', _, s, h, fun x H1' H1 h1 s1 e1 => ?_⟩
  cases x with
  | true => exact iteT ⟨σ', H1', _, s1, h1, fun y H2' v2 H2 h2 r2 s2 e2 => k y H2' v2 H2 h2 r2 s2 (e1.trans e2)⟩
  | false => exact iteF ⟨σ', H1', _, s1, h1, fun y H2' v2 H2 h2 r2 s2 e2 => k y H2' v2 H2 h2 r2 s2 (e1.trans e2)⟩
def uUn (r : PV → PHp → VK' → Prop) (ta : TE') : TE' := fun σ H Q => ta σ H fun x H1 => r x H1 Q
theorem qe_neg (ha : PE' X B a ta) : PE' X B (.UnaryOp .USub a pos) (uUn (fun x H Q => withI x fun i => Q (.int (-i)) H) ta) := pe_imp (pe_un un_neg ha) fun σ H Q ⟨σ', H', Q', s, h, k⟩ => by
  refine ⟨σ', H', _, s, h, fun x H1' v H1 h1 r1 s1 e1 => ?_⟩
  obtain ⟨i, rfl, h1⟩ := withI.ex h1
  simp only [RP] at r1
  exact ⟨i, r1, k _ H1' _ H1 h1 (by simp [RP]) s1 e1⟩
def uNil : TA' := fun _ H Q => Q [] H
def uCons (ta : TE') (tr : TA') : TA' := fun σ H Q => ta σ H fun x H1 => tr σ H1 fun xs H2 => Q (x :: xs) H2
theorem qa_nil : PA' X B [] uNil := pa_imp pa_nil fun σ H Q ⟨σ', H', Q', s, h, k⟩ => k [] H' [] H h (RPs.nil _) s (Ev.refl _ _)
theorem qa_cons (ha : PE' X B e ta) (hr : PA' X B es t) (hs : starEach (e :: es) X.env = (false, eval e X.env) :: starEach es X.env := by rfl) : PA' X B (e :: es) (uCons ta t) := pa_imp (pa_cons ha hr hs) fun σ H Q ⟨σ', H', Q', s, h, k⟩ => by
  refine ⟨σ', H', _, s, h, fun x H1' v H1 h1 r1 s1 e1 => ⟨σ', H1', _, s1, h1, fun xs H2' vs H2 h2 r2 s2 e2 => ?_⟩⟩
  exact k _ H2' _ H2 h2 (RPs.cons _ (RP.kp _ (e2.kp s1.hp) r1) r2) s2 (e1.trans e2)
def uTup (t : TA') : TE' := fun σ H Q => t σ H fun xs H1 => xs.length ≤ sizeLine ∧ Q (.tup xs) H1
def uLst (t : TA') : TE' := fun σ H Q => t σ H fun xs H1 => xs.length ≤ sizeLine ∧ ∀ p, H1 p = none → Q (.ref p) (put H1 p (.lst xs))
theorem SR.hid {K : PySem.W.Frag} {σ' : St'} {σ : L2.St} {H' : PHp} {H : Hp} {p : Addr} {o : HO} (s : SR K B σ' H' σ H) (n : H p = none) : SR K B σ' H' σ (upd H p o) := s.kp (Ev.hid n) (s.hp.hid n)
theorem SR.new {K : PySem.W.Frag} {σ' : St'} {σ : L2.St} {H' : PHp} {H : Hp} {p : Addr} {o : HO} {o' : PO} (s : SR K B σ' H' σ H) (n : H p = none) (w : OAt K (upd H p o) p o') : SR K B σ' (put H' p o') σ (upd H p o) := s.kp (Ev.new n) (s.hp.new n w)
theorem SR.wr {K : PySem.W.Frag} {σ' : St'} {σ : L2.St} {H' : PHp} {H : Hp} {p : Addr} {o : HO} {o' u' : PO} (s : SR K B σ' H' σ H) (n : H' p = some u') (w : OAt K (upd H p o) p o') : SR K B σ' (put H' p o') σ (upd H p o) := s.kp (Ev.wr n) (s.hp.wr n w)
theorem newT {K : PySem.W.Frag} {H : Hp} {p : Addr} {xs : List PV} {us : List V} (n : H p = none) (r : RPs K H xs us) : RP K (upd H p (.tup us)) (.tup xs) (.ref p) := by
  simp only [RP]
  exact ⟨p, us, rfl, SqT.of upd_same, RPs.kp K (kp_fresh n) r⟩
theorem newL {K : PySem.W.Frag} {H : Hp} {p : Addr} {xs : List PV} {us : List V} (n : H p = none) (r : RPs K H xs us) : OAt K (upd H p (.lst us)) p (.lst xs) := ⟨us, upd_same, RPs.kp K (kp_fresh n) r⟩
theorem wrL {K : PySem.W.Frag} {H' : PHp} {H : Hp} {p : Addr} {u' : PO} {xs : List PV} {us : List V} (h : HR K H' H) (n : H' p = some u') (r : RPs K H xs us) : OAt K (upd H p (.lst us)) p (.lst xs) := ⟨us, upd_same, RPs.kp K (h.kpw n) r⟩
theorem qe_tup {x1} (h : PA' X B es t) : PE' X B (.Tuple es x1 pos) (uTup t) := pe_imp (pe_tup h) fun σ H Q ⟨σ', H', Q', s, h, k⟩ => by
  refine ⟨σ', H', _, s, h, fun xs H1' us H1 h1 r1 s1 e1 => ⟨by rw [RPs.length _ r1]; exact h1.1, fun p n => ?_⟩⟩
  exact k _ H1' _ _ h1.2 (newT n r1) (s1.hid n) (e1.trans (Ev.hid n))
theorem qe_lst (h : PA' X B es t) : PE' X B (.List es pos) (uLst t) := pe_imp (pe_lst h) fun σ H Q ⟨σ', H', Q', s, h, k⟩ => by
  refine ⟨σ', H', _, s, h, fun xs H1' us H1 h1 r1 s1 e1 => ⟨by rw [RPs.length _ r1]; exact h1.1, fun p n => ?_⟩⟩
  exact k _ _ _ _ (h1.2 p (s1.hp.free n)) (by simp [RP]) (s1.new n (newL n r1)) (e1.trans (Ev.new n))
def withS (x : PV) (H : PHp) (k : List PV → Prop) : Prop := match x with
  | .tup l => k l
  | .fls l => k l
  | .ref a => ∃ l, H a = some (.lst l) ∧ k l
  | _ => False
theorem withS.ex {K : PySem.W.Frag} {σ' : St'} {σ : L2.St} {x : PV} {v : V} {H' : PHp} {H : Hp} {k : List PV → Prop} (h : withS x H' k) (s : SR K B σ' H' σ H) (r : RP K H x v) : ∃ l us p, v = .ref p ∧ RPs K H l us ∧ (SqL K H p us ∨ SqT K H p us) ∧ k l := by
  unfold withS at h
  split at h
  · simp only [RP] at r; obtain ⟨a, us, e, q, r⟩ := r; exact ⟨_, us, a, e, r, .inr q, h⟩
  · simp only [RP] at r; obtain ⟨a, us, e, q, r⟩ := r; exact ⟨_, us, a, e, r, .inl q.sq, h⟩
  · simp only [RP] at r
    obtain ⟨l, e, h⟩ := h
    obtain ⟨us, q, r2⟩ := s.hp _ _ e
    exact ⟨l, us, _, r, r2, .inl (SqL.of q), h⟩
  · exact h.elim
theorem atI_ps {K : PySem.W.Frag} {H : Hp} {l : List PV} {us : List V} {i : Int} {x : PV} (r : RPs K H l us) (e : atI l i = some x) : ∃ u, atI us i = some u ∧ RP K H x u := by
  unfold atI at e ⊢
  rw [RPs.length _ r]
  cases q : ixN l.length i with
  | none => rw [q] at e; cases e
  | some j =>
    rw [q] at e
    obtain ⟨u, e1, e2⟩ := RPs.get _ r (show l[j]? = some x from e)
    exact ⟨u, e1, e2⟩
def withO (o : Option PV) (k : PV → Prop) : Prop := match o with
  | some v => k v
  | none => False
theorem withO.ex {o : Option PV} {k : PV → Prop} (h : withO o k) : ∃ v, o = some v ∧ k v := by
  unfold withO at h; split at h
  · exact ⟨_, rfl, h⟩
  · exact h.elim
def uIx : R2' := fun x y H Q => withS x H fun l => withI y fun i => withO (atI l i) fun v => Q v H
theorem ix_both {X : Cx} : IxR X (fun x y H Q => rIxL X.K x y H Q ∨ rIxT X.K x y H Q) := ix_list.or ix_tup
theorem vr_ix {K : PySem.W.Frag} : VR K B uIx (fun x y H Q => rIxL K x y H Q ∨ rIxT K x y H Q) := by
  intro σ' σ H' H x' y' x y Q' Q s rx ry h k
  obtain ⟨l, us, p, rfl, r, q, h1⟩ := withS.ex h s rx
  obtain ⟨i, rfl, h2⟩ := withI.ex h1
  obtain ⟨v, e, h3⟩ := withO.ex h2
  simp only [RP] at ry
  obtain ⟨u, e1, e2⟩ := atI_ps r e
  have := k v H' u H h3 e2 s (Ev.refl _ _)
  rcases q with q | q
  · exact .inl ⟨p, us, i, u, rfl, ry, q, e1, this⟩
  · exact .inr ⟨p, us, i, u, rfl, ry, q, e1, this⟩
theorem qe_ix (ha : PE' X B a ta) (hb : PE' X B b tb) (hs : PlainIx b) : PE' X B (.Subscript a b pos) (uOp uIx ta tb) := pe_imp (pe_ix ix_both ha hb hs) fun _ _ _ h => low_op vr_ix h
abbrev TO' := St' → PHp → (Option Int → PHp → Prop) → Prop
def uNoPart : TO' := fun _ H Q => Q none H
def uPart (t : TE') : TO' := fun σ H Q => t σ H fun x H1 => withI x fun i => Q (some i) H1
def cutP (xs : List PV) (lo hi : Option Int) : List PV := (xs.drop (HT.sIx xs.length 0 lo)).take (HT.sIx xs.length xs.length hi - HT.sIx xs.length 0 lo)
def sliceOf (x : PV) (lo hi : Option Int) (H3 : PHp) (Q : VK') : Prop := match x with
  | .fls l => ∀ p, H3 p = none → Q (.ref p) (put H3 p (.lst (cutP l lo hi)))
  | .ref a => ∃ l, H3 a = some (.lst l) ∧ ∀ p, H3 p = none → Q (.ref p) (put H3 p (.lst (cutP l lo hi)))
  | .tup l => ¬ (HT.sIx l.length 0 lo = 0 ∧ HT.sIx l.length l.length hi = l.length) ∧ Q (.tup (cutP l lo hi)) H3
  | _ => False
def uSlice (ta : TE') (tl th : TO') : TE' := fun σ H Q => ta σ H fun x H1 => tl σ H1 fun lo H2 => th σ H2 fun hi H3 => sliceOf x lo hi H3 Q
def VC (K : PySem.W.Frag) (B : Bs) (r' : List PV → PHp → VK' → Prop) (r : List V → Hp → VK → Prop) : Prop := ∀ (σ' : St') (σ : L2.St) (H' : PHp) (H : Hp) xs' xs (Q' : VK') (Q : VK), SR K B σ' H' σ H → RPs K H xs' xs → r' xs' H' Q' →
  (∀ v' H1' v H1, Q' v' H1' → RP K H1 v' v → SR K B σ' H1' σ H1 → Ev H' H H1' H1 → Q v H1) → r xs H Q
def uCB (r : List PV → PHp → VK' → Prop) (t : TA') : TE' := fun σ H Q => t σ H fun vs H1 => r vs H1 Q
theorem low_cb {K : PySem.W.Frag} {r' : List PV → PHp → VK' → Prop} {r : List V → Hp → VK → Prop} {t : TA'} (v : VC K B r' r) {σ : L2.St} {H : Hp} {Q : VK} (h : low K B (uCB r' t) σ H Q) : tCB r (lowA K B t) σ H Q := by
  obtain ⟨σ', H', Q', s, h, k⟩ := h
  exact ⟨σ', H', _, s, h, fun xs' H1' xs H1 h1 rx s1 e1 => v σ' σ H1' H1 xs' xs Q' Q s1 rx h1 fun v' H3' v H3 q rv s3 e3 => k v' H3' v H3 q rv s3 (e1.trans e3)⟩
variable {x : Str} {p : Pos}
theorem qe_callB {id : String} {r' : List PV → PHp → VK' → Prop} {r : List V → Hp → VK → Prop} (hc : CallR X (.builtin id) r) (v : VC X.K B r' r) (hg : Gl X x) (hm : X.mg x = none) (hv : bootBuiltins x = some (.builtin id)) (ha : PA' X B (e :: es) t)
    (hn : x ≠ "__name__" := by decide) (hdb : (x == ("__debug__" : Str)) = false := by decide) (he : starEach (e :: es) X.env = (false, eval e X.env) :: starEach es X.env := by rfl) (hpl : (backTo pos (starEach es X.env)).any (·.1) = false := by rfl) :
    PE' X B (.Call (.Name x p) (e :: es) [] pos) (uCB r' t) := pe_imp (pe_callB hc hg hm hv ha hn hdb he hpl) fun _ _ _ h => low_cb v h
theorem qe_callTy {id : String} {r' : List PV → PHp → VK' → Prop} {r : List V → Hp → VK → Prop} (hc : CallR X (.type id) r) (v : VC X.K B r' r) (hg : Gl X x) (hm : X.mg x = none) (hv : bootBuiltins x = some (.type id)) (ha : PA' X B (e :: es) t)
    (hn : x ≠ "__name__" := by decide) (hdb : (x == ("__debug__" : Str)) = false := by decide) (he : starEach (e :: es) X.env = (false, eval e X.env) :: starEach es X.env := by rfl) (hpl : (backTo pos (starEach es X.env)).any (·.1) = false := by rfl) :
    PE' X B (.Call (.Name x p) (e :: es) [] pos) (uCB r' t) := pe_imp (pe_callTy hc hg hm hv ha hn hdb he hpl) fun _ _ _ h => low_cb v h
def arg1 (f : PV → PHp → VK' → Prop) : List PV → PHp → VK' → Prop := fun xs H Q => match xs with
  | [x] => f x H Q
  | _ => False
theorem arg1.ex {K : PySem.W.Frag} {H : Hp} {f : PV → PHp → VK' → Prop} {xs' : List PV} {xs : List V} {H' : PHp} {Q' : VK'} (h : arg1 f xs' H' Q') (r : RPs K H xs' xs) : ∃ x' x, xs' = [x'] ∧ xs = [x] ∧ RP K H x' x ∧ f x' H' Q' := by
  unfold arg1 at h
  split at h
  · simp only [RPs] at r
    obtain ⟨u, r, rfl, q, rfl⟩ := r
    exact ⟨_, u, rfl, rfl, q, h⟩
  · exact h.elim
def uLen : List PV → PHp → VK' → Prop := arg1 fun x H Q => withS x H fun l => Q (.int l.length) H
theorem vc_len {K : PySem.W.Frag} : VC K B uLen (fun xs H Q => ∃ p ys, xs = [.ref p] ∧ (SqL K H p ys ∨ SqT K H p ys) ∧ Q (.int ys.length) H) := by
  intro σ' σ H' H xs' xs Q' Q s r h k
  obtain ⟨x', x, rfl, rfl, rx, h⟩ := arg1.ex h r
  obtain ⟨l, us, p, rfl, r, q, h⟩ := withS.ex h s rx
  exact ⟨p, us, rfl, q, k _ H' _ H h (by simp [RP, RPs.length _ r]) s (Ev.refl _ _)⟩
def uAbs : List PV → PHp → VK' → Prop := arg1 fun x H Q => withI x fun i => Q (.int (if i < 0 then -i else i)) H
def b2n (b : Bool) : Int := if b then 1 else 0
def intOf (x : PV) (k : Int → Prop) : Prop := match x with
  | .int i => k i
  | .bl b => k (b2n b)
  | _ => False
def uInt : List PV → PHp → VK' → Prop := arg1 fun x H Q => intOf x fun i => Q (.int i) H
theorem vc_int {K : PySem.W.Frag} : VC K B uInt (fun xs H Q => (∃ i, xs = [.int i] ∧ Q (.int i) H) ∨ ∃ k, xs = [.bl k] ∧ Q (.int (if k then 1 else 0)) H) := by
  intro σ' σ H' H xs' xs Q' Q s r h k
  obtain ⟨x', x, rfl, rfl, rx, h⟩ := arg1.ex h r
  cases x' with
  | int i => simp only [RP] at rx; subst rx; exact .inl ⟨i, rfl, k _ H' _ H h (by simp [RP]) s (Ev.refl _ _)⟩
  | bl i => simp only [RP] at rx; subst rx; exact .inr ⟨i, rfl, k _ H' _ H h (by simp [RP, b2n]) s (Ev.refl _ _)⟩
  | _ => exact h.elim
def uList : List PV → PHp → VK' → Prop := arg1 fun x H Q => withS x H fun l => ∀ p, H p = none → Q (.ref p) (put H p (.lst l))
theorem vc_list {K : PySem.W.Frag} : VC K B uList (fun xs H Q => ∃ p ys, xs = [.ref p] ∧ (SqL K H p ys ∨ SqT K H p ys) ∧ ∀ l, H l = none → Q (.ref l) (upd H l (.lst ys))) := by
  intro σ' σ H' H xs' xs Q' Q s r h k
  obtain ⟨x', x, rfl, rfl, rx, h⟩ := arg1.ex h r
  obtain ⟨l, us, p, rfl, r, q, h⟩ := withS.ex h s rx
  exact ⟨p, us, rfl, q, fun p n => k _ _ _ _ (h p (s.hp.free n)) (by simp [RP]) (s.new n (newL n r)) (Ev.new n)⟩
def uTuple : List PV → PHp → VK' → Prop := arg1 fun x H Q => withS x H fun l => Q (.tup l) H
theorem vc_tuple {K : PySem.W.Frag} : VC K B uTuple (fun xs H Q => ∃ p ys, xs = [.ref p] ∧ ((SqL K H p ys ∧ ∀ l, H l = none → Q (.ref l) (upd H l (.tup ys))) ∨ (SqT K H p ys ∧ Q (.ref p) H))) := by
  intro σ' σ H' H xs' xs Q' Q s r h k
  obtain ⟨x', x, rfl, rfl, rx, h⟩ := arg1.ex h r
  obtain ⟨l, us, p, rfl, r, q, h⟩ := withS.ex h s rx
  refine ⟨p, us, rfl, ?_⟩
  rcases q with q | q
  · exact .inl ⟨q, fun p n => k _ _ _ _ h (newT n r) (s.hid n) (Ev.hid n)⟩
  · exact .inr ⟨q, k _ _ _ _ h (by simp only [RP]; exact ⟨p, us, rfl, q, r⟩) s (Ev.refl _ _)⟩
end
end U


set_option linter.all false
set_option maxRecDepth 100000
set_option maxHeartbeats 4000000
namespace U
open PySem PySem.Spec PyProof.Rows L2
variable {B : Bs}
section
variable {X : Cx} {a b c e o : Expr} {es : List Expr} {ta tb te : TE'} {tA tB : TT'} {st : Stmt} {sts : List Stmt} {t u : TS'} {pos : Pos}
def uNext : TS' := fun D σ H => D.nx σ H
def uSeq (t u : TS') : TS' := fun D σ H => t { D with nx := u D } σ H
theorem qss_nil : PSs' X B [] uNext := pss_imp pss_nil fun D σ H ⟨σ', H', D', s, h, d⟩ => d.nx _ _ _ _ h s (Ev.refl _ _)
theorem qss_cons (h1 : PS' X B st t) (h2 : PSs' X B sts u) : PSs' X B (st :: sts) (uSeq t u) := pss_imp (pss_cons h1 h2) fun D σ H ⟨σ', H', D', s, h, d⟩ =>
  ⟨σ', H', _, s, h, fun σ1' H1' σ1 H1 h1 s1 e1 => ⟨σ1', H1', D', s1, h1, d.ev _ _ e1⟩, d.rt, d.bk, d.ct⟩
theorem qss_one (h1 : PS' X B st t) : PSs' X B [st] t := pss_one h1
def uBreak : TS' := fun D σ H => D.bk σ H
def uCont : TS' := fun D σ H => D.ct σ H
def uDrop (te : TE') : TS' := fun D σ H => te σ H fun _ H1 => D.nx σ H1
theorem qs_expr (he : PE' X B e te) (hs : swapsWith e none pos.line X.env = pure false := by rfl) : PS' X B (.Expr e pos) (uDrop te) := ps_imp (ps_expr he hs) fun D σ H ⟨σ', H', D', s, h, d⟩ =>
  ⟨σ', H', _, s, h, fun v' H1' v H1 h1 r1 s1 e1 => d.nx _ _ _ _ h1 s1 e1⟩
def uRet (te : TE') : TS' := fun D σ H => te σ H D.rt
theorem qs_ret (he : PE' X B e te) : PS' X B (.Return (some e) pos) (uRet te) := ps_imp (ps_ret he) fun D σ H ⟨σ', H', D', s, h, d⟩ =>
  ⟨σ', H', _, s, h, fun v' H1' v H1 h1 r1 s1 e1 => d.rt _ _ _ _ h1 r1 s1.hp e1⟩
def uRetN : TS' := fun D _ H => D.rt .non H
def uIfS (c : TT') (t u : TS') : TS' := fun D σ H => c σ H fun b H1 => cif b (t D σ H1) (u D σ H1)
theorem qs_if {l1 l2 : List Stmt} (hc : PT' X B c tA) (ha : PSs' X B l1 t) (hb : PSs' X B l2 u) : PS' X B (.If c l1 l2 pos) (uIfS tA t u) := ps_imp (ps_if hc ha hb) fun D σ H ⟨σ', H', D', s, h, d⟩ => by
  refine ⟨σ', H', _, s, h, fun x H1' H1 h1 s1 e1 => ?_⟩
  cases x with
  | true => exact iteT ⟨σ', H1', D', s1, h1, d.ev _ _ e1⟩
  | false => exact iteF ⟨σ', H1', D', s1, h1, d.ev _ _ e1⟩
def uNever : TS' := fun _ _ _ => False
theorem qss_never : PSs' X B sts uNever := fun _ _ _ _ _ _ ⟨_, _, _, _, h, _⟩ => h.elim
def vName (i : Nat) : TG' := fun v σ H Q => Q (σ.set i (some v)) H
theorem SR.set {K : PySem.W.Frag} {σ' : St'} {H' : PHp} {σ : L2.St} {H : Hp} {v' : PV} {v : V} (s : SR K B σ' H' σ H) (r : RP K H v' v) (i : Nat) : SR K B (σ'.set i (some v')) H' (σ.set i (some v)) H := by
  refine ⟨by simp [s.len], fun j w e => ?_, s.hp, s.ev⟩
  by_cases hj : i = j
  · subst hj
    have hl : i < σ'.length := by
      rcases Nat.lt_or_ge i σ'.length with h | h
      · exact h
      · rw [List.getElem?_eq_none (by simpa using h)] at e; cases e
    rw [List.getElem?_set_self hl] at e
    cases e
    exact ⟨v, List.getElem?_set_self (by rw [← s.len]; exact hl), r⟩
  · rw [List.getElem?_set_ne hj] at e ⊢
    exact s.loc j w e
theorem qg_name {i : Nat} {x : Str} (hN : X.N.Nodup) (hi : X.N[i]? = some x) (hx : Loc X.env.scope x) (hf : X.fn x = true ∨ X.env.scope.names.lookup x = some .local := by first | exact .inl rfl | exact .inr rfl | assumption) : PG' X B (.Name x pos) (vName i) :=
  pg_imp (pg_name hN hi hx hf) fun v σ H Q ⟨v', σ', H', Q', r, s, h, k⟩ => k _ _ _ _ h (s.set r i) (Ev.refl _ _)
def vNil : TGs' := fun vs σ H Q => vs = [] ∧ Q σ H
def vCons (t : TG') (u : TGs') : TGs' := fun vs σ H Q => match vs with
  | v :: r => t v σ H fun σ' H' => u r σ' H' Q
  | [] => False
def vTup (n : Nat) (t : TGs') : TG' := fun v σ H Q => match v with
  | .tup l => l.length = n ∧ t l σ H Q
  | _ => False
def uAsg (te : TE') (g : TG') : TS' := fun D σ H => te σ H fun x H1 => g x σ H1 D.nx
theorem qs_set {i : Nat} {x : Str} {pos' : Pos} (hN : X.N.Nodup) (hi : X.N[i]? = some x) (hx : Loc X.env.scope x) (he : PE' X B e te) (hs : swapsWith e (some (.Name x pos')) pos.line X.env = pure false := by rfl) (hf : X.fn x = true ∨ X.env.scope.names.lookup x = some .local := by first | exact .inl rfl | exact .inr rfl | assumption) :
    PS' X B (.Assign [.Name x pos'] e pos) (uAsg te (vName i)) := ps_imp (ps_set hN hi hx he hs hf) fun D σ H h => by
  obtain ⟨σ', H', D', s, h, d⟩ := h
  exact ⟨σ', H', _, s, h, fun x H1' v H1 h1 r1 s1 e1 => d.nx _ _ _ _ h1 (s1.set r1 i) e1⟩
def uForL (ok : PHp → Prop) (g : TG') (tb : TS') (D : Ends') : List PV → St' → PHp → Prop
  | [], σ, H => ok H ∧ D.nx σ H
  | x :: r, σ, H => ok H ∧ g x σ H fun σ2 H2 => tb { D with nx := uForL ok g tb D r, ct := uForL ok g tb D r, bk := D.nx } σ2 H2
def uFor (wi : TI') (g : TG') (tb : TS') : TS' := fun D σ H => wi σ H fun J H1 => uForL J.ok g tb D J.items σ H1
theorem qs_for {iter tg : Expr} {body : List Stmt} {wi : TI'} {g : TG'} (hp : PassesOwn (model X.prog X.w) X.A X.env X.xe) (hc : X.calm = true) (hi : PI' X B tg iter wi) (hg : PG' X B tg g) (hb : PSs' X B body t)
    (hs : ∀ x, foldedSetIterable iter X.env x = pure x := by intro _; rfl) : PS' X B (.For tg iter body [] pos) (uFor wi g t) := ps_imp (ps_for hp hc hi hg hb hs) fun D σ H ⟨σ', H', D', s, h, d⟩ => by
  refine ⟨σ', H', _, s, h, fun J' H1' J H1 h1 wk s1 e1 => ?_⟩
  refine ⟨fun i m σ2 H2 => i ≤ J'.items.length ∧ m = J'.items.length - i ∧ ∃ σ2' H2', SR X.K B σ2' H2' σ2 H2 ∧ Ev H1' H1 H2' H2 ∧ uForL J'.ok g t D' (J'.items.drop i) σ2' H2', ⟨J'.items.length, Nat.zero_le _, by simp, σ', H1', s1, Ev.refl _ _, h1⟩, ?_⟩
  rintro i m σ2 H2 ⟨hi, rfl, σ2', H2', s2, e2, h2⟩
  have k2 := e2.kp s1.hp
  by_cases hlt : i < J'.items.length
  · obtain ⟨x', hx⟩ : ∃ x', J'.items[i]? = some x' := ⟨_, List.getElem?_eq_getElem hlt⟩
    have hd : J'.items.drop i = x' :: J'.items.drop (i + 1) := by
      rw [List.drop_eq_getElem_cons hlt]
      rw [List.getElem?_eq_getElem hlt] at hx
      cases hx; rfl
    rw [hd] at h2
    obtain ⟨ok2, h2⟩ := (show J'.ok H2' ∧ _ from h2)
    refine .inr ⟨wk.go H2' H2 i k2 s2.hp ok2 hlt, fun σ3 H3 => ∃ σ3' H3', SR X.K B σ3' H3' σ3 H3 ∧ Ev H1' H1 H3' H3 ∧ uForL J'.ok g t D' (J'.items.drop (i + 1)) σ3' H3', ?_, fun x H3 y => ?_⟩
    · rintro σ3 H3 ⟨σ3', H3', s3, e3, h3⟩
      exact ⟨J'.items.length - (i + 1), by omega, hlt, rfl, σ3', H3', s3, e3, h3⟩
    · obtain ⟨rfl, rx⟩ := wk.yld H2' H2 i x H3 k2 s2.hp ok2 y
      refine ⟨x', σ2', H2', _, rx x' hx, s2, h2, fun σ3' H3' σ3 H3 h3 s3 e3 => ⟨σ3', H3', _, s3, h3, ?_, ?_, ?_, ?_⟩⟩
      · intro σ4' H4' σ4 H4 h4 s4 e4
        exact ⟨σ4', H4', s4, e2.trans (e3.trans e4), h4⟩
      · intro v' H4' v H4 h4 r4 s4 e4
        exact d.rt _ _ _ _ h4 r4 s4 (e1.trans (e2.trans (e3.trans e4)))
      · intro σ4' H4' σ4 H4 h4 s4 e4
        exact d.nx _ _ _ _ h4 s4 (e1.trans (e2.trans (e3.trans e4)))
      · intro σ4' H4' σ4 H4 h4 s4 e4
        exact ⟨σ4', H4', s4, e2.trans (e3.trans e4), h4⟩
  · have hi' : i = J'.items.length := by omega
    subst hi'
    rw [List.drop_length] at h2
    obtain ⟨ok2, h2⟩ := (show J'.ok H2' ∧ _ from h2)
    exact .inl ⟨wk.stop H2' H2 _ k2 s2.hp ok2 (Nat.le_refl _), d.nx _ _ _ _ h2 s2 (e1.trans e2)⟩
def itOf (x : PV) (H1 : PHp) (R : It' → PHp → Prop) : Prop := match x with
  | .tup l => R ⟨l, fun _ => True⟩ H1
  | .fls l => R ⟨l, fun _ => True⟩ H1
  | .ref a => ∃ l, H1 a = some (.lst l) ∧ R ⟨l, fun H => H a = some (.lst l)⟩ H1
  | _ => False
def uSeqI (ta : TE') : TI' := fun σ H R => ta σ H fun x H1 => itOf x H1 R
def iSeq (K : PySem.W.Frag) (tl : TE) : TI := fun σ H R => tl σ H fun x H1 => ∃ a, x = .ref a ∧ ((∃ xs, SqL K H1 a xs) ∧ R (Itl K a) H1 ∨ (∃ xs, SqT K H1 a xs) ∧ R (Itt K a) H1)
theorem pi_seq {tg l : Expr} {tl : TE} (hl : PE X l tl) : PI X tg l (iSeq X.K tl) := by
  intro pins s σ H R I h
  refine thn (hl pins s σ H _ I h) fun v s1 ⟨x, H1, I1, r1, q1⟩ => ?_
  obtain ⟨a, e, ⟨⟨xs, hq⟩, q⟩ | ⟨⟨xs, hq⟩, q⟩⟩ := q1
  · subst e
    cases r1
    obtain ⟨its, rv, p, hz⟩ := I1.list hq
    refine wpAny_pyIter_list p.isList ?_
    refine ⟨s1.heap.objs.size, [s1.heap.objs.size], _, _, H1, rfl, I1.kept (t' := s1.toks) fun b o e => Heap.get?_push_of_some _ e, turn_list a _, ⟨_, Heap.get?_push_size _ rfl, rfl, rfl⟩, fun b hb => ?_, q⟩
    have e : b = s1.heap.objs.size := by simpa using hb
    subst e
    exact I1.fpOk (Nat.le_refl _) (I1.hok.fresh (Nat.le_refl _))
  · subst e
    cases r1
    obtain ⟨its, rv, p, hz⟩ := I1.tuple hq
    refine wpAny_pyIter_tuple (show s1.heap.IsTuple a its.toArray from p) ?_
    refine ⟨s1.heap.objs.size, [s1.heap.objs.size], _, _, H1, rfl, I1.kept (t' := s1.toks) fun b o e => Heap.get?_push_of_some _ e, turn_tuple a _, ⟨_, Heap.get?_push_size _ rfl, rfl, rfl⟩, fun b hb => ?_, q⟩
    have e : b = s1.heap.objs.size := by simpa using hb
    subst e
    exact I1.fpOk (Nat.le_refl _) (I1.hok.fresh (Nat.le_refl _))
theorem walks_list {K : PySem.W.Frag} {H1 : Hp} {J' : It'} {a : Addr} (h : ∀ H' H, Kp H1 H → HR K H' H → J'.ok H' → ∃ us, SqL K H a us ∧ RPs K H J'.items us) : Walks K H1 (Itl K a) J' where
  go := fun H' H i k s o hi => by
    obtain ⟨us, q, r⟩ := h H' H k s o
    obtain ⟨u, e, _⟩ := RPs.get _ r (List.getElem?_eq_getElem hi)
    exact ⟨us, u, q, e⟩
  yld := fun H' H i x H2 k s o y => by
    obtain ⟨us, q, r⟩ := h H' H k s o
    refine ⟨y.1, fun x' hx => ?_⟩
    obtain ⟨u, e, ru⟩ := RPs.get _ r hx
    have := y.2 us q
    rw [e] at this; cases this; exact ru
  stop := fun H' H i k s o hi => by
    obtain ⟨us, q, r⟩ := h H' H k s o
    exact ⟨us, q, by rw [RPs.length _ r]; exact hi⟩
theorem walks_tup {K : PySem.W.Frag} {H1 : Hp} {J' : It'} {a : Addr} (h : ∀ H' H, Kp H1 H → HR K H' H → J'.ok H' → ∃ us, SqT K H a us ∧ RPs K H J'.items us) : Walks K H1 (Itt K a) J' where
  go := fun H' H i k s o hi => by
    obtain ⟨us, q, r⟩ := h H' H k s o
    obtain ⟨u, e, _⟩ := RPs.get _ r (List.getElem?_eq_getElem hi)
    exact ⟨us, u, q, e⟩
  yld := fun H' H i x H2 k s o y => by
    obtain ⟨us, q, r⟩ := h H' H k s o
    refine ⟨y.1, fun x' hx => ?_⟩
    obtain ⟨u, e, ru⟩ := RPs.get _ r hx
    have := y.2 us q
    rw [e] at this; cases this; exact ru
  stop := fun H' H i k s o hi => by
    obtain ⟨us, q, r⟩ := h H' H k s o
    exact ⟨us, q, by rw [RPs.length _ r]; exact hi⟩
theorem qi_seq {tg : Expr} (ha : PE' X B a ta) : PI' X B tg a (uSeqI ta) := pi_imp (pi_seq ha) fun σ H R ⟨σ', H', R', s, h, k⟩ => by
  refine ⟨σ', H', _, s, h, fun x' H1' x H1 h1 r1 s1 e1 => ?_⟩
  cases x' with
  | tup l =>
    simp only [RP] at r1
    obtain ⟨p, us, rfl, q, r⟩ := r1
    exact ⟨p, rfl, .inr ⟨⟨us, q⟩, k _ H1' _ H1 h1 (walks_tup fun _ H2 k2 _ _ => ⟨us, k2.sqT q, RPs.kp _ k2 r⟩) s1 e1⟩⟩
  | fls l =>
    simp only [RP] at r1
    obtain ⟨p, us, rfl, q, r⟩ := r1
    exact ⟨p, rfl, .inl ⟨⟨us, q.sq⟩, k _ H1' _ H1 h1 (walks_list fun _ H2 k2 _ _ => ⟨us, (k2.fzL q).sq, RPs.kp _ k2 r⟩) s1 e1⟩⟩
  | ref p =>
    simp only [RP] at r1
    obtain ⟨l, q, h1⟩ := h1
    obtain ⟨us, q2, r⟩ := s1.hp _ _ q
    refine ⟨p, r1, .inl ⟨⟨us, SqL.of q2⟩, k _ H1' _ H1 h1 (walks_list fun H2' H2 k2 s2 o2 => ?_) s1 e1⟩⟩
    obtain ⟨us2, q3, r3⟩ := s2 _ _ o2
    exact ⟨us2, SqL.of q3, r3⟩
  | _ => exact h1.elim
def rngL (lo : Int) (n : Nat) : List PV := (List.range n).map fun k => PV.int (lo + (k : Nat))
theorem walks_rng {K : PySem.W.Frag} {H1 : Hp} {lo : Int} {n : Nat} : Walks K H1 (Itr lo n) ⟨rngL lo n, fun _ => True⟩ where
  go := fun H' H i k s o hi => by
    have h : i < n := by simpa [rngL] using hi
    exact h
  yld := fun H' H i x H2 k s o y => by
    obtain ⟨e, rfl⟩ := y
    refine ⟨e, fun x' hx => ?_⟩
    simp only [rngL, List.getElem?_map] at hx
    cases q : (List.range n)[i]? with
    | none => rw [q] at hx; cases hx
    | some j =>
      rw [q] at hx
      obtain ⟨h1, h2⟩ := List.getElem?_eq_some_iff.mp q
      rw [List.getElem_range] at h2
      subst h2
      cases hx
      simp [RP]
  stop := fun H' H i k s o hi => by
    have h : n ≤ i := by simpa [rngL] using hi
    exact h
def rng1 (vs : List PV) (H1 : PHp) (R : It' → PHp → Prop) : Prop := match vs with
  | [.int j] => (-(2 ^ 62) ≤ j ∧ j < 2 ^ 62) ∧ R ⟨rngL 0 j.toNat, fun _ => True⟩ H1
  | _ => False
def uRng1 (t : TA') : TI' := fun σ H R => t σ H fun vs H1 => rng1 vs H1 R
def rng2 (vs : List PV) (H1 : PHp) (R : It' → PHp → Prop) : Prop := match vs with
  | [.int i, .int j] => (-(2 ^ 62) ≤ i ∧ i < 2 ^ 62 ∧ -(2 ^ 62) ≤ j ∧ j < 2 ^ 62) ∧ R ⟨rngL i (j - i).toNat, fun _ => True⟩ H1
  | _ => False
def uRng2 (t : TA') : TI' := fun σ H R => t σ H fun vs H1 => rng2 vs H1 R
theorem qi_range1 {tg : Expr} {t : TA'} {p : Pos} (hg : Gl X "range") (hm : X.mg "range" = none) (ha : PA' X B [a] t) (hs : starEach [a] X.env = [(false, eval a X.env)] := by rfl) : PI' X B tg (.Call (.Name "range" p) [a] [] pos) (uRng1 t) :=
  pi_imp (pi_range1 hg hm ha hs) fun σ H R ⟨σ', H', R', s, h, k⟩ => by
  refine ⟨σ', H', _, s, h, fun vs' H1' vs H1 h1 r1 s1 e1 => ?_⟩
  unfold rng1 at h1
  split at h1
  · rename_i j
    simp only [RPs, RP] at r1
    obtain ⟨u, r, rfl, rfl, rfl⟩ := r1
    exact ⟨j, rfl, h1.1.1, h1.1.2, k _ H1' _ H1 h1.2 walks_rng s1 e1⟩
  · exact h1.elim
end
end U


set_option linter.all false
set_option maxRecDepth 100000
set_option maxHeartbeats 4000000
namespace U
open PySem PySem.Spec PyProof.Rows L2
variable {B : Bs}
abbrev Sp' := List PV → PHp → VK' → XK' → Prop
def lowSp (K : PySem.W.Frag) (sp : Sp') : Sp := fun vs H Q E => ∃ vs' H' Q' E', RPs K H vs' vs ∧ HR K H' H ∧ sp vs' H' Q' E' ∧ (∀ v' H1' v H1, Q' v' H1' → RP K H1 v' v → HR K H1' H1 → Ev H' H H1' H1 → Q v H1) ∧
  (∀ c d H1' H1, E' c d H1' → HR K H1' H1 → Ev H' H H1' H1 → E c d H1)
abbrev FnOk' (P : Program) (w : World) (K : PySem.W.Frag) (mg : Str → Option Value) (base : Heap) (CX : CXT) (k : Nat) (f : Addr) (fd : FuncData) (ps : List Str) (sp : Sp') : Prop := FnOk P w K mg base CX k f fd ps (lowSp K sp)
def start' (N : List Str) (vs : List PV) : St' := vs.map some ++ List.replicate (N.length - vs.length) none
theorem sr_start {K : PySem.W.Frag} {N : List Str} {vs' : List PV} {vs : List V} {H' : PHp} {H : Hp} (r : RPs K H vs' vs) (h : HR K H' H) : SR K (H', H) (start' N vs') H' (L2.start N vs) H := by
  have hl := RPs.length _ r
  refine ⟨by simp [start', L2.start, hl], fun i v' e => ?_, h, Ev.refl _ _⟩
  unfold start' at e
  unfold L2.start
  by_cases hi : i < vs'.length
  · rw [List.getElem?_append_left (by simpa using hi)] at e
    rw [List.getElem?_append_left (by simpa [hl] using hi)]
    rw [List.getElem?_map] at e ⊢
    cases q : vs'[i]? with
    | none => rw [q] at e; cases e
    | some w =>
      rw [q] at e
      cases e
      obtain ⟨u, e1, e2⟩ := RPs.get _ r q
      exact ⟨u, by rw [e1]; rfl, e2⟩
  · rw [List.getElem?_append_right (by simpa using hi)] at e
    rw [List.getElem?_replicate] at e
    split at e <;> cases e
def ends (Q : VK') : Ends' where
  nx := fun _ H => ∃ H3, Sub H3 H ∧ Q .non H3
  rt := fun v H => ∃ H3, Sub H3 H ∧ Q v H3
section
variable {P : Program} {w : World} {K : PySem.W.Frag} {mg : Str → Option Value} {base : Heap}
theorem okU {x qual : Str} {st : Stmt} {f : Addr} {fd : FuncData} {N ps : List Str} {k : Nat} {sp : Sp'} (F : Fun K x qual st f fd) (S : FnScope N ps (defScope st)) (len : ∀ vs H Q E, sp vs H Q E → vs.length = ps.length)
    (hbody : ∀ (cdv : Value) (A : Around) (outer : List Env) (s : Shared) (H : Hp) (E : XK) (B : Bs), Room k (A.deeper (envOfC qual (defScope st) s.heap.objs.size f cdv)) →
      ∃ t, PSs' (cxOf CX0 P w K mg base N qual (defScope st) f cdv A outer s H E).nox B (defBody st) t ∧ ∀ vs' H' Q' E', sp vs' H' Q' E' → t (ends Q') (start' N vs') H') : FnOk' P w K mg base CX0 (k + 1) f fd ps sp := by
  refine F.ok S (fun vs H Q E zz => ?_) (fun cdv A outer s H vs Q E hr h => ?_)
  · obtain ⟨vs', H', Q', E', r, hr, h, _⟩ := zz
    rw [RPs.length _ r]; exact len _ _ _ _ h
  · obtain ⟨vs', H', Q', E', r, hh, h, k1, k2⟩ := h
    obtain ⟨t, ht, hq⟩ := hbody cdv A outer s H E (H', H) hr
    refine ⟨_, ht, start' N vs', H', _, sr_start r hh, hq vs' H' Q' E' h, ?_, ?_, ?_, ?_⟩
    · rintro σ1' H1' σ1 H1 ⟨H3, sb, q⟩ s1 e1
      exact k1 _ H3 _ H1 q (by simp [RP]) (s1.hp.sub sb) (e1.sub sb)
    · rintro v' H1' v H1 ⟨H3, sb, q⟩ r1 s1 e1
      exact k1 _ H3 _ H1 q r1 (s1.sub sb) (e1.sub sb)
    · intro _ _ _ _ z; exact z.elim
    · intro _ _ _ _ z; exact z.elim
end
section
variable {X : Cx} {CX : CXT} {k : Nat} {f C : Addr} {fd : FuncData} {ps : List Str} {sp : Sp'} {E : XK} {E' : XK'} {x m : Str} {p pos apos : Pos} {e o : Expr} {es : List Expr} {ta : TE'} {t : TA'}
def uCall (sp : Sp') (E' : XK') (t : TA') : TE' := fun σ H Q => t σ H fun vs H1 => sp vs H1 Q E'
abbrev X0 : XK' := fun _ _ _ => False
theorem low_call0 {K : PySem.W.Frag} {σ : L2.St} {H : Hp} {Q : VK} (h : low K B (uCall sp X0 t) σ H Q) : tCall (lowSp K sp) [] E0 (lowA K B t) σ H Q := by
  obtain ⟨σ', H', Q', s, h, k⟩ := h
  refine ⟨σ', H', _, s, h, fun vs' H1' vs H1 h1 r1 s1 e1 => ?_⟩
  show lowSp K sp (vs ++ []) H1 Q E0
  rw [List.append_nil]
  exact ⟨vs', H1', Q', X0, r1, s1.hp, h1, fun v' H2' v H2 q r2 h2 e2 => k v' H2' v H2 q r2 (s1.kp e2 h2) (e1.trans e2), fun _ _ _ _ z => z.elim⟩
theorem qe_call (F : FnOk' X.prog X.w X.K X.mg X.base CX0 k f fd ps sp) (hr : Room k X.A) (hg : Gl X x) (hm : X.mg x = some (.ref f)) (hk : PySem.W.keepIn X.K (.ref f) = true) (hb : Binds X.K fd ps [])
    (ha : PA' X B (e :: es) t) (hdb : (x == ("__debug__" : Str)) = false := by decide) (he : starEach (e :: es) X.env = (false, eval e X.env) :: starEach es X.env := by rfl) (hpl : (backTo pos (starEach es X.env)).any (·.1) = false := by rfl) :
    PE' X B (.Call (.Name x p) (e :: es) [] pos) (uCall sp X0 t) := pe_imp (pe_call F hr hg hm hk hb .nil pass0 ha hdb he hpl) fun _ _ _ h => low_call0 h
theorem fz_of {K : PySem.W.Frag} {H : Hp} {a : Addr} {xs : List V} (o : Only H) (h : SqL K H a xs) : FzL K H a xs := by
  rcases h with (h | h) | h
  · rcases o a with z | ⟨ob, ys, z⟩
    · rw [z] at h; cases h
    · rw [z] at h; cases h
  · exact .inl h
  · exact .inr h
def spL : Sp' := fun vs H Q _ => match vs with
  | [.fls l] => ∃ ns : List Int, l = ns.map PV.int ∧ ns.length ≤ 63 ∧ Q (.bl true) H
  | _ => False
theorem spL_start {K : PySem.W.Frag} {H : Hp} {a : Addr} {ns : List Int} (hl : ns.length ≤ 63) (o : Only H) (h : SqL K H a (ns.map V.int)) : lowSp K spL [.ref a] H (fun v _ => v = .bl true) fun _ _ _ => False := by
  refine ⟨[.fls (ns.map PV.int)], fun _ => none, fun v _ => v = .bl true, X0, ?_, fun _ _ z => (nomatch z), ⟨ns, rfl, hl, rfl⟩, fun v' _ v _ q r _ _ => ?_, fun _ _ _ _ z => z.elim⟩
  · refine RPs.cons _ ?_ (RPs.nil _)
    simp only [RP]
    exact ⟨a, _, rfl, fz_of o h, RPs.ints _ _⟩
  · subst q
    simpa [RP] using r
end
end U


set_option linter.all false
set_option maxRecDepth 100000
set_option maxHeartbeats 4000000
namespace U
open PySem PySem.Spec PyProof.Rows L2
variable {B : Bs}
mutual
def deq : PV → PV → Bool
  | .non, .non => true
  | .bl a, .bl b => a == b
  | .int a, .int b => a == b
  | .bl a, .int b => (if a then 1 else 0) == b
  | .int a, .bl b => a == (if b then 1 else 0)
  | .str a, .str b => a == b
  | .tup l, .tup m => deqs l m
  | .fls l, .fls m => deqs l m
  | _, _ => false
def deqs : List PV → List PV → Bool
  | [], [] => true
  | x :: l, y :: m => deq x y && deqs l m
  | _, _ => false
end
def flat : Nat → PV → Bool
  | _, .non => true
  | _, .bl _ => true
  | _, .int _ => true
  | _, .str _ => true
  | n + 1, .tup l => l.all (flat n)
  | n + 1, .fls l => l.all (flat n)
  | _, _ => false
theorem deqs_range : ∀ (l m : List PV), deqs l m = ((List.range (min l.length m.length)).all (fun i => deq (l.getD i .non) (m.getD i .non)) && l.length == m.length)
  | [], [] => by simp [deqs]
  | [], _ :: _ => by simp [deqs]
  | _ :: _, [] => by simp [deqs]
  | x :: l, y :: m => by
    simp only [deqs, deqs_range l m, List.length_cons]
    rw [show min (l.length + 1) (m.length + 1) = min l.length m.length + 1 by omega, List.range_succ_eq_map, List.all_cons, List.all_map]
    simp only [List.getD_cons_zero, Bool.and_assoc]
    congr 1
    congr 1
    simp
theorem deqs_refl {n : Nat} : ∀ (l : List PV), (∀ x ∈ l, deq x x = true) → deqs l l = true
  | [], _ => rfl
  | x :: l, h => by
    have h1 := h x (by simp)
    have h2 := deqs_refl (n := n) l fun y hy => h y (by simp [hy])
    simp only [deqs, h1, h2, Bool.and_self]
theorem deq_refl : ∀ {n : Nat} {x : PV}, flat n x = true → deq x x = true
  | _, .non, _ => by simp [deq]
  | _, .bl _, _ => by simp [deq]
  | _, .int _, _ => by simp [deq]
  | _, .str _, _ => by simp [deq]
  | n + 1, .tup l, h => by
    simp only [flat, List.all_eq_true] at h
    simp only [deq]
    exact deqs_refl (n := 0) l fun x hx => deq_refl (h x hx)
  | n + 1, .fls l, h => by
    simp only [flat, List.all_eq_true] at h
    simp only [deq]
    exact deqs_refl (n := 0) l fun x hx => deq_refl (h x hx)
  | 0, .tup _, h => by cases h
  | 0, .fls _, h => by cases h
  | n, .ref _, h => by cases n <;> cases h
  | n, .oth _, h => by cases n <;> cases h
section
variable {X : Cx} {pins : List (Addr × Obj)} {σ : L2.St} {H : Hp} {s : Shared}
def RR (K : PySem.W.Frag) (H : Hp) (x : PV) (u : Value) : Prop := ∃ v, RP K H x v ∧ RelV v u
def RL (K : PySem.W.Frag) (H : Hp) (l : List PV) (us : List Value) : Prop := ∃ vs, RPs K H l vs ∧ Vals vs us
def RD (K : PySem.W.Frag) (H : Hp) (x : PV) (u : Value) : Prop := match x with
  | .fls l => ∃ a vs, u = .ref a ∧ SqL K H a vs ∧ RPs K H l vs
  | x => RR K H x u
theorem RL.get {K : PySem.W.Frag} {l : List PV} {us : List Value} (r : RL K H l us) {i : Nat} {u : Value} (e : us[i]? = some u) : ∃ x, l[i]? = some x ∧ RR K H x u := by
  obtain ⟨vs, r1, r2⟩ := r
  have hl := r2.length
  have hl2 := RPs.length _ r1
  have hi : i < l.length := by
    have := (List.getElem?_eq_some_iff.mp e).1
    omega
  obtain ⟨v, e1, e2⟩ := RPs.get _ r1 (List.getElem?_eq_getElem hi)
  obtain ⟨w, e3, e4⟩ := r2.get e1
  rw [e] at e3; cases e3
  exact ⟨_, List.getElem?_eq_getElem hi, v, e2, e4⟩
theorem RL.length {K : PySem.W.Frag} {l : List PV} {us : List Value} (r : RL K H l us) : us.length = l.length := by
  obtain ⟨vs, r1, r2⟩ := r
  rw [← r2.length, RPs.length _ r1]
theorem RR.rd {K : PySem.W.Frag} {x : PV} {u : Value} (r : RR K H x u) : RD K H x u := by
  cases x with
  | fls l =>
    obtain ⟨v, r1, r2⟩ := r
    simp only [RP] at r1
    obtain ⟨a, us, rfl, q, rr⟩ := r1
    cases r2
    exact ⟨a, us, rfl, q.sq, rr⟩
  | _ => exact r
theorem rd_tup (I : Inv X pins σ H s) {l : List PV} {u : Value} (r : RD X.K H (.tup l) u) : ∃ a its, u = .ref a ∧ RL X.K H l its ∧ s.heap.IsTuple a its.toArray := by
  obtain ⟨v, r1, r2⟩ := r
  simp only [RP] at r1
  obtain ⟨a, us, rfl, q, rr⟩ := r1
  cases r2
  obtain ⟨its, rv, p, _⟩ := I.tuple q
  exact ⟨a, its, rfl, ⟨us, rr, rv⟩, p⟩
theorem rd_lst (I : Inv X pins σ H s) {l : List PV} {u : Value} (r : RD X.K H (.fls l) u) : ∃ a its, u = .ref a ∧ RL X.K H l its ∧ s.heap.IsList a its.toArray := by
  obtain ⟨a, us, rfl, q, rr⟩ := r
  obtain ⟨its, rv, p, _⟩ := I.list q
  exact ⟨a, its, rfl, ⟨us, rr, rv⟩, p.isList⟩
theorem isTuple_inj {a : Addr} {x y : Array Value} (h1 : s.heap.IsTuple a x) (h2 : s.heap.IsTuple a y) : x = y := by
  obtain ⟨o, e, c, n, d⟩ := h1
  obtain ⟨o', e', c', n', d'⟩ := h2
  rw [e] at e'; cases e'; rw [d] at d'; cases d'; rfl
theorem isList_inj {a : Addr} {x y : Array Value} (h1 : s.heap.IsList a x) (h2 : s.heap.IsList a y) : x = y := by
  obtain ⟨o, e, c, n, d⟩ := h1
  obtain ⟨o', e', c', n', d'⟩ := h2
  rw [e] at e'; cases e'; rw [d] at d'; cases d'; rfl
theorem not_both {a : Addr} {x y : Array Value} (h1 : s.heap.IsTuple a x) (h2 : s.heap.IsList a y) : False := by
  obtain ⟨o, e, c, n, d⟩ := h1
  obtain ⟨o', e', c', n', d'⟩ := h2
  rw [e] at e'; cases e'; rw [c] at c'; exact absurd c' (by decide)
theorem RL.list_inj {K : PySem.W.Frag} {n : Nat} (ih : ∀ {x y : PV} {u : Value}, flat n x = true → flat n y = true → RD K H x u → RD K H y u → x = y) {l m : List PV} {us : List Value} (h1 : l.all (flat n) = true) (h2 : m.all (flat n) = true)
    (r1 : RL K H l us) (r2 : RL K H m us) : l = m := by
  rw [List.all_eq_true] at h1 h2
  refine List.ext_getElem? fun i => ?_
  cases e : us[i]? with
  | none =>
    have := List.getElem?_eq_none_iff.mp e
    rw [List.getElem?_eq_none (by rw [← r1.length]; exact this), List.getElem?_eq_none (by rw [← r2.length]; exact this)]
  | some u =>
    obtain ⟨x, ex, rx⟩ := r1.get e
    obtain ⟨y, ey, ry⟩ := r2.get e
    rw [ex, ey, ih (h1 x (List.mem_of_getElem? ex)) (h2 y (List.mem_of_getElem? ey)) rx.rd ry.rd]
theorem rd_inj (I : Inv X pins σ H s) : ∀ (n : Nat) {x y : PV} {u : Value}, flat n x = true → flat n y = true → RD X.K H x u → RD X.K H y u → x = y := by
  have sc : ∀ {x : PV} {u : Value}, RD X.K H x u → (∀ l, x ≠ .fls l) → RR X.K H x u := fun {x u} r h => by
    cases x with
    | fls l => exact absurd rfl (h l)
    | _ => exact r
  intro n
  induction n with
  | zero =>
    intro x y u hx hy rx ry
    cases x <;> first | (cases hx; done) | skip
    all_goals cases y <;> first | (cases hy; done) | skip
    all_goals
      obtain ⟨v, r1, r2⟩ := sc rx (by intro l z; cases z)
      obtain ⟨v', r1', r2'⟩ := sc ry (by intro l z; cases z)
      simp only [RP] at r1 r1'
      subst r1; subst r1'
      have := RelV.inj r2 r2'
      first | rfl | (cases this; done) | (cases this; rfl)
  | succ n ih =>
    intro x y u hx hy rx ry
    cases x with
    | tup l =>
      obtain ⟨a, its, rfl, rl, p⟩ := rd_tup I rx
      cases y with
      | tup m =>
        obtain ⟨b, its', e, rl', p'⟩ := rd_tup I ry
        cases e
        have := isTuple_inj p p'
        have e2 : its = its' := by simpa using this
        subst e2
        rw [RL.list_inj (n := n) ih hx hy rl rl']
      | fls m =>
        obtain ⟨b, its', e, rl', p'⟩ := rd_lst I ry
        cases e
        exact (not_both p p').elim
      | ref a => cases hy
      | oth a => cases hy
      | _ =>
        obtain ⟨v', r1', r2'⟩ := sc ry (by intro l z; cases z)
        simp only [RP] at r1'
        subst r1'
        simp [L2.RelV] at r2'
    | fls l =>
      obtain ⟨a, its, rfl, rl, p⟩ := rd_lst I rx
      cases y with
      | tup m =>
        obtain ⟨b, its', e, rl', p'⟩ := rd_tup I ry
        cases e
        exact (not_both p' p).elim
      | fls m =>
        obtain ⟨b, its', e, rl', p'⟩ := rd_lst I ry
        cases e
        have := isList_inj p p'
        have e2 : its = its' := by simpa using this
        subst e2
        rw [RL.list_inj (n := n) ih hx hy rl rl']
      | ref a => cases hy
      | oth a => cases hy
      | _ =>
        obtain ⟨v', r1', r2'⟩ := sc ry (by intro l z; cases z)
        simp only [RP] at r1'
        subst r1'
        simp [L2.RelV] at r2'
    | ref a => cases hx
    | oth a => cases hx
    | _ =>
      cases y with
      | tup m =>
        obtain ⟨b, its', e, rl', p'⟩ := rd_tup I ry
        subst e
        obtain ⟨v', r1', r2'⟩ := sc rx (by intro l z; cases z)
        simp only [RP] at r1'
        subst r1'
        simp [L2.RelV] at r2'
      | fls m =>
        obtain ⟨b, its', e, rl', p'⟩ := rd_lst I ry
        subst e
        obtain ⟨v', r1', r2'⟩ := sc rx (by intro l z; cases z)
        simp only [RP] at r1'
        subst r1'
        simp [L2.RelV] at r2'
      | ref a => cases hy
      | oth a => cases hy
      | _ =>
        obtain ⟨v, r1, r2⟩ := sc rx (by intro l z; cases z)
        obtain ⟨v', r1', r2'⟩ := sc ry (by intro l z; cases z)
        simp only [RP] at r1 r1'
        subst r1; subst r1'
        have := RelV.inj r2 r2'
        first | rfl | (cases this; done) | (cases this; rfl)

open SeqAt in
theorem eq_core (I : Inv X pins σ H s) : ∀ (n : Nat) {A : Around} {x y : PV} {u w : Value}, A.units + n < cLine → flat n x = true → flat n y = true → RD X.K H x u → RD X.K H y w → EqAt A s u w (deq x y) ∧ RcAt A s u w (deq x y) := by
  have sc : ∀ {x : PV} {u : Value}, RD X.K H x u → (∀ l, x ≠ .fls l) → RR X.K H x u := fun {x u} r h => by
    cases x with
    | fls l => exact absurd rfl (h l)
    | _ => exact r
  have v_non : ∀ {u : Value}, RD X.K H .non u → u = .none := fun {u} r => by
    obtain ⟨v, r1, r2⟩ := sc r (by intro l z; cases z); simp only [RP] at r1; subst r1; exact r2
  have v_bl : ∀ {b : Bool} {u : Value}, RD X.K H (.bl b) u → u = .bool b := fun {b u} r => by
    obtain ⟨v, r1, r2⟩ := sc r (by intro l z; cases z); simp only [RP] at r1; subst r1; exact r2
  have v_int : ∀ {i : Int} {u : Value}, RD X.K H (.int i) u → ∃ t, u = .int i t := fun {b u} r => by
    obtain ⟨v, r1, r2⟩ := sc r (by intro l z; cases z); simp only [RP] at r1; subst r1; exact r2
  have v_str : ∀ {i : Str} {u : Value}, RD X.K H (.str i) u → ∃ t, u = .str i t := fun {b u} r => by
    obtain ⟨v, r1, r2⟩ := sc r (by intro l z; cases z); simp only [RP] at r1; subst r1; exact r2
  intro n
  induction n with
  | zero =>
    intro A x y u w hu hx hy rx ry
    cases x with
    | non =>
      rw [v_non rx]
      cases y with
      | non => rw [v_non ry]; exact ⟨EqAt.same _, RcAt.none_none⟩
      | bl b => rw [v_bl ry]; exact ⟨EqAt.none_bool b, RcAt.none_bool b⟩
      | int b => obtain ⟨t, rfl⟩ := v_int ry; exact ⟨EqAt.none_int b t, RcAt.none_int b t⟩
      | str b => obtain ⟨t, rfl⟩ := v_str ry; exact ⟨EqAt.none_str b t, RcAt.none_str b t⟩
      | _ => cases hy
    | bl a =>
      rw [v_bl rx]
      cases y with
      | non => rw [v_non ry]; exact ⟨EqAt.bool_none a, RcAt.bool_none a⟩
      | bl b => rw [v_bl ry]; exact ⟨EqAt.bool_bool a b, RcAt.bool_bool a b⟩
      | int b => obtain ⟨t, rfl⟩ := v_int ry; exact ⟨EqAt.bool_int a b t, RcAt.bool_int a b t⟩
      | str b => obtain ⟨t, rfl⟩ := v_str ry; exact ⟨EqAt.bool_str a b t, RcAt.bool_str a b t⟩
      | _ => cases hy
    | int a =>
      obtain ⟨t0, rfl⟩ := v_int rx
      cases y with
      | non => rw [v_non ry]; exact ⟨EqAt.int_none a t0, RcAt.int_none a t0⟩
      | bl b => rw [v_bl ry]; exact ⟨EqAt.int_bool a t0 b, RcAt.int_bool a t0 b⟩
      | int b => obtain ⟨t, rfl⟩ := v_int ry; exact ⟨EqAt.int_int a t0 b t, RcAt.int_int a t0 b t⟩
      | str b => obtain ⟨t, rfl⟩ := v_str ry; exact ⟨EqAt.int_str a t0 b t, RcAt.int_str a t0 b t⟩
      | _ => cases hy
    | str a =>
      obtain ⟨t0, rfl⟩ := v_str rx
      cases y with
      | non => rw [v_non ry]; exact ⟨EqAt.str_none a t0, RcAt.str_none a t0⟩
      | bl b => rw [v_bl ry]; exact ⟨EqAt.str_bool a t0 b, RcAt.str_bool a t0 b⟩
      | int b => obtain ⟨t, rfl⟩ := v_int ry; exact ⟨EqAt.str_int a t0 b t, RcAt.str_int a t0 b t⟩
      | str b => obtain ⟨t, rfl⟩ := v_str ry; exact ⟨EqAt.str_str a t0 b t, RcAt.str_str a t0 b t⟩
      | _ => cases hy
    | _ => cases hx
  | succ n ih =>
    intro A x y u w hu hx hy rx ry
    have hu0 : A.units < cLine := by omega
    have hu1 : A.in1.units + n < cLine := by show A.units + 1 + n < cLine; omega
    cases x with
    | tup l =>
      obtain ⟨a, its, rfl, rl, p⟩ := rd_tup I rx
      cases y with
      | non => rw [v_non ry]; exact ⟨EqAt.tuple_none p hu0, RcAt.tuple_none p hu0⟩
      | bl b => rw [v_bl ry]; exact ⟨EqAt.tuple_bool b p hu0, RcAt.tuple_bool b p hu0⟩
      | int b => obtain ⟨t, rfl⟩ := v_int ry; exact ⟨EqAt.tuple_int b t p hu0, RcAt.tuple_int b t p hu0⟩
      | str b => obtain ⟨t, rfl⟩ := v_str ry; exact ⟨EqAt.tuple_str b t p hu0, RcAt.tuple_str b t p hu0⟩
      | tup m =>
        obtain ⟨b, its', rfl, rl', p'⟩ := rd_tup I ry
        have key : RcAt A s (.ref a) (.ref b) (deq (.tup l) (.tup m)) := by
          have := RcAt.tuples (e := fun i => deq (l.getD i .non) (m.getD i .non)) p p' hu0 fun j h1 h2 => by
            have h1' : j < its.length := by simpa using h1
            have h2' : j < its'.length := by simpa using h2
            obtain ⟨x, ex, rx'⟩ := rl.get (List.getElem?_eq_getElem h1')
            obtain ⟨y, ey, ry'⟩ := rl'.get (List.getElem?_eq_getElem h2')
            have q := ih hu1 (List.all_eq_true.mp hx x (List.mem_of_getElem? ex)) (List.all_eq_true.mp hy y (List.mem_of_getElem? ey)) rx'.rd ry'.rd
            have e1 : l.getD j .non = x := by rw [List.getD_eq_getElem?_getD, ex]; rfl
            have e2 : m.getD j .non = y := by rw [List.getD_eq_getElem?_getD, ey]; rfl
            rw [e1, e2]
            simpa using q.1
          have e : deq (.tup l) (.tup m) = ((List.range (min its.toArray.size its'.toArray.size)).all (fun i => deq (l.getD i .non) (m.getD i .non)) && its.toArray.size == its'.toArray.size) := by
            simp only [deq, deqs_range, List.size_toArray, rl.length, rl'.length]
          rw [e]; exact this
        refine ⟨?_, key⟩
        by_cases hab : a = b
        · subst hab
          have := rd_inj I (n + 1) hx hy rx ry
          rw [← this, deq_refl hx]; exact EqAt.same _
        · exact EqAt.of_refs hab key
      | fls m =>
        obtain ⟨b, its', rfl, rl', p'⟩ := rd_lst I ry
        exact ⟨EqAt.tuple_list p p' hu0, RcAt.tuple_list p p' hu0⟩
      | _ => cases hy
    | fls l =>
      obtain ⟨a, its, rfl, rl, p⟩ := rd_lst I rx
      cases y with
      | non => rw [v_non ry]; exact ⟨EqAt.list_none p hu0, RcAt.list_none p hu0⟩
      | bl b => rw [v_bl ry]; exact ⟨EqAt.list_bool b p hu0, RcAt.list_bool b p hu0⟩
      | int b => obtain ⟨t, rfl⟩ := v_int ry; exact ⟨EqAt.list_int b t p hu0, RcAt.list_int b t p hu0⟩
      | str b => obtain ⟨t, rfl⟩ := v_str ry; exact ⟨EqAt.list_str b t p hu0, RcAt.list_str b t p hu0⟩
      | tup m =>
        obtain ⟨b, its', rfl, rl', p'⟩ := rd_tup I ry
        exact ⟨EqAt.list_tuple p p' hu0, RcAt.list_tuple p p' hu0⟩
      | fls m =>
        obtain ⟨b, its', rfl, rl', p'⟩ := rd_lst I ry
        have key : RcAt A s (.ref a) (.ref b) (deq (.fls l) (.fls m)) := by
          by_cases hs : its.length = its'.length
          · have := RcAt.lists (e := fun i => deq (l.getD i .non) (m.getD i .non)) p p' (by simpa using hs) hu0 fun j h1 h2 => by
              have h1' : j < its.length := by simpa using h1
              have h2' : j < its'.length := by simpa using h2
              obtain ⟨x, ex, rx'⟩ := rl.get (List.getElem?_eq_getElem h1')
              obtain ⟨y, ey, ry'⟩ := rl'.get (List.getElem?_eq_getElem h2')
              have q := ih hu1 (List.all_eq_true.mp hx x (List.mem_of_getElem? ex)) (List.all_eq_true.mp hy y (List.mem_of_getElem? ey)) rx'.rd ry'.rd
              have e1 : l.getD j .non = x := by rw [List.getD_eq_getElem?_getD, ex]; rfl
              have e2 : m.getD j .non = y := by rw [List.getD_eq_getElem?_getD, ey]; rfl
              rw [e1, e2]
              simpa using q.1
            have e : deq (.fls l) (.fls m) = (List.range its.toArray.size).all (fun i => deq (l.getD i .non) (m.getD i .non)) := by
              have e0 : l.length = m.length := by rw [← rl.length, ← rl'.length]; exact hs
              simp [deq, deqs_range, rl.length, e0]
            rw [e]; exact this
          · have e : deq (.fls l) (.fls m) = false := by
              have e0 : l.length ≠ m.length := by rw [← rl.length, ← rl'.length]; exact hs
              simp [deq, deqs_range, e0]
            rw [e]
            exact RcAt.lists_lengths p p' (by simpa using hs) hu0
        refine ⟨?_, key⟩
        by_cases hab : a = b
        · subst hab
          have := rd_inj I (n + 1) hx hy rx ry
          rw [← this, deq_refl hx]; exact EqAt.same _
        · exact EqAt.of_refs hab key
      | _ => cases hy
    | ref a => cases hx
    | oth a => cases hx
    | non =>
      cases y with
      | tup m => obtain ⟨b, its', rfl, rl', p'⟩ := rd_tup I ry; rw [v_non rx]; exact ⟨EqAt.none_tuple p' hu0, RcAt.none_tuple p' hu0⟩
      | fls m => obtain ⟨b, its', rfl, rl', p'⟩ := rd_lst I ry; rw [v_non rx]; exact ⟨EqAt.none_list p' hu0, RcAt.none_list p' hu0⟩
      | ref a => cases hy
      | oth a => cases hy
      | _ => exact ih (by omega) (by cases n <;> rfl) (by cases n <;> rfl) rx ry
    | bl i =>
      cases y with
      | tup m => obtain ⟨b, its', rfl, rl', p'⟩ := rd_tup I ry; rw [v_bl rx]; exact ⟨EqAt.bool_tuple i p' hu0, RcAt.bool_tuple i p' hu0⟩
      | fls m => obtain ⟨b, its', rfl, rl', p'⟩ := rd_lst I ry; rw [v_bl rx]; exact ⟨EqAt.bool_list i p' hu0, RcAt.bool_list i p' hu0⟩
      | ref a => cases hy
      | oth a => cases hy
      | _ => exact ih (by omega) (by cases n <;> rfl) (by cases n <;> rfl) rx ry
    | int i =>
      cases y with
      | tup m => obtain ⟨b, its', rfl, rl', p'⟩ := rd_tup I ry; obtain ⟨t, rfl⟩ := v_int rx; exact ⟨EqAt.int_tuple i t p' hu0, RcAt.int_tuple i t p' hu0⟩
      | fls m => obtain ⟨b, its', rfl, rl', p'⟩ := rd_lst I ry; obtain ⟨t, rfl⟩ := v_int rx; exact ⟨EqAt.int_list i t p' hu0, RcAt.int_list i t p' hu0⟩
      | ref a => cases hy
      | oth a => cases hy
      | _ => exact ih (by omega) (by cases n <;> rfl) (by cases n <;> rfl) rx ry
    | str i =>
      cases y with
      | tup m => obtain ⟨b, its', rfl, rl', p'⟩ := rd_tup I ry; obtain ⟨t, rfl⟩ := v_str rx; exact ⟨EqAt.str_tuple i t p' hu0, RcAt.str_tuple i t p' hu0⟩
      | fls m => obtain ⟨b, its', rfl, rl', p'⟩ := rd_lst I ry; obtain ⟨t, rfl⟩ := v_str rx; exact ⟨EqAt.str_list i t p' hu0, RcAt.str_list i t p' hu0⟩
      | ref a => cases hy
      | oth a => cases hy
      | _ => exact ih (by omega) (by cases n <;> rfl) (by cases n <;> rfl) rx ry
end
end U


set_option linter.all false
set_option maxRecDepth 100000
set_option maxHeartbeats 4000000
namespace U
open PySem PySem.Spec PyProof.Rows L2
variable {B : Bs}
section
variable {X : Cx} {pins : List (Addr × Obj)} {σ : L2.St} {H : Hp} {s : Shared}
open SeqAt in
theorem ne_core (I : Inv X pins σ H s) : ∀ (n : Nat) {A : Around} {x y : PV} {u w : Value}, A.units + n < cLine → flat n x = true → flat n y = true → RD X.K H x u → RD X.K H y w → RcNeAt A s u w (!deq x y) := by
  have sc : ∀ {x : PV} {u : Value}, RD X.K H x u → (∀ l, x ≠ .fls l) → RR X.K H x u := fun {x u} r h => by
    cases x with
    | fls l => exact absurd rfl (h l)
    | _ => exact r
  have v_non : ∀ {u : Value}, RD X.K H .non u → u = .none := fun {u} r => by
    obtain ⟨v, r1, r2⟩ := sc r (by intro l z; cases z); simp only [RP] at r1; subst r1; exact r2
  have v_bl : ∀ {b : Bool} {u : Value}, RD X.K H (.bl b) u → u = .bool b := fun {b u} r => by
    obtain ⟨v, r1, r2⟩ := sc r (by intro l z; cases z); simp only [RP] at r1; subst r1; exact r2
  have v_int : ∀ {i : Int} {u : Value}, RD X.K H (.int i) u → ∃ t, u = .int i t := fun {b u} r => by
    obtain ⟨v, r1, r2⟩ := sc r (by intro l z; cases z); simp only [RP] at r1; subst r1; exact r2
  have v_str : ∀ {i : Str} {u : Value}, RD X.K H (.str i) u → ∃ t, u = .str i t := fun {b u} r => by
    obtain ⟨v, r1, r2⟩ := sc r (by intro l z; cases z); simp only [RP] at r1; subst r1; exact r2
  intro n
  induction n with
  | zero =>
    intro A x y u w hu hx hy rx ry
    cases x with
    | non =>
      rw [v_non rx]
      cases y with
      | non => rw [v_non ry]; exact RcNeAt.none_none
      | bl b => rw [v_bl ry]; exact RcNeAt.none_bool b
      | int b => obtain ⟨t, rfl⟩ := v_int ry; exact RcNeAt.none_int b t
      | str b => obtain ⟨t, rfl⟩ := v_str ry; exact RcNeAt.none_str b t
      | _ => cases hy
    | bl a =>
      rw [v_bl rx]
      cases y with
      | non => rw [v_non ry]; exact RcNeAt.bool_none a
      | bl b => rw [v_bl ry]; exact RcNeAt.bool_bool a b
      | int b => obtain ⟨t, rfl⟩ := v_int ry; exact RcNeAt.bool_int a b t
      | str b => obtain ⟨t, rfl⟩ := v_str ry; exact RcNeAt.bool_str a b t
      | _ => cases hy
    | int a =>
      obtain ⟨t0, rfl⟩ := v_int rx
      cases y with
      | non => rw [v_non ry]; exact RcNeAt.int_none a t0
      | bl b => rw [v_bl ry]; exact RcNeAt.int_bool a t0 b
      | int b => obtain ⟨t, rfl⟩ := v_int ry; exact RcNeAt.int_int a t0 b t
      | str b => obtain ⟨t, rfl⟩ := v_str ry; exact RcNeAt.int_str a t0 b t
      | _ => cases hy
    | str a =>
      obtain ⟨t0, rfl⟩ := v_str rx
      cases y with
      | non => rw [v_non ry]; exact RcNeAt.str_none a t0
      | bl b => rw [v_bl ry]; exact RcNeAt.str_bool a t0 b
      | int b => obtain ⟨t, rfl⟩ := v_int ry; exact RcNeAt.str_int a t0 b t
      | str b => obtain ⟨t, rfl⟩ := v_str ry; exact RcNeAt.str_str a t0 b t
      | _ => cases hy
    | _ => cases hx
  | succ n ih =>
    intro A x y u w hu hx hy rx ry
    have hu0 : A.units < cLine := by omega
    have hu1 : A.in1.units + n < cLine := by show A.units + 1 + n < cLine; omega
    cases x with
    | tup l =>
      obtain ⟨a, its, rfl, rl, p⟩ := rd_tup I rx
      cases y with
      | non => rw [v_non ry]; exact RcNeAt.tuple_none p hu0
      | bl b => rw [v_bl ry]; exact RcNeAt.tuple_bool b p hu0
      | int b => obtain ⟨t, rfl⟩ := v_int ry; exact RcNeAt.tuple_int b t p hu0
      | str b => obtain ⟨t, rfl⟩ := v_str ry; exact RcNeAt.tuple_str b t p hu0
      | tup m =>
        obtain ⟨b, its', rfl, rl', p'⟩ := rd_tup I ry
        have key : RcNeAt A s (.ref a) (.ref b) (!deq (.tup l) (.tup m)) := by
          have := RcNeAt.tuples (e := fun i => deq (l.getD i .non) (m.getD i .non)) p p' hu0 fun j h1 h2 => by
            have h1' : j < its.length := by simpa using h1
            have h2' : j < its'.length := by simpa using h2
            obtain ⟨x, ex, rx'⟩ := rl.get (List.getElem?_eq_getElem h1')
            obtain ⟨y, ey, ry'⟩ := rl'.get (List.getElem?_eq_getElem h2')
            have q := eq_core I n hu1 (List.all_eq_true.mp hx x (List.mem_of_getElem? ex)) (List.all_eq_true.mp hy y (List.mem_of_getElem? ey)) rx'.rd ry'.rd
            have e1 : l.getD j .non = x := by rw [List.getD_eq_getElem?_getD, ex]; rfl
            have e2 : m.getD j .non = y := by rw [List.getD_eq_getElem?_getD, ey]; rfl
            rw [e1, e2]
            simpa using q.1
          have e : deq (.tup l) (.tup m) = ((List.range (min its.toArray.size its'.toArray.size)).all (fun i => deq (l.getD i .non) (m.getD i .non)) && its.toArray.size == its'.toArray.size) := by
            simp only [deq, deqs_range, List.size_toArray, rl.length, rl'.length]
          rw [e]; exact this
        exact key
      | fls m =>
        obtain ⟨b, its', rfl, rl', p'⟩ := rd_lst I ry
        exact RcNeAt.tuple_list p p' hu0
      | _ => cases hy
    | fls l =>
      obtain ⟨a, its, rfl, rl, p⟩ := rd_lst I rx
      cases y with
      | non => rw [v_non ry]; exact RcNeAt.list_none p hu0
      | bl b => rw [v_bl ry]; exact RcNeAt.list_bool b p hu0
      | int b => obtain ⟨t, rfl⟩ := v_int ry; exact RcNeAt.list_int b t p hu0
      | str b => obtain ⟨t, rfl⟩ := v_str ry; exact RcNeAt.list_str b t p hu0
      | tup m =>
        obtain ⟨b, its', rfl, rl', p'⟩ := rd_tup I ry
        exact RcNeAt.list_tuple p p' hu0
      | fls m =>
        obtain ⟨b, its', rfl, rl', p'⟩ := rd_lst I ry
        have key : RcNeAt A s (.ref a) (.ref b) (!deq (.fls l) (.fls m)) := by
          by_cases hs : its.length = its'.length
          · have := RcNeAt.lists (e := fun i => deq (l.getD i .non) (m.getD i .non)) p p' (by simpa using hs) hu0 fun j h1 h2 => by
              have h1' : j < its.length := by simpa using h1
              have h2' : j < its'.length := by simpa using h2
              obtain ⟨x, ex, rx'⟩ := rl.get (List.getElem?_eq_getElem h1')
              obtain ⟨y, ey, ry'⟩ := rl'.get (List.getElem?_eq_getElem h2')
              have q := eq_core I n hu1 (List.all_eq_true.mp hx x (List.mem_of_getElem? ex)) (List.all_eq_true.mp hy y (List.mem_of_getElem? ey)) rx'.rd ry'.rd
              have e1 : l.getD j .non = x := by rw [List.getD_eq_getElem?_getD, ex]; rfl
              have e2 : m.getD j .non = y := by rw [List.getD_eq_getElem?_getD, ey]; rfl
              rw [e1, e2]
              simpa using q.1
            have e : deq (.fls l) (.fls m) = (List.range its.toArray.size).all (fun i => deq (l.getD i .non) (m.getD i .non)) := by
              have e0 : l.length = m.length := by rw [← rl.length, ← rl'.length]; exact hs
              simp [deq, deqs_range, rl.length, e0]
            rw [e]; exact this
          · have e : deq (.fls l) (.fls m) = false := by
              have e0 : l.length ≠ m.length := by rw [← rl.length, ← rl'.length]; exact hs
              simp [deq, deqs_range, e0]
            rw [e]
            exact RcNeAt.lists_lengths p p' (by simpa using hs) hu0
        exact key
      | _ => cases hy
    | ref a => cases hx
    | oth a => cases hx
    | non =>
      cases y with
      | tup m => obtain ⟨b, its', rfl, rl', p'⟩ := rd_tup I ry; rw [v_non rx]; exact RcNeAt.none_tuple p' hu0
      | fls m => obtain ⟨b, its', rfl, rl', p'⟩ := rd_lst I ry; rw [v_non rx]; exact RcNeAt.none_list p' hu0
      | ref a => cases hy
      | oth a => cases hy
      | _ => exact ih (by omega) (by cases n <;> rfl) (by cases n <;> rfl) rx ry
    | bl i =>
      cases y with
      | tup m => obtain ⟨b, its', rfl, rl', p'⟩ := rd_tup I ry; rw [v_bl rx]; exact RcNeAt.bool_tuple i p' hu0
      | fls m => obtain ⟨b, its', rfl, rl', p'⟩ := rd_lst I ry; rw [v_bl rx]; exact RcNeAt.bool_list i p' hu0
      | ref a => cases hy
      | oth a => cases hy
      | _ => exact ih (by omega) (by cases n <;> rfl) (by cases n <;> rfl) rx ry
    | int i =>
      cases y with
      | tup m => obtain ⟨b, its', rfl, rl', p'⟩ := rd_tup I ry; obtain ⟨t, rfl⟩ := v_int rx; exact RcNeAt.int_tuple i t p' hu0
      | fls m => obtain ⟨b, its', rfl, rl', p'⟩ := rd_lst I ry; obtain ⟨t, rfl⟩ := v_int rx; exact RcNeAt.int_list i t p' hu0
      | ref a => cases hy
      | oth a => cases hy
      | _ => exact ih (by omega) (by cases n <;> rfl) (by cases n <;> rfl) rx ry
    | str i =>
      cases y with
      | tup m => obtain ⟨b, its', rfl, rl', p'⟩ := rd_tup I ry; obtain ⟨t, rfl⟩ := v_str rx; exact RcNeAt.str_tuple i t p' hu0
      | fls m => obtain ⟨b, its', rfl, rl', p'⟩ := rd_lst I ry; obtain ⟨t, rfl⟩ := v_str rx; exact RcNeAt.str_list i t p' hu0
      | ref a => cases hy
      | oth a => cases hy
      | _ => exact ih (by omega) (by cases n <;> rfl) (by cases n <;> rfl) rx ry

def RDv (K : PySem.W.Frag) (H : Hp) (d : PV) (x : V) : Prop := match d with
  | .fls l => ∃ a vs, x = .ref a ∧ SqL K H a vs ∧ RPs K H l vs
  | d => RP K H d x
theorem RDv.rd {K : PySem.W.Frag} {d : PV} {x : V} {u : Value} (h : RDv K H d x) (r : L2.RelV x u) : RD K H d u := by
  cases d with
  | fls l => obtain ⟨a, vs, rfl, q, rr⟩ := h; cases r; exact ⟨a, vs, rfl, q, rr⟩
  | _ => exact ⟨x, h, r⟩
def withD (x : PV) (H : PHp) (k : PV → Prop) : Prop := match x with
  | .ref a => ∃ l, H a = some (.lst l) ∧ k (.fls l)
  | x => k x
theorem withD.ex {K : PySem.W.Frag} {σ' : St'} {x : PV} {v : V} {H' : PHp} {k : PV → Prop} (h : withD x H' k) (s : SR K B σ' H' σ H) (r : RP K H x v) : ∃ d, RDv K H d v ∧ k d := by
  cases x with
  | ref a =>
    obtain ⟨l, e, h⟩ := h
    obtain ⟨us, q, r2⟩ := s.hp _ _ e
    simp only [RP] at r
    exact ⟨.fls l, ⟨a, us, r, SqL.of q, r2⟩, h⟩
  | fls l =>
    simp only [RP] at r
    obtain ⟨a, us, e, q, r⟩ := r
    exact ⟨.fls l, ⟨a, us, e, q.sq, r⟩, h⟩
  | non => exact ⟨.non, r, h⟩
  | bl b => exact ⟨.bl b, r, h⟩
  | int b => exact ⟨.int b, r, h⟩
  | str b => exact ⟨.str b, r, h⟩
  | tup b => exact ⟨.tup b, r, h⟩
  | oth b => exact ⟨.oth b, r, h⟩
def rEqU (K : PySem.W.Frag) (g : Bool → Bool) : R2 := fun x y H Q => ∃ d1 d2, flat 9 d1 = true ∧ flat 9 d2 = true ∧ RDv K H d1 x ∧ RDv K H d2 y ∧ Q (.bl (g (deq d1 d2))) H
theorem op_eqU (hu : X.A.units + 64 < cLine) : OpR X (compareOp .Eq) (rEqU X.K fun b => b) := by
  intro pins s σ H x y v u Q I rx ry h
  obtain ⟨d1, d2, f1, f2, r1, r2, q⟩ := h
  exact (eq_core I 9 (by omega) f1 f2 (r1.rd rx) (r2.rd ry)).2 _ _ _ _ ⟨.bl _, H, I, rfl, q⟩
theorem op_neU (hu : X.A.units + 64 < cLine) : OpR X (compareOp .NotEq) (rEqU X.K fun b => !b) := by
  intro pins s σ H x y v u Q I rx ry h
  obtain ⟨d1, d2, f1, f2, r1, r2, q⟩ := h
  exact ne_core I 9 (by omega) f1 f2 (r1.rd rx) (r2.rd ry) _ _ _ _ ⟨.bl _, H, I, rfl, q⟩
def uEqG (g : Bool → Bool) : R2' := fun x y H Q => withD x H fun d1 => withD y H fun d2 => flat 9 d1 = true ∧ flat 9 d2 = true ∧ Q (.bl (g (deq d1 d2))) H
theorem vr_eq {K : PySem.W.Frag} {g : Bool → Bool} : VR K B (uEqG g) (rEqU K g) := by
  intro σ' σ H' H x' y' x y Q' Q s rx ry h k
  obtain ⟨d1, r1, h1⟩ := withD.ex h s rx
  obtain ⟨d2, r2, f1, f2, q⟩ := withD.ex h1 s ry
  exact ⟨d1, d2, f1, f2, r1, r2, k _ H' _ H q (by simp [RP]) s (Ev.refl _ _)⟩
def rInU (K : PySem.W.Frag) (g : Bool → Bool) : R2 := fun x y H Q => ∃ d p l us, flat 8 d = true ∧ RDv K H d x ∧ y = .ref p ∧ l.all (flat 8) = true ∧ RPs K H l us ∧ (SqL K H p us ∨ SqT K H p us) ∧ Q (.bl (g (l.any fun z => deq z d))) H
open Classical in
theorem in_items (I : Inv X pins σ H s) {A : Around} {d : PV} {v : Value} {l : List PV} {its : List Value} (hu : A.units + 20 < cLine) (fd : flat 8 d = true) (rd : RD X.K H d v) (fl : l.all (flat 8) = true) (rl : RL X.K H l its) :
    ∃ e : Value → Bool, (∀ y, y ∈ its.toArray → SeqAt.EqAt A.in1 s y v (e y)) ∧ its.toArray.any e = l.any fun z => deq z d := by
  refine ⟨fun u => decide (∃ z, flat 8 z = true ∧ RD X.K H z u ∧ deq z d = true), fun y hy => ?_, ?_⟩
  · have hy' : y ∈ its := by simpa using hy
    obtain ⟨i, hi⟩ := List.mem_iff_getElem?.mp hy'
    obtain ⟨z, ez, rz⟩ := rl.get hi
    have fz := List.all_eq_true.mp fl z (List.mem_of_getElem? ez)
    have q := (eq_core I 8 (A := A.in1) (by show A.units + 1 + 8 < cLine; omega) fz fd rz.rd rd).1
    have e : decide (∃ z, flat 8 z = true ∧ RD X.K H z y ∧ deq z d = true) = deq z d := by
      rw [Bool.eq_iff_iff, decide_eq_true_iff]
      constructor
      · rintro ⟨z', f', r', e'⟩
        rw [rd_inj I 8 fz f' rz.rd r']; exact e'
      · intro e; exact ⟨z, fz, rz.rd, e⟩
    show SeqAt.EqAt A.in1 s y v (decide _)
    rw [e]; exact q
  · rw [Bool.eq_iff_iff]
    simp only [List.any_toArray, List.any_eq_true, decide_eq_true_iff]
    constructor
    · rintro ⟨u, hu', z, fz, rz, ez⟩
      obtain ⟨i, hi⟩ := List.mem_iff_getElem?.mp hu'
      obtain ⟨z2, ez2, rz2⟩ := rl.get hi
      have fz2 := List.all_eq_true.mp fl z2 (List.mem_of_getElem? ez2)
      refine ⟨z2, List.mem_of_getElem? ez2, ?_⟩
      rw [rd_inj I 8 fz2 fz rz2.rd rz]; exact ez
    · rintro ⟨z, hz, ez⟩
      obtain ⟨i, hi⟩ := List.mem_iff_getElem?.mp hz
      have hlt : i < its.length := by
        have := (List.getElem?_eq_some_iff.mp hi).1
        rw [rl.length]; exact this
      obtain ⟨z2, ez2, rz2⟩ := rl.get (List.getElem?_eq_getElem hlt)
      rw [hi] at ez2; cases ez2
      exact ⟨_, List.getElem_mem hlt, z, List.all_eq_true.mp fl z hz, rz2.rd, ez⟩
theorem op_inU (hu : X.A.units + 64 < cLine) : OpR X (compareOp .In) (rInU X.K fun b => b) := by
  intro pins s σ H x y v u Q I rx ry h
  obtain ⟨d, p, l, us, fd, rd, rfl, fl, rl, hq, q⟩ := h
  cases ry
  rcases hq with hq | hq
  · obtain ⟨its, rv, pl, _⟩ := I.list hq
    obtain ⟨e, h1, h2⟩ := in_items I (A := X.A) (by omega) fd (rd.rd rx) fl ⟨us, rl, rv⟩
    exact SeqAt.in_listAt e pl.isList h1 (by rw [h2]; exact ⟨.bl _, H, I, rfl, q⟩)
  · obtain ⟨its, rv, pl, _⟩ := I.tuple hq
    obtain ⟨e, h1, h2⟩ := in_items I (A := X.A) (by omega) fd (rd.rd rx) fl ⟨us, rl, rv⟩
    exact SeqAt.in_tupleAt e pl h1 (by rw [h2]; exact ⟨.bl _, H, I, rfl, q⟩)
theorem op_notInU (hu : X.A.units + 64 < cLine) : OpR X (compareOp .NotIn) (rInU X.K fun b => !b) := by
  intro pins s σ H x y v u Q I rx ry h
  obtain ⟨d, p, l, us, fd, rd, rfl, fl, rl, hq, q⟩ := h
  cases ry
  rcases hq with hq | hq
  · obtain ⟨its, rv, pl, _⟩ := I.list hq
    obtain ⟨e, h1, h2⟩ := in_items I (A := X.A) (by omega) fd (rd.rd rx) fl ⟨us, rl, rv⟩
    exact SeqAt.notIn_listAt e pl.isList h1 (by rw [h2]; exact ⟨.bl _, H, I, rfl, q⟩)
  · obtain ⟨its, rv, pl, _⟩ := I.tuple hq
    obtain ⟨e, h1, h2⟩ := in_items I (A := X.A) (by omega) fd (rd.rd rx) fl ⟨us, rl, rv⟩
    exact SeqAt.notIn_tupleAt e pl h1 (by rw [h2]; exact ⟨.bl _, H, I, rfl, q⟩)
def uInG (g : Bool → Bool) : R2' := fun x y H Q => withD x H fun d => withS y H fun l => flat 8 d = true ∧ l.all (flat 8) = true ∧ Q (.bl (g (l.any fun z => deq z d))) H
theorem vr_in {K : PySem.W.Frag} {g : Bool → Bool} : VR K B (uInG g) (rInU K g) := by
  intro σ' σ H' H x' y' x y Q' Q s rx ry h k
  obtain ⟨d1, r1, h1⟩ := withD.ex h s rx
  obtain ⟨l, us, p, rfl, r2, hq, f1, f2, q⟩ := withS.ex h1 s ry
  exact ⟨d1, p, l, us, f1, r1, rfl, f2, r2, hq, k _ H' _ H q (by simp [RP]) s (Ev.refl _ _)⟩
def uIsN (g : Bool → Bool) : R2' := fun x y H Q => match y, x with
  | .non, .non => Q (.bl (g true)) H
  | .non, .oth _ => False
  | .non, _ => Q (.bl (g false)) H
  | _, _ => False
inductive BT where | non | bool | int | str | list | tuple
def BT.nm : BT → String | .non => "NoneType" | .bool => "bool" | .int => "int" | .str => "str" | .list => "list" | .tuple => "tuple"
def BT.sub : BT → BT → Bool
  | .non, .non => true | .bool, .bool => true | .int, .int => true | .str, .str => true | .list, .list => true | .tuple, .tuple => true
  | .bool, .int => true
  | _, _ => false
theorem kit_bt (K : PySem.W.Frag) (t c : BT) : PySem.W.kitOne K (.type t.nm) (.type c.nm) = some (t.sub c) := by
  cases t <;> cases c <;> kernel_rfl
def btV (K : PySem.W.Frag) (H : Hp) (t : BT) (x : V) : Prop := match t with
  | .non => x = .non
  | .bool => ∃ b, x = .bl b
  | .int => ∃ b, x = .int b
  | .str => ∃ b, x = .str b
  | .list => ∃ a us, x = .ref a ∧ SqL K H a us
  | .tuple => ∃ a us, x = .ref a ∧ SqT K H a us
theorem call_isiB (c : BT) : CallR X (.builtin "isinstance") (fun xs H Q => ∃ x t, xs = [x, .ty c.nm] ∧ btV X.K H t x ∧ Q (.bl (t.sub c)) H) := by
  intro pins s σ H xs us Q I r h
  obtain ⟨x, t, rfl, ht, q⟩ := h
  obtain ⟨u, w', rfl, rx, rc⟩ := vals2 r
  have e1 : w' = Value.type c.nm := rc
  subst e1
  have k := kit_bt X.K t c
  have fin : ∀ tk, EP X pins σ Q (.bool (t.sub c)) { s with toks := tk } := fun tk => ⟨.bl _, H, I.tok _, rfl, q⟩
  cases t with
  | non => cases (show x = V.non from ht); exact isinst_ok I rx .non k fin
  | bool => obtain ⟨b, rfl⟩ := ht; exact isinst_ok I rx (.bl b) k fin
  | int => obtain ⟨b, rfl⟩ := ht; exact isinst_ok I rx (.int b) k fin
  | str => obtain ⟨b, rfl⟩ := ht; exact isinst_ok I rx (.str b) k fin
  | list =>
    obtain ⟨a, us, rfl, hq⟩ := ht
    cases rx
    obtain ⟨its, rv, pl, _⟩ := I.list hq
    obtain ⟨o, e, hc, _⟩ := pl.isList
    exact PySem.W.kia_one PySem.W.kitx_list I.kIn ⟨o, e, hc⟩ k (fun z => nomatch z) fin
  | tuple =>
    obtain ⟨a, us, rfl, hq⟩ := ht
    cases rx
    obtain ⟨its, rv, pl, _⟩ := I.tuple hq
    obtain ⟨o, e, hc, _⟩ := pl
    exact PySem.W.kia_one PySem.W.kitx_tuple I.kIn ⟨o, e, hc⟩ k (fun z => nomatch z) fin
def withTy (x : PV) (H : PHp) (k : BT → Prop) : Prop := match x with
  | .non => k .non
  | .bl _ => k .bool
  | .int _ => k .int
  | .str _ => k .str
  | .tup _ => k .tuple
  | .fls _ => k .list
  | .ref a => ∃ l, H a = some (.lst l) ∧ k .list
  | _ => False
theorem withTy.ex {K : PySem.W.Frag} {σ' : St'} {x : PV} {v : V} {H' : PHp} {k : BT → Prop} (h : withTy x H' k) (s : SR K B σ' H' σ H) (r : RP K H x v) : ∃ t, btV K H t v ∧ k t := by
  cases x with
  | non => simp only [RP] at r; exact ⟨.non, r, h⟩
  | bl b => simp only [RP] at r; exact ⟨.bool, ⟨b, r⟩, h⟩
  | int b => simp only [RP] at r; exact ⟨.int, ⟨b, r⟩, h⟩
  | str b => simp only [RP] at r; exact ⟨.str, ⟨b, r⟩, h⟩
  | tup l => simp only [RP] at r; obtain ⟨a, us, e, q, _⟩ := r; exact ⟨.tuple, ⟨a, us, e, q⟩, h⟩
  | fls l => simp only [RP] at r; obtain ⟨a, us, e, q, _⟩ := r; exact ⟨.list, ⟨a, us, e, q.sq⟩, h⟩
  | ref a =>
    simp only [RP] at r
    obtain ⟨l, e, h⟩ := h
    obtain ⟨us, q, _⟩ := s.hp _ _ e
    exact ⟨.list, ⟨a, us, r, SqL.of q⟩, h⟩
  | oth _ => exact h.elim
def uIsi (c : BT) : List PV → PHp → VK' → Prop := fun xs H Q => match xs with
  | [x, .oth (.ty n)] => n = c.nm ∧ withTy x H fun t => Q (.bl (t.sub c)) H
  | _ => False
theorem vc_isi {K : PySem.W.Frag} (c : BT) : VC K B (uIsi c) (fun xs H Q => ∃ x t, xs = [x, .ty c.nm] ∧ btV K H t x ∧ Q (.bl (t.sub c)) H) := by
  intro σ' σ H' H xs' xs Q' Q s r h k
  unfold uIsi at h
  split at h
  · rename_i x n
    obtain ⟨rfl, h⟩ := h
    simp only [RPs, RP] at r
    obtain ⟨u, r1, rfl, rx, w, r2, rfl, rfl, rfl⟩ := r
    obtain ⟨t, bt, h⟩ := withTy.ex h s rx
    exact ⟨u, t, rfl, bt, k _ H' _ H h (by simp [RP]) s (Ev.refl _ _)⟩
  · exact h.elim
theorem qe_bty {x : Str} {n : String} {pos : Pos} (hg : Gl X x) (hm : X.mg x = none) (hv : bootBuiltins x = some (.type n)) (hn : x ≠ "__name__" := by decide) (hd : (x == ("__debug__" : Str)) = false := by decide) : PE' X B (.Name x pos) (uC (.oth (.ty n))) :=
  pe_imp (pe_bltn (v := .ty n) hg hm hv rfl hn hd) fun _ _ _ h => lowC (fun _ => by simp [RP]) h
variable {e o : Expr} {es : List Expr} {to : TE'} {t : TA'} {name : Str} {apos cpos : Pos}
def isL (x : PV) (H1 : PHp) : Prop := match x with
  | .ref a => ∃ l, H1 a = some (.lst l)
  | _ => False
def uBM (r : PV → List PV → PHp → VK' → Prop) (to : TE') (t : TA') : TE' := fun σ H Q => to σ H fun x H1 => isL x H1 ∧ t σ H1 fun xs H2 => r x xs H2 Q
def uBM0 (r : PV → List PV → PHp → VK' → Prop) (to : TE') : TE' := fun σ H Q => to σ H fun x H1 => r x [] H1 Q
def VM (K : PySem.W.Frag) (B : Bs) (r' : PV → List PV → PHp → VK' → Prop) (r : V → List V → Hp → VK → Prop) : Prop := ∀ (σ' : St') (σ : L2.St) (H' : PHp) (H : Hp) x' xs' x xs (Q' : VK') (Q : VK), SR K B σ' H' σ H → RP K H x' x → RPs K H xs' xs → r' x' xs' H' Q' →
  (∀ v' H1' v H1, Q' v' H1' → RP K H1 v' v → SR K B σ' H1' σ H1 → Ev H' H H1' H1 → Q v H1) → r x xs H Q
theorem low_bm {K : PySem.W.Frag} {r' : PV → List PV → PHp → VK' → Prop} {r : V → List V → Hp → VK → Prop} (v : VM K B r' r) {σ : L2.St} {H : Hp} {Q : VK} (h : low K B (uBM r' to t) σ H Q) : tBM K "list" r (low K B to) (lowA K B t) σ H Q := by
  obtain ⟨σ', H', Q', s, h, k⟩ := h
  refine ⟨σ', H', _, s, h, fun x' H1' x H1 h1 rx s1 e1 => ?_⟩
  obtain ⟨ty, h1⟩ := h1
  constructor
  · cases x' with
    | ref a =>
      obtain ⟨l, e⟩ := ty
      obtain ⟨us, q, _⟩ := s1.hp _ _ e
      simp only [RP] at rx
      subst rx
      exact .inl ⟨rfl, us, SqL.of q⟩
    | _ => exact ty.elim
  · refine ⟨σ', H1', _, s1, h1, fun xs' H2' xs H2 h2 r2 s2 e2 => ?_⟩
    exact v σ' σ H2' H2 x' xs' x xs Q' Q s2 (RP.kp K (e2.kp s1.hp) rx) r2 h2 fun v' H3' v H3 q rv s3 e3 => k v' H3' v H3 q rv s3 (e1.trans (e2.trans e3))
theorem qe_bm {id : String} {r' : PV → List PV → PHp → VK' → Prop} {r : V → List V → Hp → VK → Prop} (slot : Slot "list" name id) (hty : typeOf (.builtin id) = pure (.type "method_descriptor")) (hm : MtR X id r) (v : VM X.K B r' r) (ho : PE' X B o to) (ha : PA' X B (e :: es) t)
    (hbase : attributeBase o name X.env (eval o X.env) = eval o X.env := by rfl)
    (hfew : ((backTo cpos (starEach (e :: es) X.env)).all (fun x => !x.1) && (backToKw cpos (keywordEach [] X.env)).all (fun x => x.1.isSome)
      && decide ((e :: es).length + ([] : List Keyword).length + (if ([] : List Keyword).isEmpty then 0 else 1) < 30)) = true := by rfl)
    (hline : (apos.endLine == cpos.line) = true := by rfl) (hs : starEach (e :: es) X.env = (false, eval e X.env) :: starEach es X.env := by rfl) (hplain : (backTo cpos (starEach es X.env)).any (·.1) = false := by rfl) :
    PE' X B (.Call (.Attribute o name apos) (e :: es) [] cpos) (uBM r' to t) := pe_imp (pe_bm PySem.F.plainAttrs_list slot hty hm ho ha hbase hfew hline hs hplain) fun _ _ _ h => low_bm v h
theorem qe_bm0 {id : String} {r' : PV → List PV → PHp → VK' → Prop} {r : V → List V → Hp → VK → Prop} (slot : Slot "list" name id) (hty : typeOf (.builtin id) = pure (.type "method_descriptor")) (hm : MtR X id r) (v : VM X.K B r' r)
    (hl : ∀ x H Q, r' x [] H Q → match x with | .ref a => ∃ l, H a = some (.lst l) | _ => False) (ho : PE' X B o to)
    (hbase : attributeBase o name X.env (eval o X.env) = eval o X.env := by rfl) (hline : (apos.endLine == cpos.line) = true := by rfl) :
    PE' X B (.Call (.Attribute o name apos) [] [] cpos) (uBM0 r' to) := pe_imp (pe_bm0 PySem.F.plainAttrs_list slot hty hm ho hbase hline) fun σ H Q h => by
  obtain ⟨σ', H', Q', s, h, k⟩ := h
  refine ⟨σ', H', _, s, h, fun x' H1' x H1 h1 rx s1 e1 => ?_⟩
  constructor
  · have ty := hl _ _ _ h1
    cases x' with
    | ref a =>
      obtain ⟨l, e⟩ := ty
      obtain ⟨us, q, _⟩ := s1.hp _ _ e
      simp only [RP] at rx
      subst rx
      exact .inl ⟨rfl, us, SqL.of q⟩
    | _ => exact ty.elim
  · exact v σ' σ H1' H1 x' [] x [] Q' Q s1 rx (RPs.nil _) h1 fun v' H3' v H3 q rv s3 e3 => k v' H3' v H3 q rv s3 (e1.trans e3)
def uAppend : PV → List PV → PHp → VK' → Prop := fun x vs H Q => match x, vs with
  | .ref a, [y] => ∃ l, H a = some (.lst l) ∧ l.length < sizeLine ∧ Q .non (put H a (.lst (l ++ [y])))
  | _, _ => False
theorem vm_append {K : PySem.W.Frag} : VM K B uAppend rAppend := by
  intro σ' σ H' H x' xs' x xs Q' Q s rx r h k
  unfold uAppend at h
  split at h
  · rename_i a y
    obtain ⟨l, e, hl, h⟩ := h
    obtain ⟨us, q, r2⟩ := s.hp _ _ e
    simp only [RP, RPs] at rx r
    obtain ⟨u, r1, rfl, ru, rfl⟩ := r
    subst rx
    exact ⟨a, us, u, rfl, rfl, q, by rw [RPs.length _ r2]; exact hl, k _ _ _ _ h (by simp [RP]) (s.wr e (wrL s.hp e (RPs.append _ r2 (RPs.cons _ ru (RPs.nil _))))) (Ev.wr e)⟩
  · exact h.elim
def uExtend : PV → List PV → PHp → VK' → Prop := fun x vs H Q => match x, vs with
  | .ref a, [.ref b] => ∃ l m, H a = some (.lst l) ∧ H b = some (.lst m) ∧ l.length + m.length ≤ sizeLine ∧ Q .non (put H a (.lst (l ++ m)))
  | _, _ => False
def uPop : PV → List PV → PHp → VK' → Prop := fun x vs H Q => match x, vs with
  | .ref a, [] => ∃ l y, H a = some (.lst l) ∧ l[l.length - 1]? = some y ∧ Q y (put H a (.lst l.dropLast))
  | _, _ => False
theorem vm_pop {K : PySem.W.Frag} : VM K B uPop rPop := by
  intro σ' σ H' H x' xs' x xs Q' Q s rx r h k
  unfold uPop at h
  split at h
  · rename_i a
    obtain ⟨l, y, e, hl, h⟩ := h
    obtain ⟨us, q, r2⟩ := s.hp _ _ e
    simp only [RP, RPs] at rx r
    subst rx; subst r
    obtain ⟨u, e1, e2⟩ := RPs.get _ r2 hl
    exact ⟨a, us, u, rfl, rfl, q, by rw [RPs.length _ r2]; exact e1, k _ _ _ _ h (RP.kp _ (s.hp.kpw e) e2) (s.wr e (wrL s.hp e (RPs.dropLast _ r2))) (Ev.wr e)⟩
  · exact h.elim
end
end U


set_option linter.all false
set_option maxRecDepth 100000
set_option maxHeartbeats 4000000
namespace U
open PySem L2
variable {B : Bs}
theorem rngL_drop (lo : Int) (n i : Nat) (h : i < n) : (rngL lo n).drop i = PV.int (lo + (i : Nat)) :: (rngL lo n).drop (i + 1) := by
  have hl : i < (rngL lo n).length := by simpa [rngL] using h
  rw [List.drop_eq_getElem_cons hl]
  simp [rngL]
theorem rngL_end (lo : Int) (n : Nat) : (rngL lo n).drop n = [] := by
  apply List.drop_of_length_le
  simp [rngL]
theorem for_rng {ok : PHp → Prop} {g : TG'} {tb : TS'} {D : Ends'} {lo : Int} {n : Nat} (Pv : Nat → St' → PHp → Prop) (hd : ∀ σ H, Pv n σ H → ok H ∧ D.nx σ H)
    (hs : ∀ (G : St' → PHp → Prop) i σ H, i < n → Pv i σ H → (∀ σ' H', Pv (i + 1) σ' H' → G σ' H') → ok H ∧ g (.int (lo + (i : Nat))) σ H fun σ2 H2 => tb { D with nx := G, ct := G, bk := D.nx } σ2 H2)
    {σ : St'} {H : PHp} (h0 : Pv 0 σ H) : uForL ok g tb D (rngL lo n) σ H := by
  have key : ∀ (k i : Nat) {σ : St'} {H : PHp}, i + k = n → Pv i σ H → uForL ok g tb D ((rngL lo n).drop i) σ H := by
    intro k
    induction k with
    | zero =>
      intro i σ H hk p
      have : i = n := hk
      subst this
      rw [rngL_end]
      exact hd σ H p
    | succ k ih =>
      intro i σ H hk p
      have hi : i < n := hk ▸ Nat.lt_add_of_pos_right (Nat.succ_pos k)
      rw [rngL_drop lo n i hi]
      exact hs _ i σ H hi p fun σ' H' p' => ih (i + 1) ((Nat.succ_add_eq_add_succ i k).trans hk) p'
  exact key n 0 (Nat.zero_add n) h0
theorem for_at {ok : PHp → Prop} {g : TG'} {tb : TS'} {D : Ends'} {xs : List PV} (Pv : Nat → St' → PHp → Prop) (hd : ∀ σ H, Pv xs.length σ H → ok H ∧ D.nx σ H)
    (hs : ∀ (G : St' → PHp → Prop) i x σ H, xs[i]? = some x → Pv i σ H → (∀ σ' H', Pv (i + 1) σ' H' → G σ' H') → ok H ∧ g x σ H fun σ2 H2 => tb { D with nx := G, ct := G, bk := D.nx } σ2 H2)
    {σ : St'} {H : PHp} (h0 : Pv 0 σ H) : uForL ok g tb D xs σ H := by
  have key : ∀ (k i : Nat) {σ : St'} {H : PHp}, xs.length - i = k → i ≤ xs.length → Pv i σ H → uForL ok g tb D (xs.drop i) σ H := by
    intro k
    induction k with
    | zero =>
      intro i σ H hk hi p
      have : i = xs.length := by omega
      subst this
      rw [List.drop_length]
      exact hd σ H p
    | succ k ih =>
      intro i σ H hk hi p
      have hl : i < xs.length := by omega
      rw [List.drop_eq_getElem_cons hl]
      exact hs _ i _ σ H (List.getElem?_eq_getElem hl) p fun σ' H' p' => ih (i + 1) (by omega) (by omega) p'
  have := key xs.length 0 (by omega) (by omega) h0
  simpa using this
theorem atI_int {m : List Int} {z : Int} (h0 : 0 ≤ z) (h1 : z < m.length) : atI (m.map PV.int) z = some (.int (m.getD z.toNat 0)) := by
  unfold atI ixN
  rw [if_pos h0, List.length_map, if_pos h1]
  show (m.map PV.int)[z.toNat]? = _
  rw [List.getElem?_map, List.getD_eq_getElem?_getD]
  have : z.toNat < m.length := by omega
  rw [List.getElem?_eq_getElem this]
  rfl
theorem w_V {v : PV} {k : PV → Prop} : withV (some (some v)) k = k v := rfl
theorem w_B {b : Bool} {k : Bool → Prop} : withB (.bl b) k = k b := rfl
theorem w_I {b : Int} {k : Int → Prop} : withI (.int b) k = k b := rfl
theorem w_O {b : PV} {k : PV → Prop} : withO (some b) k = k b := rfl
theorem w_St {l : List PV} {H : PHp} {k : List PV → Prop} : withS (.tup l) H k = k l := rfl
theorem w_Sf {l : List PV} {H : PHp} {k : List PV → Prop} : withS (.fls l) H k = k l := rfl
theorem w_Sr {a : Addr} {H : PHp} {k : List PV → Prop} : withS (.ref a) H k = ∃ l, H a = some (.lst l) ∧ k l := rfl
theorem w_Dr {a : Addr} {H : PHp} {k : PV → Prop} : withD (.ref a) H k = ∃ l, H a = some (.lst l) ∧ k (.fls l) := rfl
theorem w_Dn {H : PHp} {k : PV → Prop} : withD .non H k = k .non := rfl
theorem w_Db {b : Bool} {H : PHp} {k : PV → Prop} : withD (.bl b) H k = k (.bl b) := rfl
theorem w_Di {b : Int} {H : PHp} {k : PV → Prop} : withD (.int b) H k = k (.int b) := rfl
theorem w_Ds {b : Str} {H : PHp} {k : PV → Prop} : withD (.str b) H k = k (.str b) := rfl
theorem w_Dt {b : List PV} {H : PHp} {k : PV → Prop} : withD (.tup b) H k = k (.tup b) := rfl
theorem w_Df {b : List PV} {H : PHp} {k : PV → Prop} : withD (.fls b) H k = k (.fls b) := rfl
theorem w_Tn {H : PHp} {k : BT → Prop} : withTy .non H k = k .non := rfl
theorem w_Tb {b : Bool} {H : PHp} {k : BT → Prop} : withTy (.bl b) H k = k .bool := rfl
theorem w_Ti {b : Int} {H : PHp} {k : BT → Prop} : withTy (.int b) H k = k .int := rfl
theorem w_Ts {b : Str} {H : PHp} {k : BT → Prop} : withTy (.str b) H k = k .str := rfl
theorem w_Tt {b : List PV} {H : PHp} {k : BT → Prop} : withTy (.tup b) H k = k .tuple := rfl
theorem w_Tf {b : List PV} {H : PHp} {k : BT → Prop} : withTy (.fls b) H k = k .list := rfl
theorem w_Tr {a : Addr} {H : PHp} {k : BT → Prop} : withTy (.ref a) H k = ∃ l, H a = some (.lst l) ∧ k .list := rfl
theorem w_Ni {b : Int} {k : Int → Prop} : intOf (.int b) k = k b := rfl
theorem w_Nb {b : Bool} {k : Int → Prop} : intOf (.bl b) k = k (b2n b) := rfl
theorem w_Lf {l : List PV} {lo hi : Option Int} {H : PHp} {Q : VK'} : sliceOf (.fls l) lo hi H Q = ∀ p, H p = none → Q (.ref p) (put H p (.lst (cutP l lo hi))) := rfl
theorem w_Lr {a : Addr} {lo hi : Option Int} {H : PHp} {Q : VK'} : sliceOf (.ref a) lo hi H Q = ∃ l, H a = some (.lst l) ∧ ∀ p, H p = none → Q (.ref p) (put H p (.lst (cutP l lo hi))) := rfl
theorem w_Lt {l : List PV} {lo hi : Option Int} {H : PHp} {Q : VK'} : sliceOf (.tup l) lo hi H Q = (¬ (HT.sIx l.length 0 lo = 0 ∧ HT.sIx l.length l.length hi = l.length) ∧ Q (.tup (cutP l lo hi)) H) := rfl
theorem w_Xt {l : List PV} {H : PHp} {R : It' → PHp → Prop} : itOf (.tup l) H R = R ⟨l, fun _ => True⟩ H := rfl
theorem w_Xf {l : List PV} {H : PHp} {R : It' → PHp → Prop} : itOf (.fls l) H R = R ⟨l, fun _ => True⟩ H := rfl
theorem w_Xr {a : Addr} {H : PHp} {R : It' → PHp → Prop} : itOf (.ref a) H R = ∃ l, H a = some (.lst l) ∧ R ⟨l, fun H => H a = some (.lst l)⟩ H := rfl
theorem w_1 {f : PV → PHp → VK' → Prop} {x : PV} {H : PHp} {Q : VK'} : arg1 f [x] H Q = f x H Q := rfl
theorem w_isi {c : BT} {x : PV} {n : String} {H : PHp} {Q : VK'} : uIsi c [x, .oth (.ty n)] H Q = (n = c.nm ∧ withTy x H fun t => Q (.bl (t.sub c)) H) := rfl
theorem w_n0 {g : Bool → Bool} {H : PHp} {Q : VK'} : uIsN g .non .non H Q = Q (.bl (g true)) H := rfl
theorem w_n1 {g : Bool → Bool} {a : Addr} {H : PHp} {Q : VK'} : uIsN g (.ref a) .non H Q = Q (.bl (g false)) H := rfl
theorem w_n2 {g : Bool → Bool} {l : List PV} {H : PHp} {Q : VK'} : uIsN g (.tup l) .non H Q = Q (.bl (g false)) H := rfl
theorem w_n3 {g : Bool → Bool} {l : Int} {H : PHp} {Q : VK'} : uIsN g (.int l) .non H Q = Q (.bl (g false)) H := rfl
theorem w_n4 {g : Bool → Bool} {l : Bool} {H : PHp} {Q : VK'} : uIsN g (.bl l) .non H Q = Q (.bl (g false)) H := rfl
theorem w_vt {n : Nat} {t : TGs'} {l : List PV} {σ : St'} {H : PHp} {Q : St' → PHp → Prop} : vTup n t (.tup l) σ H Q = (l.length = n ∧ t l σ H Q) := rfl
theorem w_vc {t : TG'} {u : TGs'} {v : PV} {r : List PV} {σ : St'} {H : PHp} {Q : St' → PHp → Prop} : vCons t u (v :: r) σ H Q = t v σ H fun σ' H' => u r σ' H' Q := rfl
theorem w_vn {σ : St'} {H : PHp} {Q : St' → PHp → Prop} : vNil [] σ H Q = (True ∧ Q σ H) := by simp [vNil]
theorem w_r1 {t : TA'} {σ : St'} {H : PHp} {R : It' → PHp → Prop} : uRng1 t σ H R = t σ H fun vs H1 => rng1 vs H1 R := rfl
theorem w_r1' {j : Int} {H1 : PHp} {R : It' → PHp → Prop} : rng1 [.int j] H1 R = ((-(2 ^ 62) ≤ j ∧ j < 2 ^ 62) ∧ R ⟨rngL 0 j.toNat, fun _ => True⟩ H1) := rfl
theorem w_r2 {t : TA'} {σ : St'} {H : PHp} {R : It' → PHp → Prop} : uRng2 t σ H R = t σ H fun vs H1 => rng2 vs H1 R := rfl
theorem w_r2' {i j : Int} {H1 : PHp} {R : It' → PHp → Prop} : rng2 [.int i, .int j] H1 R = ((-(2 ^ 62) ≤ i ∧ i < 2 ^ 62 ∧ -(2 ^ 62) ≤ j ∧ j < 2 ^ 62) ∧ R ⟨rngL i (j - i).toNat, fun _ => True⟩ H1) := rfl
theorem w_ap {a : Addr} {y : PV} {H : PHp} {Q : VK'} : uAppend (.ref a) [y] H Q = ∃ l, H a = some (.lst l) ∧ l.length < sizeLine ∧ Q .non (put H a (.lst (l ++ [y]))) := rfl
theorem w_ex {a b : Addr} {H : PHp} {Q : VK'} : uExtend (.ref a) [.ref b] H Q = ∃ l m, H a = some (.lst l) ∧ H b = some (.lst m) ∧ l.length + m.length ≤ sizeLine ∧ Q .non (put H a (.lst (l ++ m))) := rfl
theorem w_po {a : Addr} {H : PHp} {Q : VK'} : uPop (.ref a) [] H Q = ∃ l y, H a = some (.lst l) ∧ l[l.length - 1]? = some y ∧ Q y (put H a (.lst l.dropLast)) := rfl
theorem w_bm {r : PV → List PV → PHp → VK' → Prop} {to : TE'} {t : TA'} {σ : St'} {H : PHp} {Q : VK'} : uBM r to t σ H Q = to σ H fun x H1 => isL x H1 ∧ t σ H1 fun xs H2 => r x xs H2 Q := rfl
theorem w_il {a : Addr} {H : PHp} : isL (.ref a) H = ∃ l, H a = some (.lst l) := rfl
theorem small_size {n : Nat} (h : n ≤ 1000) : n ≤ sizeLine := Nat.le_of_lt (small1000 h)
end U
namespace U
open PySem L2
theorem seq_abs {t u : TS'} {D : Ends'} {σ : St'} {H : PHp} (h : ∀ R : TS', R = u → uSeq t R D σ H) : uSeq t u D σ H := h u rfl
end U


set_option linter.all false
set_option maxRecDepth 100000
set_option maxHeartbeats 4000000
namespace U
open PySem PySem.Spec PyProof.Rows L2
variable {B : Bs}
section
variable {X : Cx} {pins : List (Addr × Obj)} {σ : L2.St} {H H' : Hp} {s : Shared} {h' : Heap} {a C T : Addr} {fl : Value}
variable {M : Model} {E : Value → Shared → Prop} {Q : Unit → Shared → Prop}
end
end U


set_option linter.all false
set_option maxHeartbeats 4000000
set_option maxRecDepth 100000
namespace U
open PySem PySem.Spec PyProof.Rows L2 PySem.W
section
variable {prog : Program} {w : World} {A : Around} {E : Value → Shared → Prop} {h : Heap} {g : Array GenState} {d : Drawn} {t : Nat} {os : OsState} {a C : Addr} {o : Obj} {K : Frag}
end
end U


set_option linter.all false
set_option maxRecDepth 100000
set_option maxHeartbeats 4000000
namespace U
open PySem PySem.Spec PyProof.Rows L2
variable {B : Bs}
section
variable {P : Program} {w : World} {K : PySem.W.Frag} {mg : Str → Option Value} {base : Heap}
end
section
variable {X : Cx} {k : Nat} {f C D : Addr} {fd : FuncData} {ps : List Str} {sp : Sp'} {E : XK} {E' : XK'} {x m n : Str} {p np pos apos cpos : Pos} {e o : Expr} {es : List Expr} {ta : TE'} {t : TA'}
end
end U


set_option linter.all false
set_option maxRecDepth 100000
set_option maxHeartbeats 4000000
namespace U
open PySem PySem.Spec PyProof.Rows L2
variable {B : Bs}
section
variable {X : Cx} {pins : List (Addr × Obj)} {σ : L2.St} {H : Hp} {s : Shared} {a C T : Addr} {fl : Value}
abbrev mk (X : Cx) (e : Value) : Cx := { X with A := X.A.mark (some e), calm := false, xe := fun _ _ => False }
end
end U


set_option linter.all false
set_option maxRecDepth 100000
set_option maxHeartbeats 4000000
namespace U
open PySem PySem.Spec PyProof.Rows L2
variable {B : Bs}
section
variable {X : Cx} {k : Nat} {f C D : Addr} {fd : FuncData} {ps : List Str} {sp : Sp'} {x m n : Str} {p np pos apos cpos : Pos} {e o : Expr} {es : List Expr} {ta : TE'} {t : TA'}
end
end U


set_option linter.all false
set_option maxRecDepth 100000
set_option maxHeartbeats 4000000
namespace U
open PySem L2
end U
namespace U
open PySem L2
def pairs : List (Str × TE') → List Bool → List PV
  | (n, _) :: r, b :: bs => .tup [.str n, .bl b] :: pairs r bs
  | _, _ => []
end U
namespace U
open PySem
theorem len0 {P : List Value → Prop} (h : P []) (us : List Value) (hl : us.length = 0) : P us := by
  cases us with
  | nil => exact h
  | cons a r => exact absurd hl (Nat.succ_ne_zero _)
theorem len1 {P : List Value → Prop} (h : ∀ a, P [a]) (us : List Value) (hl : us.length = 1) : P us := by
  cases us with
  | nil => exact absurd hl.symm (Nat.succ_ne_zero _)
  | cons a r => exact len0 (P := fun r => P (a :: r)) (h a) r (Nat.succ.inj hl)
theorem len2 {P : List Value → Prop} (h : ∀ a b, P [a, b]) (us : List Value) (hl : us.length = 2) : P us := by
  cases us with
  | nil => exact absurd hl.symm (Nat.succ_ne_zero _)
  | cons a r => exact len1 (P := fun r => P (a :: r)) (h a) r (Nat.succ.inj hl)
theorem len3 {P : List Value → Prop} (h : ∀ a b c, P [a, b, c]) (us : List Value) (hl : us.length = 3) : P us := by
  cases us with
  | nil => exact absurd hl.symm (Nat.succ_ne_zero _)
  | cons a r => exact len2 (P := fun r => P (a :: r)) (h a) r (Nat.succ.inj hl)
end U
namespace U
open PySem PySem.Spec PyProof.Rows L2
variable {B : Bs} {X : Cx}
end U


set_option linter.all false
set_option maxRecDepth 100000
set_option maxHeartbeats 4000000
namespace L2
open PySem PySem.Spec PyProof.Rows
def compCx (X : Cx) (N2 : List Str) (scope : Scope) (cl : List (Str × Addr)) (s0 : Shared) (H0 : Hp) (fp : List Addr) (ps : List (Addr × Obj)) : Cx :=
  { X with N := N2, s₀ := s0, H₀ := H0, env := compEnvC scope cl s0.heap.objs.size X.env, outer := X.stack, stack := X.stack, ex := fp, fn := fun x => (cl.lookup x).isNone, pn := ps, xe := fun _ _ => False }
def sig0 (nt : Nat) (js : List Nat) (σ : St) : St := List.replicate nt none ++ js.map fun j => (σ[j]?).join
theorem lookup_relabel_free {env : Env} : ∀ {names : List (Str × NameKind)} {x : Str}, names.lookup x = some .free →
    (names.map fun (n, k) => if (k == NameKind.free && env.scope.kind == .function && env.kindOf n == some .cell) then (n, NameKind.cell) else (n, k)).lookup x = some .cell ∨
    (names.map fun (n, k) => if (k == NameKind.free && env.scope.kind == .function && env.kindOf n == some .cell) then (n, NameKind.cell) else (n, k)).lookup x = some .free
  | [], _, h => by simp at h
  | (n, k) :: r, x, h => by
    have ih := @lookup_relabel_free env r x
    show List.lookup x ((if (k == NameKind.free && env.scope.kind == .function && env.kindOf n == some .cell) = true then (n, NameKind.cell) else (n, k)) :: _) = _ ∨ List.lookup x ((if (k == NameKind.free && env.scope.kind == .function && env.kindOf n == some .cell) = true then (n, NameKind.cell) else (n, k)) :: _) = _
    cases hx : x == n with
    | true =>
      simp only [List.lookup_cons, hx] at h
      cases h
      by_cases hc : (NameKind.free == NameKind.free && env.scope.kind == .function && env.kindOf n == some .cell) = true
      · rw [if_pos hc]; simp [List.lookup_cons, hx]
      · rw [if_neg hc]; simp [List.lookup_cons, hx]
    | false =>
      simp only [List.lookup_cons, hx] at h
      by_cases hc : (k == NameKind.free && env.scope.kind == .function && env.kindOf n == some .cell) = true
      · rw [if_pos hc]; simp only [List.lookup_cons, hx]; exact ih h
      · rw [if_neg hc]; simp only [List.lookup_cons, hx]; exact ih h
structure CompOk (X : Cx) (N2 : List Str) (nt : Nat) (js : List Nat) (scope : Scope) (cl : List (Str × Addr)) (sc : Scope) : Prop where
  clos : closureFor scope X.env = pure cl
  sub : ∀ x c, cl.lookup x = some c → X.env.cells.lookup x = some c
  xsc : X.env.scope = sc
  kind : scope.kind = .function
  nocell : ∀ y ∈ scope.names, y.2 ≠ .cell
  loc : ∀ y ∈ scope.names, y.2 = .local → scope.names.lookup y.1 = some .local
  has : ∀ y ∈ scope.names, y.2 = .free → y.1 ∈ cl.map (·.1)
  frs : ∀ x ∈ N2.drop nt, scope.names.lookup x = some .free ∧ sc.names.lookup x = some .cell
  len : N2.length = nt + js.length
  pl : ∀ (k j : Nat), js[k]? = some j → X.N[j]? = N2[nt + k]?
theorem mem_lookup {α : Type} : ∀ {l : List (Str × α)} {x : Str}, x ∈ l.map (·.1) → ∃ c, l.lookup x = some c
  | [], _, h => by simp at h
  | (n, k) :: r, x, h => by
    cases hx : x == n with
    | true => exact ⟨k, by simp [List.lookup_cons, hx]⟩
    | false =>
      have h' : x = n ∨ x ∈ r.map (·.1) := by simpa using h
      have hn : x ≠ n := by intro e; subst e; simp at hx
      obtain ⟨c, e⟩ := mem_lookup (h'.resolve_left hn)
      exact ⟨c, by simp [List.lookup_cons, hx, e]⟩
theorem lookup_mem {α : Type} : ∀ {l : List (Str × α)} {x : Str} {c : α}, l.lookup x = some c → (x, c) ∈ l
  | [], _, _, h => by simp at h
  | (n, k) :: r, x, c, h => by
    cases hx : x == n with
    | true =>
      simp only [List.lookup_cons, hx] at h
      have e : x = n := by simpa using hx
      cases h; subst e; exact List.mem_cons_self
    | false =>
      simp only [List.lookup_cons, hx] at h
      exact List.mem_cons_of_mem _ (lookup_mem h)
section
variable {X : Cx} {pins : List (Addr × Obj)} {σ : St} {H : Hp} {s : Shared} {N2 : List Str} {nt : Nat} {js : List Nat} {scope sc : Scope} {cl : List (Str × Addr)} {fp : List Addr}
theorem CompOk.kindOf (O : CompOk X N2 nt js scope cl sc) {x : Str} {C : Addr} (h : (compEnvC scope cl C X.env).kindOf x = some .cell ∨ (compEnvC scope cl C X.env).kindOf x = some .free) : ∃ c, cl.lookup x = some c := by
  have h' : (relabel scope X.env).names.lookup x = some .cell ∨ (relabel scope X.env).names.lookup x = some .free := h
  have key : ∀ (k : NameKind), (relabel scope X.env).names.lookup x = some k → (k = .cell ∨ k = .free) → ∃ y ∈ scope.names, y.1 = x ∧ (y.2 = .cell ∨ y.2 = .free) := fun k e hk => by
    have m := lookup_mem e
    obtain ⟨⟨n, k'⟩, hm, e'⟩ := List.mem_map.mp m
    by_cases hc : (k' == NameKind.free && X.env.scope.kind == .function && X.env.kindOf n == some .cell) = true
    · simp only [hc, if_true] at e'
      have e1 : n = x := congrArg Prod.fst e'
      refine ⟨(n, k'), hm, e1, .inr ?_⟩
      rw [Bool.and_eq_true, Bool.and_eq_true] at hc
      exact beq_iff_eq.mp hc.1.1
    · have e'' : (n, k') = (x, k) := by
        dsimp only at e'
        rw [if_neg hc] at e'
        exact e'
      cases e''
      exact ⟨(x, k), hm, rfl, hk⟩
  obtain ⟨y, hy, rfl, hk⟩ := h'.elim (fun e => key _ e (.inl rfl)) fun e => key _ e (.inr rfl)
  rcases hk with hk | hk
  · exact absurd hk (O.nocell y hy)
  · exact mem_lookup (O.has y hy hk)
theorem compCx_ok (O : CompOk X N2 nt js scope cl sc) (I : Inv X pins σ H s) (hf : ∀ b ∈ fp, FpOk X pins H b) (hlt : ∀ b ∈ fp, b < s.heap.objs.size) : (compCx X N2 scope cl s H fp (X.pn ++ pins)).Ok where
  mod := I.ok.mod
  kind := O.kind
  glob := I.ok.glob
  blt := I.ok.blt
  above := Nat.le_refl _
  inj := fun x y c h1 h2 => I.ok.inj x y c (O.sub x c h1) (O.sub y c h2)
  has := fun x h => O.kindOf h
  cab := fun x c h1 h2 => by
    have h1' : (cl.lookup x).isNone = true := h1
    have h2' : cl.lookup x = some c := h2
    rw [h2'] at h1'; cases h1'
  hd := I.ok.hd
  frames := I.ok.frames
  stk := .inl rfl
  exf := fun b hb => ⟨Nat.ne_of_lt (hlt b hb), fun x c e => (hf b hb).2.2.2.2.1 x c (O.sub x c e)⟩
  bs := I.bs
  bsz := Nat.le_trans I.ok.bsz I.sz
  noex := fun b o e hb => by
    obtain ⟨_, _, _, h3, _⟩ := hf b hb
    rcases h3 with h3 | h3
    · exact I.ok.noex b o e h3
    · exact absurd (Nat.lt_of_lt_of_le (Heap.lt_size (I.ok.bs b o e).1) h3) (Nat.lt_irrefl _)
  exfs := fun b hb hs => by
    obtain ⟨_, h1, h2, _⟩ := hf b hb
    rcases List.mem_cons.mp (I.stkSub b hs) with e | e
    · exact h1 e
    · exact h2 e
  funs := I.stack
  frf := I.stkFree
theorem comp_start (O : CompOk X N2 nt js scope cl sc) (I : Inv X pins σ H s) (hf : ∀ b ∈ fp, FpOk X pins H b) (hlt : ∀ b ∈ fp, b < s.heap.objs.size) {h4 : Heap} {t4 : Nat} (hn : h4.Ns s.heap.objs.size fun _ => none)
    (hk : ∀ b o, s.heap.get? b = some o → h4.get? b = some o) : Inv (compCx X N2 scope cl s H fp (X.pn ++ pins)) [] (sig0 nt js σ) H { s with heap := h4, toks := t4 } := by
  refine ⟨compCx_ok O I hf hlt, rfl, I.bare, Un.kept hk, ⟨_, hn, fun i x v e1 e2 e3 => ?_⟩, fun x c e => ?_, I.hok.fresh (Nat.le_refl _), fun x c e => I.freeC x c (O.sub x c e), fun p hp => ?_, I.hok.kept hk, ?_⟩
  · unfold sig0 at e2
    by_cases hi : i < nt
    · rw [List.getElem?_append_left (by simpa using hi), List.getElem?_replicate] at e2
      split at e2 <;> cases e2
    · obtain ⟨k, rfl⟩ : ∃ k, i = nt + k := ⟨i - nt, by omega⟩
      rw [List.getElem?_append_right (by simp), List.length_replicate, Nat.add_sub_cancel_left, List.getElem?_map] at e2
      cases ej : js[k]? with
      | none => rw [ej] at e2; cases e2
      | some j =>
        rw [ej] at e2
        have e2' : (σ[j]?).join = some v := Option.some.inj e2
        have eσ : σ[j]? = some (some v) := by
          cases q : σ[j]? with
          | none => rw [q] at e2'; cases e2'
          | some o => rw [q] at e2'; exact congrArg some e2'
        have eN : X.N[j]? = some x := (O.pl k j ej).trans e1
        have hx : x ∈ N2.drop nt := by
          have : (N2.drop nt)[k]? = some x := by rw [List.getElem?_drop]; exact e1
          exact List.mem_of_getElem? this
        obtain ⟨f1, f2⟩ := O.frs x hx
        have vis : Vis X.env.scope x := .inr (.inl (by rw [O.xsc]; exact f2))
        obtain ⟨m, hnX, hl⟩ := I.loc
        obtain ⟨u, r, l⟩ := hl j x v eN eσ vis
        refine ⟨u, r, .inr ⟨?_, ?_⟩⟩
        · exact lookup_relabel_free f1
        · rcases l with ⟨k1, _⟩ | ⟨_, c, ec, ic⟩
          · have k2 : sc.names.lookup x = some .local := by rw [← O.xsc]; exact k1
            rw [f2] at k2; cases k2
          · obtain ⟨c', ec'⟩ := mem_lookup (O.has (x, .free) (lookup_mem f1) rfl)
            have := O.sub x c' ec'
            rw [ec] at this; cases this
            obtain ⟨o, ho, hd⟩ := ic
            exact ⟨c, ec', o, hk _ _ ho, hd⟩
  · obtain ⟨v, o, ho, hd⟩ := I.cell x c (O.sub x c e)
    exact ⟨v, o, hk _ _ ho, hd⟩
  · have hp' : p ∈ X.pn ++ pins := by
      have hp2 : p ∈ (X.pn ++ pins) ++ [] := hp
      rwa [List.append_nil] at hp2
    obtain ⟨e, n, ne, nf, d⟩ := I.pin p hp'
    refine ⟨hk _ _ e, n, Nat.ne_of_lt (Heap.lt_size e), fun hb => ?_, d⟩
    rcases List.mem_cons.mp (I.stkSub p.1 hb) with z | z
    · exact ne z
    · exact nf z
  · unfold sig0
    show _ = N2.length
    rw [List.length_append, List.length_replicate, List.length_map, O.len]
theorem comp_end {σ' : St} {H' : Hp} {s' : Shared} {pl : List (Addr × Obj)} (I : Inv X pins σ H s) (hf : ∀ b ∈ fp, FpOk X pins H b) (J : Inv (compCx X N2 scope cl s H fp (X.pn ++ pins)) pl σ' H' s') : Inv X pins σ H' s' :=
  I.call' (ch := fp) J.os J.base J.hok J.bare fun b hb => by
    obtain ⟨h0, h1, h2, h3, h4, h5⟩ := hf b hb
    exact ⟨h3, h1, h4, h5⟩
end
end L2
namespace L2
open PySem PySem.Spec PyProof.Rows
def PIf (Y : Cx) (ifs : List Expr) (t : TT) : Prop :=
  ∀ (pins : List (Addr × Obj)) (s : Shared) (σ : St) (H : Hp) (Q : Bool → Hp → Prop), Inv Y pins σ H s → t σ H Q →
    wpAny (model Y.prog Y.w) Y.A (forIn ifs true fun c r => if r = true then do let ok ← isTrue c Y.env (eval c Y.env); pure (ForInStep.yield ok) else pure (ForInStep.yield r)) (TP Y pins σ Q) Y.xe s
def tYes : TT := fun _ H Q => Q true H
theorem pif_nil {Y : Cx} : PIf Y [] tYes := fun _ _ _ H _ I h => wpAny_tests_nil ⟨H, I, h⟩
theorem pif_one {Y : Cx} {c : Expr} {t : TT} (h : PT Y c t) : PIf Y [c] t := fun pins s σ H Q I hw => wpAny_tests_one (h pins s σ H Q I hw)
def turnC (acc : Addr) (J : It) (g : TG) (tt : TT) (te : TE) (W : Nat → Nat → L2.St → Hp → Prop) (i m : Nat) (σ0 : L2.St) (H : Hp) : Prop :=
  J.go i H ∧ ∀ x H', J.yld i H x H' → g x σ0 H' fun σ3 H2 => tt σ3 H2 fun b H3 =>
    if b = true then te σ3 H3 fun y H4 => ∃ ys, H4 acc = some (.lst ys) ∧ ys.length < sizeLine ∧ ∃ m', m' < m ∧ W (i + 1) m' σ3 (upd H4 acc (.lst (ys ++ [y])))
    else ∃ m', m' < m ∧ W (i + 1) m' σ3 H3
def tComp (nt : Nat) (js : List Nat) (wi : TI) (g : TG) (tt : TT) (te : TE) : TE := fun σ H Q => wi σ H fun J H1 => ∀ acc, H1 acc = none →
  ∃ W : Nat → Nat → L2.St → Hp → Prop, (∃ m, W 0 m (sig0 nt js σ) (upd H1 acc (.lst []))) ∧ ∀ i m σ0 H, W i m σ0 H → (J.stop i H ∧ Q (.ref acc) H) ∨ turnC acc J g tt te W i m σ0 H
structure CompB (Y : Cx) (tg : Expr) (ifs : List Expr) (elt : Expr) (g : TG) (tt : TT) (te : TE) : Prop where
  tgt : PG Y tg g
  tst : PIf Y ifs tt
  elt : PE Y elt te
theorem compLoop_own {prog : Program} {w : World} {A : Around} {R : Result → Shared → Prop} {s : Shared} {elt target iter : Expr} {ifs : List Expr} {scope : Scope} {pos : Pos} {it acc : Value} {env : Env} (I : Nat → Shared → Prop)
    (turn : ∀ n s, I n s → wpAny (model prog w) A (pyNext it) (fun r s₁ => match r with
      | none => R (.ok .next) s₁
      | some v => wpAny (model prog w) A (letOwnedTupleGo target it v) (fun _ s₀ => wpAny (model prog w) A (assign target env v) (fun _ s₂ =>
          wpAny (model prog w) A (forIn ifs true fun c r => if r = true then do let ok ← isTrue c env (eval c env); pure (ForInStep.yield ok) else pure (ForInStep.yield r)) (fun ok s₃ =>
            if ok = true then wpAny (model prog w) A (eval elt env) (fun x s₄ =>
              wpAny (model prog w) A (call (.builtin "list.append") [acc, x]) (fun _ s₅ => ∃ m, m < n ∧ I m s₅) (fun _ _ => False) s₄) (fun _ _ => False) s₃
            else ∃ m, m < n ∧ I m s₃) (fun _ _ => False) s₂) (fun _ _ => False) s₀) (fun _ _ => False) s₁) (fun _ _ => False) s)
    (n : Nat) (h : I n s) :
    codeAny (model prog w) A (.compLoop (.ListComp elt [⟨target, iter, ifs, 0⟩] scope pos) 0 it acc env) R s := by
  refine codeAny_loop rfl I (fun n s hI => ?_) n h
  show wpAny _ A ((compTurn (.ListComp elt [⟨target, iter, ifs, 0⟩] scope pos) 0 it acc env).onRaise (fun x => do noteFrame x env; theTreesLotGoes x)) _ _ s
  refine wpAny_noted ?_
  rw [compTurn_list]
  refine wpAny_bind (wpAny_standAt (wpAny_bind (wpAny_mono (turn n s hI) (fun r s₁ h₁ => ?_) fun _ _ h' => h'.elim)))
  cases r with
  | none => exact wpAny_pure h₁
  | some v =>
    refine wpAny_bind (wpAny_mono h₁ (fun _ s₀ h₀ => ?_) fun _ _ h' => h'.elim)
    refine wpAny_bind (wpAny_mono h₀ (fun _ s₂ h₂ => wpAny_bind (wpAny_mono h₂ (fun ok s₃ h₃ => ?_) fun _ _ h' => h'.elim)) fun _ _ h' => h'.elim)
    cases ok with
    | false => exact wpAny_pure ⟨rfl, h₃⟩
    | true =>
      exact wpAny_bind (wpAny_bind (wpAny_mono h₃ (fun x s₄ h₄ => wpAny_bind (wpAny_mono h₄ (fun _ s₅ h₅ => wpAny_pure (wpAny_pure ⟨rfl, h₅⟩)) fun _ _ h' => h'.elim)) fun _ _ h' => h'.elim))
section
variable {X : Cx} {pins : List (Addr × Obj)} {σ : St} {H : Hp} {s : Shared} {N2 : List Str} {nt : Nat} {js : List Nat} {scope sc : Scope} {cl : List (Str × Addr)} {fp : List Addr} {elt iter tg : Expr} {ifs : List Expr} {pos : Pos}
  {wi : TI} {g : TG} {tt : TT} {te : TE}
theorem comp_run (O : CompOk X N2 nt js scope cl sc) (hc : X.calm = true) (B : ∀ (s0 : Shared) (H0 : Hp) (fp : List Addr) (ps : List (Addr × Obj)), CompB (compCx X N2 scope cl s0 H0 fp ps) tg ifs elt g tt te)
    {it : Addr} {tn : Nat → Heap → Prop} {J : It} {E : Value → Shared → Prop} {Q : VK} {RR : Value → Addr → Result → Shared → Prop}
    (I : Inv X pins σ H s) (T : Turn X.prog X.w X.K tg J fp it tn) (st : tn 0 s.heap) (hf : ∀ b ∈ fp, FpOk X pins H b)
    (h : ∀ acc, H acc = none → ∃ W : Nat → Nat → L2.St → Hp → Prop, (∃ m, W 0 m (sig0 nt js σ) (upd H acc (.lst []))) ∧ ∀ i m σ0 H, W i m σ0 H → (J.stop i H ∧ Q (.ref acc) H) ∨ turnC acc J g tt te W i m σ0 H)
    (hRR : ∀ (acc C : Addr) (s' : Shared) (H' : Hp) (m : Str → Option Value), s'.heap.Ns C m → Inv X pins σ H' s' → H' C = none → C ≠ X.env.locals → X.s₀.heap.objs.size ≤ C → (∀ x c, X.env.cells.lookup x = some c → c ≠ C) → (∀ p ∈ X.pn ++ pins, p.1 ≠ C) → Q (.ref acc) H' → RR (.ref acc) C (.ok .next) s') :
    wpAny (model X.prog X.w) X.A (newList []) (fun acc s₃ => wpAny (model X.prog X.w) X.A (newFunctionEnv scope X.env.globals cl [] X.env.qual none .none (some X.env)) (fun cenv s₄ =>
      codeAny (model X.prog X.w) X.A (.compStart (.ListComp elt [⟨tg, iter, ifs, 0⟩] scope pos) 0 (.ref it) acc { cenv with scope := relabel scope X.env }) (RR acc cenv.locals) s₄) E s₃) E s := by
  have hlt : ∀ b ∈ fp, b < s.heap.objs.size := fun b hb => by
    obtain ⟨o, e, _⟩ := T.obj _ _ st b hb
    exact Heap.lt_size e
  have hnA : H s.heap.objs.size = none := I.hok.fresh (Nat.le_refl _)
  obtain ⟨W, ⟨m0, w0⟩, turn⟩ := h s.heap.objs.size hnA
  refine wpAny_newObj_type (wpAny_newFunctionEnv O.nocell (by intro y hy; simp at hy) (fun h₁ hns₁ hsb₁ => ?_) O.kind)
  dsimp only at hns₁ hsb₁ ⊢
  have I3 : Inv X pins σ (upd H s.heap.objs.size (.lst [])) { s with heap := s.heap.push { cls := .type "list", dict := none, data := .seq ([] : List Value).toArray } } :=
    I.laid (t' := s.toks) (fun b u e => Heap.get?_push_of_some _ e) (Nat.le_refl _) ⟨by show 0 ≤ sizeLine; exact Nat.zero_le _, [], 0, .nil, Heap.get?_push_size _ rfl⟩
  generalize hs3 : ({ s with heap := s.heap.push { cls := .type "list", dict := none, data := .seq ([] : List Value).toArray } } : Shared) = s3 at I3
  have e3 : s3.heap = s.heap.push { cls := .type "list", dict := none, data := .seq ([] : List Value).toArray } := by rw [← hs3]
  rw [← e3] at hns₁ hsb₁ ⊢
  have et : s3.toks = s.toks := by rw [← hs3]
  have hf3 : ∀ b ∈ fp, FpOk X pins (upd H s.heap.objs.size (.lst [])) b := fun b hb => by
    obtain ⟨f0, f⟩ := hf b hb
    exact ⟨by rw [upd_ne (Nat.ne_of_lt (hlt b hb))]; exact f0, f⟩
  have hlt3 : ∀ b ∈ fp, b < s3.heap.objs.size := fun b hb => by rw [e3, Heap.size_push]; exact Nat.lt_succ_of_lt (hlt b hb)
  have hk4 : ∀ b o, s3.heap.get? b = some o → h₁.get? b = some o := fun b o e => hsb₁.extBut b o (Nat.ne_of_lt (Heap.lt_size e)) (Heap.get?_push_of_some _ e)
  have hns' : h₁.Ns s3.heap.objs.size fun _ => none := hns₁
  have I4 := comp_start (t4 := s3.toks + ([] : List (Str × Value)).length) O I3 hf3 hlt3 hns' hk4
  have st4 : tn 0 h₁ := T.keep _ _ _ st fun b hb o e => hk4 b o (by rw [e3]; exact Heap.get?_push_of_some _ e)
  have B4 := B s3 (upd H s.heap.objs.size (.lst [])) fp (X.pn ++ pins)
  generalize hY : compCx X N2 scope cl s3 (upd H s.heap.objs.size (.lst [])) fp (X.pn ++ pins) = Y at I4 B4
  have yP : Y.prog = X.prog := by rw [← hY]; rfl
  have yw : Y.w = X.w := by rw [← hY]; rfl
  have yK : Y.K = X.K := by rw [← hY]; rfl
  have yA : Y.A = X.A := by rw [← hY]; rfl
  have yc : Y.calm = true := by rw [← hY]; exact hc
  have yx : Y.xe = fun _ _ => False := by rw [← hY]; rfl
  have ye : Y.env = compEnvC scope cl s3.heap.objs.size X.env := by rw [← hY]; rfl
  have fpY : ∀ {H' : Hp}, (∀ b ∈ fp, H' b = none) → ∀ b ∈ fp, FpOk Y [] H' b := fun hn b hb => by
    obtain ⟨f0, f1, f2, f3, f4, f5⟩ := hf3 b hb
    rw [← hY]
    refine ⟨hn b hb, Nat.ne_of_lt (hlt3 b hb), fun hs => ?_, .inl hb, fun x c e => f4 x c (O.sub x c e), fun p hp => ?_⟩
    · rcases List.mem_cons.mp (I3.stkSub b hs) with e | e
      · exact f1 e
      · exact f2 e
    · have hp2 : p ∈ (X.pn ++ pins) ++ [] := hp
      rw [List.append_nil] at hp2
      exact f5 p hp2
  have fin : ∀ {σ' : St} {H' : Hp} {s' : Shared} {pl : List (Addr × Obj)}, Inv Y pl σ' H' s' → Q (.ref s.heap.objs.size) H' → RR (.ref s.heap.objs.size) s3.heap.objs.size (.ok .next) s' := fun {σ' H' s' pl} I' q => by
    have J' : Inv X pins σ H' s' := comp_end I3 hf3 (hY ▸ I')
    obtain ⟨m, hn, _⟩ := I'.loc
    have hfr := I'.free
    rw [ye] at hn hfr
    refine hRR _ _ s' H' m hn J' hfr (Nat.ne_of_gt I3.lt) I3.sz (fun x c e z => ?_) (fun p hp z => ?_) q
    · obtain ⟨v, q⟩ := I3.cell x c e
      exact absurd (Nat.lt_of_lt_of_le q.lt (by rw [z]; exact Nat.le_refl _)) (Nat.lt_irrefl _)
    · exact absurd (Nat.lt_of_lt_of_le (Heap.lt_size (I3.pin p hp).1) (by rw [z]; exact Nat.le_refl _)) (Nat.lt_irrefl _)
  have loop : ∀ s4 : Shared, s4 = { s3 with heap := h₁, toks := s3.toks + ([] : List (Str × Value)).length } →
      codeAny (model X.prog X.w) X.A (.compLoop (.ListComp elt [⟨tg, iter, ifs, 0⟩] scope pos) 0 (.ref it) (.ref s.heap.objs.size) (compEnvC scope cl s3.heap.objs.size X.env)) (RR (.ref s.heap.objs.size) s3.heap.objs.size) s4 := by
    rintro s4 rfl
    refine compLoop_own (fun n s' => ∃ i σ0 H', Inv Y [] σ0 H' s' ∧ tn i s'.heap ∧ (∀ b ∈ fp, H' b = none) ∧ W i n σ0 H') ?_ m0
      ⟨0, _, _, I4, st4, fun b hb => (hf3 b hb).1, w0⟩
    rintro n s5 ⟨i, σ5, H5, I5, st5, fr5, w5⟩
    rcases turn i n σ5 H5 w5 with ⟨stop, q⟩ | ⟨go, step⟩
    · have r := T.done Y yP yw yK yc i [] s5 _ H5 (fun _ _ => False) I5 (fpY fr5) st5 stop
      rw [yA] at r
      refine thn r fun r s6 ⟨hr, I6⟩ => ?_
      subst hr
      exact fin I6 q
    · have r := T.item Y yP yw yK yc i [] s5 _ H5 (fun _ _ => False) I5 (fpY fr5) st5 go
      rw [yA] at r
      refine thn r fun r s6 ⟨u, hr, h6⟩ => ?_
      subst hr
      refine thn h6 fun _ s7 ⟨x, H7, I7, r7, y7, st7, fr7⟩ => ?_
      have I7' := I7.pinned (fpY fr7) (T.obj _ _ st7)
      have r := B4.tgt _ s7 _ H7 x u _ I7' r7 (step x H7 y7)
      rw [yP, yw, yA, yx, ye] at r
      refine thn r fun _ s8 ⟨σ8, H8, I8, q8⟩ => ?_
      have r := B4.tst _ s8 σ8 H8 _ I8 q8
      rw [yP, yw, yA, yx, ye] at r
      refine thn r fun ok s9 ⟨H9, I9, q9⟩ => ?_
      have back : ∀ {s' : Shared} {H' : Hp}, Inv Y ([] ++ pinsAt fp s7.heap) σ8 H' s' → (Inv Y [] σ8 H' s' ∧ tn (i + 1) s'.heap ∧ ∀ b ∈ fp, H' b = none) := fun {s' H'} I' => by
        refine ⟨I'.unpinned, T.keep _ _ _ st7 fun b hb o e => (I'.pin (b, o) (List.mem_append_right _ (List.mem_append_right _ (mem_pinsAt hb e)))).1, fun b hb => ?_⟩
        obtain ⟨o, e, d⟩ := T.obj _ _ st7 b hb
        exact (I'.pin (b, o) (List.mem_append_right _ (List.mem_append_right _ (mem_pinsAt hb e)))).2.1
      cases ok with
      | false =>
        have q9' : ∃ m', m' < n ∧ W (i + 1) m' σ8 H9 := q9
        obtain ⟨m', hm, w9⟩ := q9'
        obtain ⟨b1, b2, b3⟩ := back I9
        show ∃ m, m < n ∧ _
        exact ⟨m', hm, i + 1, σ8, H9, b1, b2, b3, w9⟩
      | true =>
        have q9' : te σ8 H9 fun y H4 => ∃ ys, H4 s.heap.objs.size = some (.lst ys) ∧ ys.length < sizeLine ∧ ∃ m', m' < n ∧ W (i + 1) m' σ8 (upd H4 s.heap.objs.size (.lst (ys ++ [y]))) := q9
        have r := B4.elt _ s9 σ8 H9 _ I9 q9'
        rw [yP, yw, yA, yx, ye] at r
        show wpAny _ _ (eval elt _) _ _ s9
        refine thn r fun y s10 ⟨yv, H10, I10, r10, q10⟩ => ?_
        obtain ⟨ys, a1, a2, m', hm, w10⟩ := q10
        have r := mt_append (X := Y) _ s10 σ8 H10 (.ref s.heap.objs.size) [yv] (.ref s.heap.objs.size) [y] (fun _ H' => H' = upd H10 s.heap.objs.size (.lst (ys ++ [yv]))) I10 rfl (.cons r10 .nil) ⟨_, ys, yv, rfl, rfl, a1, a2, rfl⟩
        rw [yP, yw, yA, yx] at r
        refine thn r fun _ s11 ⟨_, H11, I11, _, e11⟩ => ?_
        subst e11
        obtain ⟨b1, b2, b3⟩ := back I11
        exact ⟨m', hm, i + 1, σ8, _, b1, b2, b3, w10⟩
  have st4' : tn 0 ({ s3 with heap := h₁, toks := s3.toks + ([] : List (Str × Value)).length } : Shared).heap := st4
  have hs4 : ({ s with heap := h₁, toks := s.toks + ([] : List (Str × Value)).length } : Shared) = { s3 with heap := h₁, toks := s3.toks + ([] : List (Str × Value)).length } := by rw [← hs3]
  exact codeAny_compStart_list (loop _ hs4) (T.self _ 0 _ _ _ st4 (loop _ hs4))
theorem pe_compO (O : CompOk X N2 nt js scope cl sc) (hc : X.calm = true) (hi : PI X tg iter wi) (B : ∀ (s0 : Shared) (H0 : Hp) (fp : List Addr) (ps : List (Addr × Obj)), CompB (compCx X N2 scope cl s0 H0 fp ps) tg ifs elt g tt te)
    (hs : ∀ x, foldedSetIterable iter X.env x = pure x := by intro _; rfl) : PE X (.ListComp elt [⟨tg, iter, ifs, 0⟩] scope pos) (tComp nt js wi g tt te) := by
  intro pins s σ H Q I h
  rw [eval_ListComp]
  refine wpAny_comprehension_free (use := none) rfl hs O.clos O.kind O.loc (thn (hi pins s σ H _ I h) fun xv s1 h1 => thn h1 fun itv s2 h2 => ?_)
  obtain ⟨it, fp, tn, J, H2, e, I2, T, st2, f2, q⟩ := h2
  subst e
  refine comp_run (RR := fun acc C => compPost (model X.prog X.w) X.A X.xe none (EP X pins σ Q) acc C) O hc B I2 T st2 f2 q ?_
  intro acc C s' H' m hn J' c1 c2 c3 c4 c5 q'
  refine ⟨m, hn, fun h' hsb => ⟨.ref acc, H', ?_, rfl, q'⟩⟩
  exact J'.turned (t' := s'.toks) (fun b o hb e => hsb.extBut b o hb e) c1 (Ne.symm c2 |> fun z => fun y => z y.symm) (.inr c3) c4 c5
end
end L2


set_option linter.all false
set_option maxRecDepth 100000
set_option maxHeartbeats 4000000
namespace U
open PySem PySem.Spec PyProof.Rows L2
variable {B : Bs} {X : Cx} {pos : Pos}
def sigU (nt : Nat) (js : List Nat) (σ : St') : St' := List.replicate nt none ++ js.map fun j => (σ[j]?).join
theorem SR.sig {K : PySem.W.Frag} {σ' : St'} {H' : PHp} {σ : L2.St} {H : Hp} (s : SR K B σ' H' σ H) (nt : Nat) (js : List Nat) : SR K B (sigU nt js σ') H' (sig0 nt js σ) H := by
  refine ⟨by simp [sigU, sig0], fun i v' e => ?_, s.hp, s.ev⟩
  unfold sigU at e
  unfold sig0
  by_cases hi : i < nt
  · rw [List.getElem?_append_left (by simpa using hi), List.getElem?_replicate] at e
    split at e <;> cases e
  · rw [List.getElem?_append_right (by simp; omega), List.length_replicate, List.getElem?_map] at e ⊢
    cases ej : js[i - nt]? with
    | none => rw [ej] at e; cases e
    | some j =>
      rw [ej] at e
      have e2 : (σ'[j]?).join = some v' := Option.some.inj e
      cases q : σ'[j]? with
      | none => rw [q] at e2; cases e2
      | some o =>
        rw [q] at e2
        have e3 : σ'[j]? = some (some v') := by rw [q]; exact congrArg some e2
        obtain ⟨v, a, b⟩ := s.loc j v' e3
        exact ⟨v, by show some ((σ[j]?).join) = _; rw [a]; rfl, b⟩
def uCompL (ok : PHp → Prop) (g : TG') (tt : TT') (te : TE') (acc : Addr) (Q : VK') : List PV → St' → PHp → Prop
  | [], σ, H => ok H ∧ Q (.ref acc) H
  | x :: r, σ, H => ok H ∧ g x σ H fun σ3 H2 => tt σ3 H2 fun b H3 => cif b (te σ3 H3 fun y H4 => ∃ l, H4 acc = some (.lst l) ∧ l.length < sizeLine ∧ uCompL ok g tt te acc Q r σ3 (put H4 acc (.lst (l ++ [y])))) (uCompL ok g tt te acc Q r σ3 H3)
def uComp (nt : Nat) (js : List Nat) (wi : TI') (g : TG') (tt : TT') (te : TE') : TE' := fun σ H Q => wi σ H fun J H1 => ∀ acc, H1 acc = none → uCompL J.ok g tt te acc Q J.items (sigU nt js σ) (put H1 acc (.lst []))
def PIf' (Y : Cx) (B : Bs) (ifs : List Expr) (t : TT') : Prop := PIf Y ifs (lowT Y.K B t)
def uYes : TT' := fun _ H Q => Q true H
theorem qif_nil {Y : Cx} : PIf' Y B [] uYes := fun pins s σ H Q I ⟨σ', H', Q', sr, h, k⟩ => pif_nil pins s σ H Q I (k true H' H h sr (Ev.refl _ _))
theorem qif_one {Y : Cx} {c : Expr} {t : TT'} (h : PT' Y B c t) : PIf' Y B [c] t := pif_one h
theorem low_comp {K : PySem.W.Frag} {nt : Nat} {js : List Nat} {wi : TI'} {g : TG'} {tt : TT'} {te : TE'} {σ : L2.St} {H : Hp} {Q : VK} (h : low K B (uComp nt js wi g tt te) σ H Q) :
    tComp nt js (lowI K B wi) (lowG K B g) (lowT K B tt) (low K B te) σ H Q := by
  obtain ⟨σ', H', Q', s, h, k⟩ := h
  refine ⟨σ', H', _, s, h, fun J' H1' J H1 h1 wk s1 e1 acc ha => ?_⟩
  have h1 := h1 acc (s1.hp.free ha)
  have sn : SR K B σ' (put H1' acc (.lst [])) σ (upd H1 acc (.lst [])) := s1.new ha ⟨[], upd_same, RPs.nil _⟩
  have en : Ev H1' H1 (put H1' acc (.lst [])) (upd H1 acc (.lst [])) := Ev.new ha
  refine ⟨fun i m σ2 H2 => i ≤ J'.items.length ∧ m = J'.items.length - i ∧ ∃ σ2' H2', SR K B σ2' H2' σ2 H2 ∧ SR K B σ' H2' σ H2 ∧ Ev H1' H1 H2' H2 ∧ uCompL J'.ok g tt te acc Q' (J'.items.drop i) σ2' H2',
    ⟨J'.items.length, Nat.zero_le _, by simp, _, _, sn.sig nt js, sn, en, h1⟩, ?_⟩
  rintro i m σ2 H2 ⟨hi, rfl, σ2', H2', s2, so, e2, h2⟩
  have k2 := e2.kp s1.hp
  by_cases hlt : i < J'.items.length
  · obtain ⟨x', hx⟩ : ∃ x', J'.items[i]? = some x' := ⟨_, List.getElem?_eq_getElem hlt⟩
    have hd : J'.items.drop i = x' :: J'.items.drop (i + 1) := by
      rw [List.drop_eq_getElem_cons hlt]
      rw [List.getElem?_eq_getElem hlt] at hx
      cases hx; rfl
    rw [hd] at h2
    obtain ⟨ok2, h2⟩ := (show J'.ok H2' ∧ _ from h2)
    refine .inr ⟨wk.go H2' H2 i k2 s2.hp ok2 hlt, fun x H3 y => ?_⟩
    obtain ⟨rfl, rx⟩ := wk.yld H2' H2 i x H3 k2 s2.hp ok2 y
    refine ⟨x', σ2', H2', _, rx x' hx, s2, h2, fun σ3' H3' σ3 H3 h3 s3 e3 => ⟨σ3', H3', _, s3, h3, fun b H4' H4 h4 s4 e4 => ?_⟩⟩
    cases b with
    | false =>
      have e24 := e3.trans e4
      exact iteF ⟨J'.items.length - (i + 1), by omega, hlt, rfl, σ3', H4', s4, so.kp e24 s4.hp, e2.trans e24, h4⟩
    | true =>
      refine iteT ⟨σ3', H4', _, s4, h4, fun y' H5' y H5 h5 ry5 s5 e5 => ?_⟩
      obtain ⟨l, a1, a2, h5⟩ := h5
      have e25 := (e3.trans e4).trans e5
      obtain ⟨us, q1, q2⟩ := s5.hp _ _ a1
      have wr := wrL s5.hp a1 (RPs.append _ q2 (RPs.cons _ ry5 (RPs.nil _)))
      refine ⟨us, q1, by rw [RPs.length _ q2]; exact a2, J'.items.length - (i + 1), by omega, hlt, rfl, σ3', _, s5.wr a1 wr, (so.kp e25 s5.hp).wr a1 wr, (e2.trans e25).trans (Ev.wr a1), h5⟩
  · have hi' : i = J'.items.length := by omega
    subst hi'
    rw [List.drop_length] at h2
    obtain ⟨ok2, h2⟩ := (show J'.ok H2' ∧ _ from h2)
    exact .inl ⟨wk.stop H2' H2 _ k2 s2.hp ok2 (Nat.le_refl _), k _ _ _ _ h2 (by simp [RP]) so (e1.trans e2)⟩

section
variable {N2 : List Str} {nt : Nat} {js : List Nat} {scope sc : Scope} {cl : List (Str × Addr)} {elt iter tg : Expr} {ifs : List Expr} {wi : TI'} {g : TG'} {tt : TT'} {te : TE'}
structure CompB' (Y : Cx) (B : Bs) (tg : Expr) (ifs : List Expr) (elt : Expr) (g : TG') (tt : TT') (te : TE') : Prop where
  tgt : PG' Y B tg g
  tst : PIf' Y B ifs tt
  elt : PE' Y B elt te
theorem qe_comp (O : CompOk X N2 nt js scope cl sc) (hc : X.calm = true) (hi : PI' X B tg iter wi) (b : ∀ (s0 : Shared) (H0 : Hp) (fp : List Addr) (ps : List (Addr × Obj)), CompB' (compCx X N2 scope cl s0 H0 fp ps) B tg ifs elt g tt te)
    (hs : ∀ x, foldedSetIterable iter X.env x = pure x := by intro _; rfl) : PE' X B (.ListComp elt [⟨tg, iter, ifs, 0⟩] scope pos) (uComp nt js wi g tt te) :=
  pe_imp (pe_compO (g := lowG X.K B g) (tt := lowT X.K B tt) (te := low X.K B te) O hc hi (fun s0 H0 fp ps => ⟨(b s0 H0 fp ps).tgt, (b s0 H0 fp ps).tst, (b s0 H0 fp ps).elt⟩) hs) fun _ _ _ h => low_comp h
end
end U
namespace U
open PySem PySem.Spec PyProof.Rows L2
def AllL (cs : List (Str × Addr)) : List (Str × Addr) → Prop
  | [] => True
  | p :: r => cs.lookup p.1 = some p.2 ∧ AllL cs r
theorem AllL.mem {cs : List (Str × Addr)} : ∀ {l : List (Str × Addr)} {p : Str × Addr}, AllL cs l → p ∈ l → cs.lookup p.1 = some p.2
  | q :: r, p, h, m => by
    rcases List.mem_cons.mp m with rfl | m
    · exact h.1
    · exact AllL.mem h.2 m
theorem cok {X : Cx} {N2 : List Str} {nt : Nat} {js : List Nat} {scope sc : Scope} {cl : List (Str × Addr)} (clos : closureFor scope X.env = pure cl) (sub : AllL X.env.cells cl) (xsc : X.env.scope = sc) (kind : scope.kind = .function)
    (nocell : ∀ y ∈ scope.names, y.2 ≠ .cell) (loc : ∀ y ∈ scope.names, y.2 = .local → scope.names.lookup y.1 = some .local) (names : cl.map (·.1) = ((scope.names.filter (·.2 == .free)).map (·.1)).reverse)
    (frs : ∀ x ∈ N2.drop nt, scope.names.lookup x = some .free ∧ sc.names.lookup x = some .cell) (len : N2.length = nt + js.length) (pl : js.map (fun j => X.N[j]?) = (N2.drop nt).map some) : CompOk X N2 nt js scope cl sc :=
  ⟨clos, fun x c e => sub.mem (lookup_mem e), xsc, kind, nocell, loc, fun y m f => by rw [names]; exact List.mem_reverse.mpr (List.mem_map_of_mem (List.mem_filter.mpr ⟨m, by rw [f]; rfl⟩)), frs, len, fun k j e => by
    have h : (js.map (fun j => X.N[j]?))[k]? = ((N2.drop nt).map some)[k]? := by rw [pl]
    rw [List.getElem?_map, List.getElem?_map, e, List.getElem?_drop] at h
    cases q : N2[nt + k]? with
    | none => rw [q] at h; cases h
    | some x => rw [q] at h; exact Option.some.inj h⟩
end U
namespace U
open PySem PySem.Spec PyProof.Rows L2
end U


set_option linter.all false
set_option maxRecDepth 100000
set_option maxHeartbeats 4000000
namespace L2
open PySem PySem.Spec PyProof.Rows
variable {X : Cx} {a b c d : Expr} {pos : Pos} {ta tb tc td : TE}
end L2
namespace U
open PySem PySem.Spec PyProof.Rows L2
variable {B : Bs} {X : Cx} {a b c d e o value : Expr} {pos pos' apos p : Pos} {ta tb tc td tv : TE'} {f m x : Str} {C g : Addr}
section
variable {k : Nat} {fd : FuncData} {ps : List Str} {sp : Sp'} {es : List Expr} {t : TA'}
end
end U


set_option linter.all false
set_option maxRecDepth 100000
set_option maxHeartbeats 4000000
namespace L2
open PySem PySem.Spec PyProof.Rows
variable {X : Cx}
end L2
namespace U
open PySem PySem.Spec PyProof.Rows L2
variable {B : Bs} {X : Cx}
theorem rps_ints {K : PySem.W.Frag} {H : Hp} : ∀ {bs : List Int} {us : List V}, RPs K H (bs.map PV.int) us → us = bs.map V.int
  | [], us, h => by simpa [RPs] using h
  | b :: bs, us, h => by
    simp only [List.map_cons, RPs, RP] at h
    obtain ⟨u, r, rfl, rfl, h2⟩ := h
    rw [rps_ints h2]; rfl
theorem ints_rps {K : PySem.W.Frag} {H : Hp} : ∀ {bs : List Int}, RPs K H (bs.map PV.int) (bs.map V.int)
  | [] => RPs.nil _
  | b :: bs => RPs.cons _ (by simp [RP]) ints_rps
def uAll : List PV → PHp → VK' → Prop := arg1 fun x H Q => match x with
  | .ref a => ∃ bs : List Bool, H a = some (.lst (bs.map PV.bl)) ∧ Q (.bl (bs.all id)) H
  | _ => False
end U


namespace SP
open PySem
def hs : List Int := [-1950498447580522560, 7204814214171964562, -3550055125485641917, -4734289103435588629, -1440771752368011620,
  8409376899596376432, 1773351652666409796, -6333845781340707986, 3516302870623680066, 1079245023883434373,
  -3119722376306286570, 173794974761290439, -8422800446983873125, 7586885779985432798, -1009709641759730766]
def hp (p : Int × Int) : Int := reduceHash (Builtin.Tuple.tupleHashOf [p.1, p.2])
def runs (mask : Nat) : Nat → Nat → Nat → List Nat
  | 0, _, _ => []
  | f + 1, i, pt => ((List.range (SetTable.runEnd mask i + 1 - i)).map (i + ·)) ++ runs mask f (SetTable.leap mask i pt).1 (SetTable.leap mask i pt).2
end SP


namespace SP
open PySem PyProof.Rows
set_option maxRecDepth 100000
section
variable {prog : Program} {w : World} {A : Around} {E : Value → Shared → Prop} {s : Shared}
end
end SP


set_option linter.all false
set_option maxRecDepth 100000
set_option maxHeartbeats 4000000
namespace L2
open PySem PySem.Spec PyProof.Rows
variable {X : Cx}
end L2
namespace U
open PySem PySem.Spec PyProof.Rows L2
variable {B : Bs} {X : Cx} {e : Expr} {ta : TE'} {p p2 pos pos2 : Pos}
end U


set_option linter.all false
set_option maxRecDepth 100000
set_option maxHeartbeats 4000000
namespace U
open PySem PySem.Spec PyProof.Rows L2
variable {B : Bs} {X : Cx} {a b : Expr} {ta tb : TE'} {pos : Pos}
def uShr : R2' := uI (fun _ j => 0 ≤ j) fun i j => .int (i / 2 ^ j.toNat)
theorem qe_shr (ha : PE' X B a ta) (hb : PE' X B b tb) : PE' X B (.BinOp a .RShift b pos) (uOp uShr ta tb) := qe_op op_shr (vr_I fun _ _ _ => by simp [RP]) ha hb
end U


set_option linter.all false
set_option maxRecDepth 100000
set_option maxHeartbeats 4000000
namespace ST
open PySem PySem.W PyProof.Rows
def key (K : Nat → Int) (p : Array Nat) (i : Nat) : Int := K ((p[i]?).getD 0)
structure Ok (n : Nat) (p : Array Nat) : Prop where
  perm : p.toList.Perm (List.range n)
def S (K : Nat → Int) (p : Array Nat) (m : Nat) : Prop := ∀ i j, i < j → j < m → key K p i < key K p j
theorem Ok.size {n : Nat} {p : Array Nat} (h : Ok n p) : p.size = n := by
  have := h.perm.length_eq
  simpa using this
theorem Ok.lt {n : Nat} {p : Array Nat} (h : Ok n p) (h0 : 0 < n) (i : Nat) : p.getD i 0 < n := by
  rw [Array.getD_eq_getD_getElem?]
  cases e : p[i]? with
  | none => exact h0
  | some x =>
    have : x ∈ p.toList := by
      obtain ⟨hi, rfl⟩ := Array.getElem?_eq_some_iff.mp e
      simp
    exact List.mem_range.mp (h.perm.mem_iff.mp this)
section
variable {cmp : Nat → Nat → (Bool → Shared → Prop) → Shared → Prop} {s : Shared} {n : Nat} {K : Nat → Int} {p : Array Nat}
theorem Ok.ne (hK : ∀ i j, i < n → j < n → K i = K j → i = j) (h : Ok n p) {i j : Nat} (hi : i < n) (hj : j < n) (hne : i ≠ j) : key K p i ≠ key K p j := by
  intro e
  have hs := h.size
  have h0 : 0 < n := by omega
  unfold key at e
  rw [Array.getElem?_eq_getElem (by omega), Array.getElem?_eq_getElem (by omega)] at e
  simp only [Option.getD_some] at e
  have nd : p.toList.Nodup := (h.perm.nodup_iff).mpr List.nodup_range
  have l1 : p[i] < n := by have := h.lt h0 i; rwa [Array.getD_eq_getD_getElem?, Array.getElem?_eq_getElem (by omega)] at this
  have l2 : p[j] < n := by have := h.lt h0 j; rwa [Array.getD_eq_getD_getElem?, Array.getElem?_eq_getElem (by omega)] at this
  have q := hK _ _ l1 l2 e
  have : i = j := by
    exact (List.getElem_inj nd (h₀ := by simpa [hs] using hi) (h₁ := by simpa [hs] using hj)).mp (by simpa using q)
  exact hne this
theorem getD_key (K : Nat → Int) (p : Array Nat) (i : Nat) : K (p.getD i 0) = key K p i := by
  unfold key; rw [Array.getD_eq_getD_getElem?]
variable (hc : ∀ i j C, i < n → j < n → C (decide (K i < K j)) s → cmp i j C s) (hK : ∀ i j, i < n → j < n → K i = K j → i = j)
include hc
theorem ask_at {G : Bool → Shared → Prop} (h0 : 0 < n) (ok : Ok n p) {i j : Nat} (h : G (decide (key K p i < key K p j)) s) : cmp (p.getD i 0) (p.getD j 0) G s := by
  refine hc _ _ _ (ok.lt h0 i) (ok.lt h0 j) ?_
  rw [getD_key K p i, getD_key K p j]
  exact h
include hK
theorem lt_of_not {i j : Nat} (ok : Ok n p) (hi : i < n) (hj : j < n) (hne : i ≠ j) (h : ¬ key K p i < key K p j) : key K p j < key K p i := by
  have := ok.ne hK hi hj hne
  omega
theorem place (ok : Ok n p) {k : Nat} (hk : k < n) (hS : S K p k) : ∀ (f l r : Nat) {G : Nat → Shared → Prop}, l ≤ r → r ≤ k → r - l ≤ f → (∀ i, i < l → key K p i < key K p k) → (∀ i, r ≤ i → i < k → key K p k < key K p i) →
    (∀ l', l' ≤ k → (∀ i, i < l' → key K p i < key K p k) → (∀ i, l' ≤ i → i < k → key K p k < key K p i) → G l' s) → (kas_place p k f l r).kasWp cmp G s
  | 0, l, r, G, h1, h2, h3, ha, hb, h => h l (by omega) ha fun i x y => hb i (by omega) y
  | f + 1, l, r, G, h1, h2, h3, ha, hb, h => by
    unfold kas_place
    by_cases e : l ≥ r
    · rw [if_pos e]
      exact h l (by omega) ha fun i x y => hb i (by omega) y
    · rw [if_neg e]
      refine ask_at hc (by omega) ok (G := fun c s' => (if c = true then kas_place p k f l ((l + r) / 2) else kas_place p k f ((l + r) / 2 + 1) r).kasWp cmp G s') ?_
      have hmid : (l + r) / 2 < k := by omega
      generalize hm : (l + r) / 2 = mid at *
      by_cases q : key K p k < key K p mid
      · rw [decide_eq_true q, if_pos rfl]
        refine place ok hk hS f l mid (by omega) (by omega) (by omega) ha (fun i x y => ?_) h
        by_cases z : i = mid
        · subst z; exact q
        · have := hS mid i (by omega) y
          omega
      · rw [decide_eq_false q, if_neg (by simp)]
        have q' := lt_of_not hc hK ok hk (by omega) (by omega) q
        refine place ok hk hS f (mid + 1) r (by omega) h2 (by omega) (fun i x => ?_) hb h
        by_cases z : i = mid
        · subst z; exact q'
        · have := hS i mid (by omega) hmid
          omega
end
end ST


set_option linter.all false
set_option maxRecDepth 100000
set_option maxHeartbeats 4000000
namespace ST
open PySem PySem.W PyProof.Rows
def pk (p : Int × Int) : Int := 6 * p.1 + p.2
section
variable {prog : Program} {w : World} {A : Around} {E : Value → Shared → Prop} {s : Shared}
end
end ST


set_option linter.all false
set_option maxRecDepth 100000
set_option maxHeartbeats 4000000
namespace L2
open PySem PySem.Spec PyProof.Rows
variable {X : Cx}
end L2
namespace U
open PySem PySem.Spec PyProof.Rows L2
variable {B : Bs} {X : Cx} {a b : Expr} {ta tb : TE'} {pos : Pos}
theorem pick_perm {α : Type} (l : List α) (d : α) {q : List Nat} (h : q.Perm (List.range l.length)) : (q.map fun i => l.getD i d).Perm l := by
  refine (h.map _).trans ?_
  have : (List.range l.length).map (fun i => l.getD i d) = l := by
    apply List.ext_getElem
    · simp
    · intro i h1 h2
      simp [List.getD_eq_getElem?_getD, List.getElem?_eq_getElem h2]
  rw [this]
end U
namespace U
open PySem PySem.Spec PyProof.Rows L2
theorem comp_pure {ok : PHp → Prop} {g : TG'} {tt : TT'} {te : TE'} {acc : Addr} {Q : VK'} {H1 : PHp} {xs : List PV} (f : PV → PV) (pz : PV → Bool) (Iv : St' → Prop) (hlen : xs.length ≤ 1000) (hok : ∀ l, ok (put H1 acc (.lst l)))
    (hs : ∀ x ∈ xs, ∀ (l : List PV) (σ : St') (R : St' → PHp → Prop), Iv σ → l.length < sizeLine → (pz x = true → ∀ σ3, Iv σ3 → R σ3 (put H1 acc (.lst (l ++ [f x])))) → (pz x = false → ∀ σ3, Iv σ3 → R σ3 (put H1 acc (.lst l))) →
      g x σ (put H1 acc (.lst l)) fun σ3 H2 => tt σ3 H2 fun b H3 => cif b (te σ3 H3 fun y H4 => ∃ l', H4 acc = some (.lst l') ∧ l'.length < sizeLine ∧ R σ3 (put H4 acc (.lst (l' ++ [y])))) (R σ3 H3))
    (hq : Q (.ref acc) (put H1 acc (.lst ((xs.filter pz).map f)))) {σ : St'} (h0 : Iv σ) : uCompL ok g tt te acc Q xs σ (put H1 acc (.lst [])) := by
  have key : ∀ (r d : List PV) (σ : St'), xs = d ++ r → Iv σ → uCompL ok g tt te acc Q r σ (put H1 acc (.lst ((d.filter pz).map f))) := by
    intro r
    induction r with
    | nil =>
      intro d σ e hv
      have : d = xs := by rw [e, List.append_nil]
      subst this
      exact ⟨hok _, hq⟩
    | cons x r ih =>
      intro d σ e hv
      have hd : ((d.filter pz).map f).length < sizeLine := by
        have h1 : d.length + (r.length + 1) = xs.length := by rw [e, List.length_append, List.length_cons]
        have h2 := List.length_filter_le pz d
        have := small1000 (n := 1000) (by decide)
        rw [List.length_map]
        omega
      refine ⟨hok _, hs x (by rw [e]; simp) _ σ _ hv hd (fun hp σ3 h3 => ?_) (fun hp σ3 h3 => ?_)⟩
      · have := ih (d ++ [x]) σ3 (by rw [e]; simp) h3
        rw [List.filter_append, List.map_append] at this
        simpa [hp] using this
      · have := ih (d ++ [x]) σ3 (by rw [e]; simp) h3
        rw [List.filter_append, List.map_append] at this
        simpa [hp] using this
  exact key xs [] σ rfl h0
end U
namespace U
open PySem PySem.Spec PyProof.Rows L2
theorem w_al {a : Addr} {H : PHp} {Q : VK'} : uAll [.ref a] H Q = ∃ bs : List Bool, H a = some (.lst (bs.map PV.bl)) ∧ Q (.bl (bs.all id)) H := rfl
end U


set_option linter.all false
set_option maxRecDepth 100000
set_option maxHeartbeats 4000000
namespace SI
open PySem
def subs : List (List Nat) := (List.range 64).map fun b => (List.range 6).filter fun i => b / 2 ^ i % 2 == 1
def tb (led : Bool) (L : List Nat) : SetTable := { mask := if L.length ≤ 4 then 7 else 31, place := L.toArray, dummies := #[], finger := 0, led := led, moves := if L.length ≤ 4 then 0 else 1, plain := true }
def pos (L : List Nat) (x : Nat) : Nat := (L.filter (· < x)).length
def ins (L : List Nat) (x : Nat) : List Nat := L.take (pos L x) ++ x :: L.drop (pos L x)
def tp (led : Bool) (L : List Nat) (x : Nat) : SetTable := { tb led L with place := (ins L x).toArray }
theorem tab1 : ∀ led ∈ [true, false], ∀ L ∈ subs, ∀ x ∈ List.range 6, x ∉ L → (tb led L).freeSlot x = some (x, false) ∧ (tb led L).put x = (tp led L x, pos L x) := by decide +kernel
theorem tab2 : ∀ led ∈ [true, false], ∀ L ∈ subs, ∀ x ∈ List.range 6, x ∉ L → (tp led L x).fits (ins L x).length = true ∧ (if L.length = 4 then (tp led L x).tooFull = true ∧ (tp led L x).relaid ((ins L x).map Int.ofNat).toArray 20 = some (tb led (ins L x), #[0, 1, 2, 3, 4]) else (tp led L x).tooFull = false ∧ tp led L x = tb led (ins L x)) := by decide +kernel
theorem tab3 : ∀ L ∈ subs, (∀ x ∈ L, x < 6) ∧ L.length ≤ 6 ∧ L.Nodup ∧ (∀ x ∈ List.range 6, x ∉ L → ins L x ∈ subs) := by decide +kernel
theorem tab4 : ∀ L ∈ subs, ∀ led ∈ [true, false], (tb led L).fits L.length = true ∧ SetTable.below L.toArray 0 = 0 ∧ ∀ i ∈ List.range L.length, SetTable.below L.toArray (L.getD i 0 + 1) = i + 1 := by decide +kernel
def ent (i : Nat) (tk : Tok) : Int × Value := ((i : Int), .int (i : Int) tk)
def EsIs (es : Array (Int × Value)) (L : List Nat) : Prop := ∃ tks : List Tok, tks.length = L.length ∧ es.toList = List.zipWith ent L tks
theorem EsIs.size {es : Array (Int × Value)} {L : List Nat} (h : EsIs es L) : es.size = L.length := by
  obtain ⟨tks, hl, e⟩ := h
  rw [← Array.length_toList, e, List.length_zipWith, hl, Nat.min_self]
theorem EsIs.get {es : Array (Int × Value)} {L : List Nat} (h : EsIs es L) {i : Nat} (hi : i < L.length) : ∃ tk, es[i]? = some (ent (L.getD i 0) tk) := by
  obtain ⟨tks, hl, e⟩ := h
  refine ⟨tks[i], ?_⟩
  rw [← Array.getElem?_toList, e, List.getElem?_zipWith, List.getElem?_eq_getElem hi, List.getElem?_eq_getElem (by omega), List.getD_eq_getElem?_getD, List.getElem?_eq_getElem hi]
  rfl
theorem EsIs.mem {es : Array (Int × Value)} {L : List Nat} (h : EsIs es L) {e : Int × Value} (he : e ∈ es.toList) : ∃ x ∈ L, ∃ tk, e = ent x tk := by
  obtain ⟨i, hi, rfl⟩ := List.mem_iff_getElem.mp he
  have hi' : i < L.length := by rw [← h.size]; simpa using hi
  obtain ⟨tk, e⟩ := h.get hi'
  refine ⟨L.getD i 0, by rw [List.getD_eq_getElem?_getD, List.getElem?_eq_getElem hi']; exact List.getElem_mem hi', tk, ?_⟩
  rw [Array.getElem?_eq_getElem (by simpa using hi)] at e
  simpa using Option.some.inj e
theorem EsIs.of {es : Array (Int × Value)} {L : List Nat} (h : EsIs es L) {x : Nat} (hx : x ∈ L) : ∃ tk, ent x tk ∈ es.toList := by
  obtain ⟨i, hi, rfl⟩ := List.mem_iff_getElem.mp hx
  obtain ⟨tk, e⟩ := h.get hi
  refine ⟨tk, ?_⟩
  rw [List.getD_eq_getElem?_getD, List.getElem?_eq_getElem hi] at e
  rw [← Array.getElem?_toList] at e
  exact List.mem_of_getElem? e
theorem EsIs.ins {es : Array (Int × Value)} {L : List Nat} (h : EsIs es L) (x : Nat) (tk : Tok) : EsIs (SetTable.insertAt es (pos L x) (ent x tk)) (SI.ins L x) := by
  obtain ⟨tks, hl, e⟩ := h
  refine ⟨tks.take (pos L x) ++ tk :: tks.drop (pos L x), ?_, ?_⟩
  · unfold SI.ins
    simp only [List.length_append, List.length_cons, List.length_take, List.length_drop]
    omega
  · rw [SetTable.toList_insertAt, e]
    unfold SI.ins
    rw [List.zipWith_append (by simp only [List.length_take]; omega), List.zipWith_cons_cons, List.take_zipWith, List.drop_zipWith]
structure ISet (h : Heap) (S : Addr) (led : Bool) (L : List Nat) : Prop where
  is : L ∈ subs ∧ ∃ es ep, h.get? S = some { cls := .type "set", dict := none, data := .set es ep (tb led L) } ∧ EsIs es L
theorem led_in (led : Bool) : led ∈ [true, false] := by cases led <;> simp
theorem filterMap5 {α : Type} (es : Array α) (h : es.size = 5) : (#[0, 1, 2, 3, 4] : Array Nat).filterMap (es[·]?) = es := by
  have e := PySem.filterMap_getElem?_range es
  rw [h] at e
  apply Array.toList_inj.mp
  rw [Array.toList_filterMap]
  exact e
section
variable {prog : Program} {w : World} {A : Around} {E : Value → Shared → Prop} {s : Shared}
theorem EsIs.elems {es : Array (Int × Value)} {L : List Nat} (h : EsIs es L) (hL : L ∈ subs) : ElemsOf (intKind prog w) es.toList := fun e he => by
  obtain ⟨x, hx, tk, rfl⟩ := h.mem he
  refine ⟨⟨(x : Int), intKind_is _ _ _ _, ?_⟩, rfl⟩
  have : x < 6 := (tab3 L hL).1 x hx
  have hh : ∀ y ∈ List.range 6, ((y : Nat) : Int) = (intKind prog w).hash ((y : Nat) : Int) := by
    intro y hy
    have : y = 0 ∨ y = 1 ∨ y = 2 ∨ y = 3 ∨ y = 4 ∨ y = 5 := by have := List.mem_range.mp hy; omega
    rcases this with rfl | rfl | rfl | rfl | rfl | rfl <;> rfl
  exact hh x (List.mem_range.mpr this)
theorem hash_int {x : Nat} (hx : x < 6) : (intKind prog w).hash ((x : Nat) : Int) = ((x : Nat) : Int) := by
  have : x = 0 ∨ x = 1 ∨ x = 2 ∨ x = 3 ∨ x = 4 ∨ x = 5 := by omega
  rcases this with rfl | rfl | rfl | rfl | rfl | rfl <;> rfl
theorem setAdd_int {S : Addr} {led : Bool} {L : List Nat} {x : Nat} {tk : Tok} {Q : Bool → Shared → Prop} (hP : ISet s.heap S led L) (hx : x < 6)
    (h : ∀ b h' tks, Heap.SameBut S s.heap h' → ISet h' S led (if x ∈ L then L else ins L x) → Q b { s with heap := h', toks := tks }) : wpAny (model prog w) A (setAdd S (.int (x : Int) tk)) Q E s := by
  obtain ⟨hL, es, ep, ho, he⟩ := hP.is
  unfold setAdd
  refine wpAny_holding ?_
  refine wpAny_bind ((intKind prog w).pyHash (k := (x : Int)) (intKind_is _ _ _ _) ?_)
  rw [hash_int hx]
  generalize hs' : ({ s with toks := s.toks + 1 } : Shared) = s1
  have e1 : s1.heap = s.heap := by rw [← hs']
  have hs1 : ∀ hh' : Heap, ({ s1 with heap := hh' } : Shared) = { s with heap := hh', toks := s1.toks } := fun hh' => by rw [← hs']
  have ho1 : s1.heap.get? S = some { cls := .type "set", dict := none, data := .set es ep (tb led L) } := by rw [e1]; exact ho
  have hf : (tb led L).fits es.size = true := by rw [he.size]; exact (tab4 L hL led (led_in led)).1
  have hel := he.elems (prog := prog) (w := w) hL
  have h6 := (tab3 L hL).2.1
  have hbd : es.size < scanBound := by rw [he.size]; unfold scanBound; omega
  have scan : ∀ {Q' : ScanMet → Shared → Prop}, Q' (match es.toList.findIdx? (fun e => (intKind prog w).is ((x : Nat) : Int) e.2) with | some j => .found (0 + j) | none => .absent) s1 → wpAny (model prog w) A (setScan S (.int ((x : Nat) : Int) tk) ((x : Nat) : Int) true es) Q' E s1 := by
    intro Q' hq
    have := wpAny_setScan_of (knd := intKind prog w) (adding := true) (x := .int ((x : Nat) : Int) tk) (k := ((x : Nat) : Int)) (A := A) (E := E) (Q := Q') (intKind_is _ _ _ _) ho1 rfl hf hel hq
    rwa [hash_int hx] at this
  unfold setAddHashed setAddHashedIn
  refine wpAny_holding (wpAny_bind (wpAny_setState_of ho1 rfl hf ?_))
  dsimp only
  rw [byScan_of (knd := intKind prog w) rfl hbd hel]
  simp only [↓reduceIte]
  unfold setAddByScan
  refine wpAny_bind ?_
  refine wpAny_bind (wpAny_rule ?_)
  refine wpAny_bind (scan ?_)
  cases hr : List.findIdx? (fun e => (intKind prog w).is ((x : Nat) : Int) e.2) es.toList with
  | some j =>
    dsimp only
    obtain ⟨hj, hpj, _⟩ := List.findIdx?_eq_some_iff_getElem.mp hr
    obtain ⟨y, hy, tk', ee⟩ := he.mem (List.getElem_mem hj)
    have hxy : x = y := by
      rw [ee] at hpj
      have q : (intKind prog w).is ((x : Nat) : Int) (.int ((y : Nat) : Int) tk') = true := hpj
      have := (intKind prog w).inj _ _ _ q (intKind_is _ _ _ _)
      omega
    subst hxy
    refine wpAny_pure (wpAny_pure ?_)
    have := h false s.heap s1.toks (Heap.SameBut.refl S s.heap) (by rw [if_pos hy]; exact hP)
    have e : s1 = { s with heap := s.heap, toks := s1.toks } := by rw [← hs1]; cases s1; simp only at e1; rw [e1]
    rw [e]; exact this
  | none =>
    dsimp only
    have hn : x ∉ L := fun hm => by
      obtain ⟨tk', hm'⟩ := he.of hm
      have := List.findIdx?_eq_none_iff.mp hr _ hm'
      have q : (intKind prog w).is ((x : Nat) : Int) (.int ((x : Nat) : Int) tk') = true := intKind_is _ _ _ _
      have this' : (intKind prog w).is ((x : Nat) : Int) (.int ((x : Nat) : Int) tk') = false := this
      rw [q] at this'; cases this'
    obtain ⟨f1, f2⟩ := tab1 led (led_in led) L hL x (List.mem_range.mpr hx) hn
    obtain ⟨f3, f4⟩ := tab2 led (led_in led) L hL x (List.mem_range.mpr hx) hn
    have hins := (tab3 L hL).2.2.2 x (List.mem_range.mpr hx) hn
    have hin2 := he.ins x tk
    have hsz2 := hin2.size
    have hln : (ins L x).length = L.length + 1 := by unfold ins; simp only [List.length_append, List.length_cons, List.length_take, List.length_drop]; omega
    have hlay : layNew (tb led L) es ((x : Nat) : Int) (.int ((x : Nat) : Int) tk) = (SetTable.insertAt es (pos L x) (ent x tk), tp led L x, false, false) := by
      unfold layNew
      rw [f1]
      dsimp only
      rw [f2]
      dsimp only
      have e2 : (tp led L x).fits (SetTable.insertAt es (pos L x) (ent x tk)).size = true := by rw [hsz2]; exact f3
      show (SetTable.insertAt es (pos L x) (ent x tk), (tp led L x).orStandIn (SetTable.insertAt es (pos L x) (ent x tk)).size, false, !(tp led L x).fits (SetTable.insertAt es (pos L x) (ent x tk)).size) = _
      unfold SetTable.orStandIn
      rw [if_pos e2, e2]
      rfl
    rw [hlay]
    dsimp only
    refine wpAny_bind (wpAny_pure ?_)
    have hpl : (tp led L x).plain = true := rfl
    rw [hpl]
    simp only [↓reduceIte]
    refine wpAny_bind ?_
    rw [hashByValue_scannable 8 (x := .int ((x : Nat) : Int) tk) rfl]
    refine wpAny_pure ?_
    have hpk : plainKind (.int ((x : Nat) : Int) tk) = true := rfl
    rw [hpk]
    simp only [↓reduceIte]
    have hz : (SetTable.insertAt es (pos L x) (ent x tk)).size ≤ sizeLine := by rw [hsz2, hln, sizeLine_eq]; omega
    refine wpAny_bind (wpAny_storeSet_of ho1 rfl ?_ hz)
    have hg : (s1.heap.update S (Obj.putSet (SetTable.insertAt es (pos L x) (ent x tk)) (tp led L x))).get? S = some { cls := .type "set", dict := none, data := .set (SetTable.insertAt es (pos L x) (ent x tk)) (ep + 1) (tp led L x) } :=
      Heap.get?_update_self _ ho1 rfl
    have sb1 : Heap.SameBut S s.heap (s1.heap.update S (Obj.putSet (SetTable.insertAt es (pos L x) (ent x tk)) (tp led L x))) := by rw [e1]; exact Heap.SameBut.update ..
    by_cases h4 : L.length = 4
    · rw [if_pos h4] at f4
      rw [f4.1]
      simp only [Bool.not_false, Bool.and_self, ↓reduceIte]
      have hw : SetTable.grown (SetTable.insertAt es (pos L x) (ent x tk)).size = 20 := by rw [hsz2, hln, h4]; rfl
      have hmp : (SetTable.insertAt es (pos L x) (ent x tk)).map (·.1) = ((ins L x).map Int.ofNat).toArray := by
        obtain ⟨tks, q1, q2⟩ := hin2
        apply Array.toList_inj.mp
        rw [Array.toList_map, q2]
        have gen : ∀ (L : List Nat) (tks : List Tok), tks.length = L.length → (List.zipWith ent L tks).map (·.1) = L.map Int.ofNat := by
          intro L
          induction L with
          | nil => intro tks _; rfl
          | cons a L ih =>
            intro tks hl
            cases tks with
            | nil => simp at hl
            | cons b tks => simp only [List.zipWith_cons_cons, List.map_cons, ih tks (by simpa using hl)]; rfl
        exact gen _ _ q1
      have h5 : (SetTable.insertAt es (pos L x) (ent x tk)).size = 5 := by rw [hsz2, hln, h4]
      have hrl : relayAll (tp led L x) (SetTable.insertAt es (pos L x) (ent x tk)) (SetTable.grown (SetTable.insertAt es (pos L x) (ent x tk)).size) = (SetTable.insertAt es (pos L x) (ent x tk), tb led (ins L x), false) := by
        unfold relayAll
        rw [hw, hmp, f4.2]
        dsimp only
        rw [filterMap5 _ h5]
        have c1 : coversAll #[0, 1, 2, 3, 4] (SetTable.insertAt es (pos L x) (ent x tk)).size = true := by rw [h5]; decide +kernel
        have c2 : (tb led (ins L x)).fits (SetTable.insertAt es (pos L x) (ent x tk)).size = true := by rw [hsz2]; exact (tab4 _ hins led (led_in led)).1
        rw [c1, c2]
        rfl
      rw [hrl]
      dsimp only
      refine wpAny_bind (wpAny_pure ?_)
      refine wpAny_bind (wpAny_storeSet_of hg rfl ?_ hz)
      have hg3 := Heap.get?_update_self (Obj.putSet (SetTable.insertAt es (pos L x) (ent x tk)) (tb led (ins L x))) hg rfl
      refine wpAny_pure (wpAny_pure ?_)
      rw [hs1]
      refine h true _ _ (sb1.trans (Heap.SameBut.update ..)) ?_
      rw [if_neg hn]
      exact ⟨hins, _, _, hg3, hin2⟩
    · rw [if_neg h4] at f4
      rw [f4.1]
      simp only [Bool.not_false, Bool.and_false, Bool.false_eq_true, ↓reduceIte]
      refine wpAny_pure (wpAny_pure ?_)
      rw [hs1]
      refine h true _ _ sb1 ?_
      rw [if_neg hn]
      rw [f4.2] at hg
      rw [f4.2]
      exact ⟨hins, _, _, hg, hin2⟩
end
end SI


set_option linter.all false
set_option maxRecDepth 100000
set_option maxHeartbeats 4000000
namespace SI
open PySem
theorem slot_next : Slot "set_iterator" "__next__" "set_iterator.__next__" := .of (owner := "set_iterator") (n := "__next__") (by rw [typeLookup_type, builtinLookup_eq_fast]; kernel_rfl) (by decide +kernel) (by decide +kernel) (by decide +kernel) (by first | exact .inl (by decide +kernel) | exact .inr (by decide +kernel)) (by rw [isSubtype_type]; kernel_rfl)
theorem slot_it : Slot "set_iterator" "__iter__" "set_iterator.__iter__" := .of (owner := "set_iterator") (n := "__iter__") (by rw [typeLookup_type, builtinLookup_eq_fast]; kernel_rfl) (by decide +kernel) (by decide +kernel) (by decide +kernel) (by first | exact .inl (by decide +kernel) | exact .inr (by decide +kernel)) (by rw [isSubtype_type]; kernel_rfl)
theorem entry_next : entryFor table "set_iterator.__next__" = some Builtin.«set_iterator.__next__» := entryFor_of_tree (by kernel_rfl)
theorem entry_it : entryFor table "set_iterator.__iter__" = some Builtin.«dict_keyiterator.__iter__» := entryFor_alias (id' := "dict_keyiterator.__iter__") (by kernel_rfl) rfl (by decide +kernel) (by kernel_rfl)
theorem entry_iter : entryFor table "set.__iter__" = some Builtin.«frozenset.__iter__» := entryFor_alias (id' := "frozenset.__iter__") (by kernel_rfl) rfl (by decide +kernel) (by kernel_rfl)
theorem erase_perm {α : Type} : ∀ (l : List α) (i : Nat) (h : i < l.length), (l[i] :: l.eraseIdx i).Perm l
  | x :: l, 0, _ => List.Perm.refl _
  | x :: l, i + 1, h => by
    have ih := erase_perm l i (by simpa using h)
    have h' : i < l.length := by simpa using h
    show (l[i] :: x :: l.eraseIdx i).Perm (x :: l)
    exact (List.Perm.swap _ _ _).trans (ih.cons x)
theorem args_next (a : Value) : argsOk "set_iterator.__next__" ⟨[a], []⟩ := by unfold argsOk; kernel_rfl
theorem args_it (a : Value) : argsOk "set_iterator.__iter__" ⟨[a], []⟩ := by unfold argsOk; kernel_rfl
def IsIt (h : Heap) (it S : Addr) (k i n ep : Nat) : Prop := h.get? it = some { cls := .type "set_iterator", data := .fields #[.int k 0, .int i 0, .ref S, .int n 0, .int ep 0] }
theorem IsIt.ty {s : Shared} {it S : Addr} {k i n ep : Nat} (h : IsIt s.heap it S k i n ep) : s.TypeIs (.ref it) "set_iterator" := ⟨_, h, rfl⟩
theorem pick_perm {α : Type} (next : Nat → Nat) : ∀ (f k : Nat) (l : List α) (out : Array α), f = l.length → (pickOrder.go next f k l out).toList.Perm (out.toList ++ l)
  | 0, k, l, out, h => by
    have : l = [] := List.length_eq_zero_iff.mp h.symm
    subst this
    show out.toList.Perm _
    rw [List.append_nil]
  | f + 1, k, l, out, h => by
    have hlt : next k % l.length < l.length := Nat.mod_lt _ (by omega)
    unfold pickOrder.go
    rw [List.getElem?_eq_getElem hlt]
    dsimp only
    refine (pick_perm next f (k + 1) _ _ (by rw [List.length_eraseIdx_of_lt hlt]; omega)).trans ?_
    rw [Array.toList_push, List.append_assoc]
    refine List.Perm.append_left _ ?_
    exact erase_perm l _ hlt
def walk (w : World) (S : Addr) (es : Array (Int × Value)) (ep : Nat) : Array (Int × Value) := if w.params.followText "set-order" = true then pickOrder (w.params.setOrder S ep) es else es
theorem walk_perm (w : World) (S : Addr) (es : Array (Int × Value)) (ep : Nat) : (walk w S es ep).toList.Perm es.toList := by
  unfold walk
  split
  · have := pick_perm (w.params.setOrder S ep) es.size 0 es.toList #[] (by simp)
    simpa [pickOrder] using this
  · exact List.Perm.refl _
theorem walk_size (w : World) (S : Addr) (es : Array (Int × Value)) (ep : Nat) : (walk w S es ep).size = es.size := by
  have := (walk_perm w S es ep).length_eq
  simpa using this
def slotAt (w : World) (L : List Nat) (i : Nat) : Nat := if w.params.followText "set-order" = true then 0 else if i = 0 then 0 else L.getD (i - 1) 0 + 1
section
variable {prog : Program} {w : World} {A : Around} {E : Value → Shared → Prop} {s : Shared}
def ledOf (w : World) : Bool := !w.params.followText "set-order"
structure Tb (t : SetTable) (led : Bool) (L : List Nat) : Prop where
  pl : t.plain = true
  ld : t.led = led
  pc : t.place = L.toArray
  dm : t.dummies = #[]
  fg : t.finger = 0
  ft : t.fits L.length = true
theorem tb_is {led : Bool} {L : List Nat} (hL : L ∈ subs) : Tb (tb led L) led L := ⟨rfl, rfl, rfl, rfl, rfl, (tab4 L hL led (led_in led)).1⟩
structure JSet (h : Heap) (S : Addr) (led : Bool) (L : List Nat) : Prop where
  is : L ∈ subs ∧ ∃ es ep t, h.get? S = some { cls := .type "set", dict := none, data := .set es ep t } ∧ Tb t led L ∧ EsIs es L
theorem ISet.j {h : Heap} {S : Addr} {led : Bool} {L : List Nat} (x : ISet h S led L) : JSet h S led L := by
  obtain ⟨hL, es, ep, ho, he⟩ := x.is
  exact ⟨hL, es, ep, _, ho, tb_is hL, he⟩
theorem below_at {w : World} {L : List Nat} (hL : L ∈ subs) (hb : ¬ w.params.followText "set-order" = true) {i : Nat} (hi : i ≤ L.length) : SetTable.below L.toArray (slotAt w L i) = i := by
  unfold slotAt
  rw [if_neg hb]
  obtain ⟨_, a, b⟩ := tab4 L hL true (by simp)
  cases i with
  | zero => exact a
  | succ i =>
    rw [if_neg (by omega)]
    exact b i (List.mem_range.mpr (by omega))
theorem iter_set {S : Addr} {L : List Nat} {es : Array (Int × Value)} {ep : Nat} {Q : Value → Shared → Prop} {t : SetTable} (ht : Tb t (ledOf w) L) (hL : L ∈ subs) (ho : s.heap.get? S = some { cls := .type "set", dict := none, data := .set es ep t }) (he : EsIs es L)
    (hQ : Q (.ref s.heap.objs.size) { s with heap := s.heap.push { cls := .type "set_iterator", data := .fields #[.int 0 0, .int 0 0, .ref S, .int es.size 0, .int ep 0] } }) : wpAny (model prog w) A (pyIter (.ref S)) Q E s := by
  have ty : s.TypeIs (.ref S) "set" := ⟨_, ho, rfl⟩
  have hf : t.fits es.size = true := by rw [he.size]; exact ht.ft
  refine wpAny_pyIter_slot ty F.slot_set_iter (wpAny_call_entry F.slot_set_iter ty entry_iter ?_ (F.args_set_iter_1 _))
  unfold Builtin.«frozenset.__iter__» Builtin.Frozenset.slot0
  refine wpAny_bind (wpAny_bind (wpAny_pure (wpAny_pure ?_)))
  unfold Builtin.Frozenset.sizeOf
  refine wpAny_bind (wpAny_bind (wpAny_setEntries_of ho rfl hf (wpAny_pure ?_)))
  unfold setDrawn setsByText
  refine wpAny_bind (wpAny_bind (wpAny_setState_of ho rfl hf ?_))
  dsimp only
  refine wpAny_bind (wpAny_bind (wpAny_askSetting (wpAny_pure (wpAny_pure ?_))))
  refine wpAny_ite_split (fun hx => ?_) (fun _ => wpAny_bind (wpAny_pure ?_))
  · exfalso
    have hx' : (!(w.params.followText "set-order") && (!t.plain && decide (es.size > 1))) = true := hx
    have hp : t.plain = true := ht.pl
    rw [hp] at hx'
    simp at hx'
  · refine wpAny_bind (wpAny_setEpoch_of ho rfl hf ?_)
    simp only [newFields]
    refine wpAny_bind (wpAny_newObj_type (wpAny_pure ⟨_, rfl, "set_iterator", _, ⟨_, Heap.get?_push_size _ rfl, rfl⟩, slot_next.lookup, ?_⟩))
    exact hQ
theorem set_next {S : Addr} {L : List Nat} {es : Array (Int × Value)} {ep i : Nat} {Q' : Option (Value × Nat) → Shared → Prop} {t : SetTable} (ht : Tb t (ledOf w) L) (hL : L ∈ subs) (ho : s.heap.get? S = some { cls := .type "set", dict := none, data := .set es ep t }) (he : EsIs es L) (hi : i ≤ es.size)
    (hq : Q' (((walk w S es ep)[i]?).map fun e => (e.2, slotAt w L (i + 1))) s) : wpAny (model prog w) A (setNext S (slotAt w L i) i ep) Q' E s := by
  have hf : t.fits es.size = true := by rw [he.size]; exact ht.ft
  unfold setNext
  refine wpAny_bind (wpAny_setState_of ho rfl hf ?_)
  dsimp only
  unfold setsByText
  refine wpAny_bind (wpAny_bind (wpAny_askSetting (wpAny_pure ?_)))
  refine wpAny_ite_split (fun hb => ?_) (fun hb => ?_)
  · have hb' : w.params.followText "set-order" = true := hb
    refine wpAny_ite_split (fun hx => absurd hx (by simp)) (fun _ => ?_)
    unfold setWalk setsByText
    refine wpAny_bind (wpAny_bind (wpAny_setState_of ho rfl hf ?_))
    dsimp only
    refine wpAny_bind (wpAny_bind (wpAny_askSetting (wpAny_pure ?_)))
    refine wpAny_ite_split (fun _ => ?_) (fun hc => absurd hb hc)
    refine wpAny_bind (wpAny_askSetting (wpAny_pure (wpAny_pure ?_)))
    unfold walk slotAt at hq
    rw [if_pos hb', if_pos hb'] at hq
    unfold slotAt
    rw [if_pos hb']
    exact hq
  · have hb' : ¬ w.params.followText "set-order" = true := hb
    refine wpAny_ite_split (fun hx => ?_) (fun _ => ?_)
    · exfalso
      have hx' : (!t.plain && decide (es.size > 1)) = true := hx
      have hp : t.plain = true := ht.pl
      rw [hp] at hx'
      simp at hx'
    · have hled : ledOf w = true := by unfold ledOf; simpa using hb'
      refine wpAny_bind ?_
      refine (show wpAny (model prog w) A (if (!t.led && !es.isEmpty) = true then unsupported "set:maker-not-led" else pure ()) _ E s from ?_)
      refine wpAny_ite_split (fun hx => ?_) (fun _ => wpAny_pure (wpAny_pure ?_))
      · exfalso
        have hl2 : t.led = true := ht.ld.trans hled
        rw [hl2] at hx
        simp at hx
      · have hbl := below_at (w := w) hL hb' (i := i) (by rw [← he.size]; exact hi)
        have hpl : t.place = L.toArray := ht.pc
        rw [hpl, hbl]
        unfold walk at hq
        rw [if_neg hb'] at hq
        by_cases hlt : i < es.size
        · have hlt2 : i < L.length := by rw [← he.size]; exact hlt
          rw [Array.getElem?_eq_getElem hlt] at hq ⊢
          have e2 : L.toArray[i]? = some L[i] := by simp [hlt2]
          rw [e2]
          unfold slotAt at hq
          rw [if_neg hb', if_neg (by omega), Nat.add_sub_cancel, List.getD_eq_getElem?_getD, List.getElem?_eq_getElem hlt2] at hq
          exact hq
        · rw [Array.getElem?_eq_none (by omega)] at hq ⊢
          exact hq
theorem next_item {it S : Addr} {L : List Nat} {es : Array (Int × Value)} {ep i : Nat} {e : Int × Value} {Q : Option Value → Shared → Prop} {t : SetTable} (ht : Tb t (ledOf w) L) (hL : L ∈ subs) (ho : s.heap.get? S = some { cls := .type "set", dict := none, data := .set es ep t }) (he : EsIs es L)
    (hit : IsIt s.heap it S (slotAt w L i) i es.size ep) (hx : (walk w S es ep)[i]? = some e)
    (hQ : ∀ h', IsIt h' it S (slotAt w L (i + 1)) (i + 1) es.size ep → Heap.SameBut it s.heap h' → Q (some e.2) { s with heap := h' }) : wpAny (model prog w) A (pyNext (.ref it)) Q E s := by
  have hf : t.fits es.size = true := by rw [he.size]; exact ht.ft
  have hi : i < es.size := by
    rw [← walk_size w S es ep]
    exact (Array.getElem?_eq_some_iff.mp hx).1
  unfold pyNext
  refine wpAny_bind (wpAny_attempt (wpAny_callSpecial?_slot (name := Str.ofString "__next__") hit.ty slot_next (wpAny_call_entry slot_next hit.ty entry_next ?_ (args_next _))))
  unfold Builtin.«set_iterator.__next__»
  refine wpAny_bind (wpAny_pure ?_)
  refine wpAny_bind (wpAny_fieldsOf hit rfl ?_)
  dsimp only
  refine wpAny_bind (wpAny_setEntries_of ho rfl hf ?_)
  rw [if_neg (by simp)]
  simp only [Int.toNat_natCast]
  refine wpAny_bind (set_next ht hL ho he (by omega) ?_)
  rw [hx]
  dsimp only [Option.map_some]
  refine wpAny_bind (wpAny_setField hit rfl (by simp) ?_)
  have h1 := Heap.get?_update_self (Obj.mapFields (·.setIfInBounds 0 (rawInt ((slotAt w L (i + 1) : Nat) : Int)))) hit rfl
  refine wpAny_bind (wpAny_setField h1 rfl (by simp [Obj.mapFields]) ?_)
  have h2 := Heap.get?_update_self (Obj.mapFields (·.setIfInBounds 1 (rawInt ((i : Nat) + 1 : Int)))) h1 rfl
  refine wpAny_pure ⟨_, rfl, wpAny_pure (hQ _ ?_ ((Heap.SameBut.update ..).trans (Heap.SameBut.update ..)))⟩
  exact h2
theorem next_end {it S : Addr} {L : List Nat} {es : Array (Int × Value)} {ep : Nat} {Q : Option Value → Shared → Prop} (hh : A.handled = none) {t : SetTable} (ht : Tb t (ledOf w) L) (hL : L ∈ subs) (ho : s.heap.get? S = some { cls := .type "set", dict := none, data := .set es ep t }) (he : EsIs es L)
    (hit : IsIt s.heap it S (slotAt w L es.size) es.size es.size ep) (hQ : ∀ h', Heap.ExtBut it s.heap h' → Q none { s with heap := h' }) : wpAny (model prog w) A (pyNext (.ref it)) Q E s := by
  have hf : t.fits es.size = true := by rw [he.size]; exact ht.ft
  unfold pyNext
  refine wpAny_bind (wpAny_attempt (wpAny_callSpecial?_slot (name := Str.ofString "__next__") hit.ty slot_next (wpAny_call_entry slot_next hit.ty entry_next ?_ (args_next _))))
  unfold Builtin.«set_iterator.__next__»
  refine wpAny_bind (wpAny_pure ?_)
  refine wpAny_bind (wpAny_fieldsOf hit rfl ?_)
  dsimp only
  refine wpAny_bind (wpAny_setEntries_of ho rfl hf ?_)
  rw [if_neg (by simp)]
  simp only [Int.toNat_natCast]
  refine wpAny_bind (set_next ht hL ho he (Nat.le_refl _) ?_)
  rw [Array.getElem?_eq_none (by rw [walk_size]; exact Nat.le_refl _)]
  dsimp only [Option.map_none]
  refine wpAny_bind (wpAny_setField hit rfl (by simp) ?_)
  refine wpAny_bind ?_
  simp only [newExc, newTuple]
  refine wpAny_bind (wpAny_newObj_type (wpAny_bind (m := firstArgMember _ _) (wpAny_of_eq (a := Value.none) (by first | rfl | (simp only [firstArgMember]; rfl)) (wpAny_newObj_type ?_ (by size_fits)))) (by size_fits))
  simp only [raiseNew]
  refine wpAny_bind (wpAny_handled ?_)
  have hh1 : A.in1.handled = none := hh
  rw [hh1]
  refine wpAny_bind (wpAny_pure (wpAny_throw ?_))
  refine wpAny_bind (wpAny_isInstance (T := "StopIteration") (b := true) ⟨_, Heap.get?_push_size _ rfl, rfl⟩ isSubtype_stop (wpAny_pure (hQ _ (((Heap.SameBut.update ..).extBut.push _).push _))))
theorem walks_set (hh : A.handled = none) {I S : Addr} {L : List Nat} {es : Array (Int × Value)} {ep : Nat} {t : SetTable} (ht : Tb t (ledOf w) L) (hne : S ≠ I) (hL : L ∈ subs) (he : EsIs es L) :
    Walks prog w A I [I, S] [I] es.size (fun i v => ∃ e, (walk w S es ep)[i]? = some e ∧ v = e.2) (fun i h => IsIt h I S (slotAt w L i) i es.size ep ∧ h.get? S = some { cls := .type "set", dict := none, data := .set es ep t }) where
  sub := fun b hb => by simp at hb; simp [hb]
  frame := fun _ _ _ st hk => ⟨hk I (by simp) _ st.1, hk S (by simp) _ st.2⟩
  item := fun i s Q E hi st hQ => by
    have hw : i < (walk w S es ep).size := by rw [walk_size]; exact hi
    have hx : (walk w S es ep)[i]? = some (walk w S es ep)[i] := Array.getElem?_eq_getElem hw
    refine next_item ht hL st.2 he st.1 hx fun h' it' sb => ?_
    exact hQ _ h' s.toks ⟨_, hx, rfl⟩ ⟨it', sb.extBut S _ hne st.2⟩ fun b o hb e => sb.extBut b o (fun h => hb (by simp [h])) e
  done := fun s Q E st hQ => next_end hh ht hL st.2 he st.1 fun h' eb => hQ h' s.toks fun b o hb e => eb b o (fun h => hb (by simp [h])) e
  self := fun i s Q E st hQ => by
    refine wpAny_pyIter_slot st.1.ty slot_it (wpAny_call_entry slot_it st.1.ty entry_it ?_ (args_it _))
    show wpAny _ _ (ret (.ref I)) _ _ s
    exact wpAny_pure ⟨_, rfl, "set_iterator", _, st.1.ty, slot_next.lookup, hQ⟩
def add (L : List Nat) (x : Nat) : List Nat := if x ∈ L then L else ins L x
def lof (ns : List Nat) : List Nat := ns.foldl add []
theorem mem_ins {L : List Nat} {x y : Nat} : y ∈ ins L x ↔ y = x ∨ y ∈ L := by
  unfold ins
  rw [List.mem_append, List.mem_cons]
  have : y ∈ L ↔ y ∈ L.take (pos L x) ∨ y ∈ L.drop (pos L x) := by
    rw [← List.mem_append, List.take_append_drop]
  rw [this]
  constructor
  · rintro (h | h | h)
    · exact .inr (.inl h)
    · exact .inl h
    · exact .inr (.inr h)
  · rintro (h | h | h)
    · exact .inr (.inl h)
    · exact .inl h
    · exact .inr (.inr h)
theorem mem_add {L : List Nat} {x y : Nat} : y ∈ add L x ↔ y = x ∨ y ∈ L := by
  unfold add
  split
  · rename_i h
    exact ⟨.inr, fun q => q.elim (fun e => e ▸ h) id⟩
  · exact mem_ins
theorem fold_mem {y : Nat} : ∀ (ns L : List Nat), y ∈ ns.foldl add L ↔ y ∈ ns ∨ y ∈ L
  | [], L => by simp
  | n :: ns, L => by
    rw [List.foldl_cons, fold_mem ns, mem_add, List.mem_cons]
    constructor
    · rintro (h | h | h)
      · exact .inl (.inr h)
      · exact .inl (.inl h)
      · exact .inr h
    · rintro ((h | h) | h)
      · exact .inr (.inl h)
      · exact .inl h
      · exact .inr (.inr h)
theorem nil_subs : [] ∈ subs := by decide +kernel
theorem mem_lof {ns : List Nat} {y : Nat} : y ∈ lof ns ↔ y ∈ ns := by
  unfold lof; rw [fold_mem]; simp
theorem lof_succ {ns : List Nat} {i : Nat} (h : i < ns.length) : lof (ns.take (i + 1)) = add (lof (ns.take i)) ns[i] := by
  unfold lof
  rw [List.take_add_one, List.getElem?_eq_getElem h, List.foldl_append]
  rfl
end
end SI


set_option linter.all false
set_option maxRecDepth 100000
set_option maxHeartbeats 4000000
namespace SI
open PySem PyProof.Rows
section
variable {prog : Program} {w : World} {A : Around} {E : Value → Shared → Prop} {s : Shared}
def IntsN (vs : List Value) (ns : List Nat) : Prop := vs.length = ns.length ∧ ∀ (i : Nat) (v : Value), vs[i]? = some v → ∃ tk, v = Value.int ((ns.getD i 0 : Nat) : Int) tk
theorem fillI {S I l : Addr} {vs : List Value} {ns : List Nat} {led : Bool} {R : Result → Shared → Prop} (hh : A.in1.handled = none) (hT : IntsN vs ns) (hin : ∀ n ∈ ns, n < 6) (hSI : S ≠ I) (hSl : S ≠ l) (hlI : l ≠ I) :
    ∀ (k i : Nat) (s : Shared), ns.length - i = k → i ≤ ns.length → s.heap.IsListIter I l i → s.heap.IsList l vs.toArray → ISet s.heap S led (lof (ns.take i)) →
      (∀ h' tk, (∀ b o, b ≠ S → b ≠ I → s.heap.get? b = some o → h'.get? b = some o) → ISet h' S led (lof ns) → R (.ok (.ret .none)) { s with heap := h', toks := tk }) →
      codeAny (model prog w) A (.builtin "set.update.loop" ⟨[.ref S, .ref I], []⟩) R s := by
  intro k
  induction k with
  | zero =>
    intro i s hk hi hit hl hP hR
    have e : i = ns.length := by omega
    subst e
    rw [List.take_length] at hP
    refine codeAny_builtin F.entry_set_update_loop ?_
    rw [Around.under_plainId F.plain_set_update_loop _]
    show wpAny _ A.in1 (pyNext (.ref I) >>= _) _ _ s
    refine wpAny_bind (wpAny_pyNext_list_end hh hit hl (by simp [hT.1]) fun h' eb => ?_)
    show wpAny _ A.in1 (ret Value.none) _ _ _
    refine wpAny_pure (hR h' s.toks (fun b o _ hb e => eb b o hb e) ?_)
    obtain ⟨hL, es, ep, ho, r⟩ := hP.is
    exact ⟨hL, es, ep, eb S _ hSI ho, r⟩
  | succ k ih =>
    intro i s hk hi hit hl hP hR
    have hlt : i < ns.length := by omega
    have hvl : i < vs.length := by rw [hT.1]; exact hlt
    have hvi : vs[i]? = some vs[i] := List.getElem?_eq_getElem hvl
    obtain ⟨tk, ev⟩ := hT.2 i _ hvi
    have en : ns.getD i 0 = ns[i] := by rw [List.getD_eq_getElem?_getD, List.getElem?_eq_getElem hlt]; rfl
    rw [en] at ev
    refine codeAny_builtin F.entry_set_update_loop ?_
    rw [Around.under_plainId F.plain_set_update_loop _]
    show wpAny _ A.in1 (pyNext (.ref I) >>= _) _ _ s
    refine wpAny_bind (wpAny_pyNext_list_item hit hl (x := Value.int ((ns[i] : Nat) : Int) tk) (by rw [← ev]; simp) fun h1 hit1 sb1 => ?_)
    have k1 : ∀ b o, b ≠ I → s.heap.get? b = some o → h1.get? b = some o := fun b o hb e => sb1.extBut b o hb e
    have hP1 : ISet h1 S led (lof (ns.take i)) := by
      obtain ⟨hL, es, epo, ho, r⟩ := hP.is
      exact ⟨hL, es, epo, k1 S _ hSI ho, r⟩
    show wpAny _ A.in1 (holding [Value.int ((ns[i] : Nat) : Int) tk] (setAdd S (Value.int ((ns[i] : Nat) : Int) tk)) >>= _) _ _ _
    refine wpAny_bind (wpAny_holding (setAdd_int (A := A.in1) hP1 (hin _ (List.getElem_mem hlt)) fun b h2 tk2 sb2 hP2 => ?_))
    have k2 : ∀ b o, b ≠ S → h1.get? b = some o → h2.get? b = some o := fun b o hb e => sb2.extBut b o hb e
    have hP3 : ISet h2 S led (lof (ns.take (i + 1))) := by rw [lof_succ hlt]; exact hP2
    refine wpAny_pure ⟨plainId_quiet F.plain_set_update_loop _, ih (i + 1) { s with heap := h2, toks := tk2 } (by omega) (by omega) (hit1.extBut (fun b o hb e => k2 b o hb e) (Ne.symm hSI)) ?_ hP3 ?_⟩
    · exact (hl.extBut (fun b o hb e => k1 b o hb e) hlI).extBut (fun b o hb e => k2 b o hb e) (Ne.symm hSl)
    · intro h3 tk3 kp hP4
      exact hR h3 tk3 (fun b o hb hb' e => kp b o hb hb' (k2 b o hb (k1 b o hb' e))) hP4
theorem new_led (a : Value) {Q₁ : Value → Shared → Prop} (h : Q₁ (.ref s.heap.objs.size) { s with heap := s.heap.push { cls := .type "set", dict := none, data := .set #[] 0 (.fresh 0 0 (ledOf w)) } }) :
    codeAny (model prog w) A (.call (.builtin "set.__new__") ⟨[.type "set", a], []⟩) (wants Q₁ E) s := by
  refine codeAny_of_tree ?_
  show wpAny (model prog w) A.in1 (do checkBuiltinCall "set.__new__" ⟨[.type "set", a], []⟩; again (.builtin "set.__new__" ⟨[.type "set", a], []⟩)) _ _ _
  refine wpAny_bind (wpAny_of_eq (F.newCall_set_1 a) (wpAny_pure ⟨plainId_quiet F.plain_set_new _, ?_⟩))
  refine codeAny_builtin F.entry_set_new ?_
  rw [Around.under_plainId F.plain_set_new _]
  unfold Builtin.«set.__new__»
  unfold Builtin.Frozenset.newClass
  have sub1 := sub_set_self
  obtain ⟨hp, g, d, tk, os⟩ := s
  dsimp only
  wp_walk
  refine wpAny_askSetting (wpAny_pure ?_)
  dsimp only
  simp only [newObj]
  refine wpAny_bind (wpAny_alloc (wpAny_pure (wpAny_pure ?_)))
  exact h
set_option maxHeartbeats 4000000 in
theorem call_set_ints {l : Addr} {vs : List Value} {ns : List Nat} {Q : Value → Shared → Prop} (hh : A.handled = none) (hl : s.heap.IsList l vs.toArray) (hT : IntsN vs ns) (hin : ∀ n ∈ ns, n < 6)
    (h : ∀ h' tk, (∀ b o, b < s.heap.objs.size → s.heap.get? b = some o → h'.get? b = some o) → ISet h' s.heap.objs.size (ledOf w) (lof ns) → Q (.ref s.heap.objs.size) { s with heap := h', toks := tk }) :
    wpAny (model prog w) A (call (.type "set") [.ref l]) Q E s := by
  obtain ⟨c0, tl0, mro0⟩ := F.called_set.mro
  have made0 := F.called_set.made
  have sub0 := F.called_set.sub
  have nt0 := F.called_set.notType
  have cc0 := F.called_set.canCreate
  have tc0 := F.typeCall_set_1 (.ref l)
  refine wpAny_call (codeAny_of_tree ?_)
  show wpAny (model prog w) _ (callAny (.type "set") _) _ _ _
  refine wpAny_pure ⟨Code.quiet_builtin _ (by decide +kernel), codeAny_builtin F.entry_type_call ?_⟩
  rw [Around.under_plain (weight_type_call_type "set" [.ref l] []) rfl]
  repeat (any_goals (first | assumption | wp_step))
  refine codeAny_mono (new_led (.ref l) (E := E) (Q₁ := fun obj s1 => obj = .ref s.heap.objs.size ∧
    s1 = { s with heap := s.heap.push { cls := .type "set", dict := none, data := .set #[] 0 (.fresh 0 0 (ledOf w)) } }) ⟨rfl, rfl⟩) fun r s1 hr => ?_
  cases r with
  | error e => exact hr
  | ok fl =>
    cases fl with
    | ret obj =>
      obtain ⟨rfl, rfl⟩ := hr
      generalize hH : s.heap.push { cls := .type "set", dict := none, data := .set #[] 0 (.fresh 0 0 (ledOf w)) } = H1
      have hS : H1.get? s.heap.objs.size = some { cls := .type "set", dict := none, data := .set #[] 0 (.fresh 0 0 (ledOf w)) } := by rw [← hH]; exact Heap.get?_push_size _ rfl
      have old : ∀ b o, s.heap.get? b = some o → H1.get? b = some o := fun b o e => by rw [← hH]; exact Heap.get?_push_of_some _ e
      have hsz : H1.objs.size = s.heap.objs.size + 1 := by rw [← hH, Heap.size_push]
      have tyS : Shared.TypeIs { s with heap := H1 } (.ref s.heap.objs.size) "set" := ⟨_, hS, rfl⟩
      have li0 := F.called_set.init.lookup
      have bi0 := F.called_set.init.bind (.ref s.heap.objs.size)
      repeat (any_goals (first | assumption | wp_step))
      refine codeAny_mono (codeAny_call_builtin (R := wants (fun r s2 => r = .none ∧ ∃ h' tk, s2 = { s with heap := h', toks := tk } ∧ ISet h' s.heap.objs.size (ledOf w) (lof ns) ∧
        (∀ b o, b < s.heap.objs.size → s.heap.get? b = some o → h'.get? b = some o)) E) F.called_set.init.plain F.entry_set_init (check_set_init_1 tyS ?_)) fun r2 s2 hr2 => ?_
      · obtain ⟨ol, hol, hcl, nl, hdl⟩ := hl
        obtain ⟨oc, od, oda, osl⟩ := ol
        simp only at hcl hdl
        subst hcl; subst hdl
        have hol1 : H1.get? l = some { cls := .type "list", dict := od, data := .seq vs.toArray nl, slots := osl } := old _ _ hol
        have sls := F.sub_list_set
        have slf := F.sub_list_frozenset
        have nld : (Value.type "list" == Value.type "dict") = false := by decide
        have hl1 : H1.IsList l vs.toArray := ⟨_, hol1, rfl, nl, rfl⟩
        have llt : l < s.heap.objs.size := Heap.lt_size hol
        unfold Builtin.«set.__init__» noKeywords Builtin.Frozenset.updateFrom
        generalize hPI : pyIter = PI
        wp_walk
        subst hPI
        refine wpAny_pyIter_list hl1 ?_
        refine wpAny_bind (wpAny_runValue ?_)
        generalize hH2 : H1.push { cls := .type "list_iterator", data := .fields #[.ref l, .int 0 0] } = H2
        have old2 : ∀ b o, H1.get? b = some o → H2.get? b = some o := fun b o e => by rw [← hH2]; exact Heap.get?_push_of_some _ e
        refine fillI (l := l) (ns := ns) (vs := vs) (led := ledOf w) (by simp [hh]) hT hin (by show s.heap.objs.size ≠ H1.objs.size; rw [hsz]; exact Nat.ne_of_lt (Nat.lt_succ_self _)) (Nat.ne_of_gt llt) (by show l ≠ H1.objs.size; rw [hsz]; exact Nat.ne_of_lt (Nat.lt_succ_of_lt llt)) ns.length 0 _ (by omega) (Nat.zero_le _) ?_ ?_ ?_ ?_
        · rw [← hH2]
          exact ⟨_, Heap.get?_push_size _ rfl, rfl, rfl⟩
        · exact ⟨_, old2 _ _ hol1, rfl, nl, rfl⟩
        · refine ⟨nil_subs, #[], 0, old2 _ _ hS, [], rfl, rfl⟩
        · intro h' tk kp hP
          show wpAny _ _ (pure ()) _ _ _
          refine wpAny_pure ?_
          show wpAny _ _ (ret Value.none) _ _ _
          refine wpAny_pure ⟨rfl, h', tk, rfl, hP, fun b o hb e => ?_⟩
          refine kp b o (Nat.ne_of_lt hb) ?_ (old2 _ _ (old _ _ e))
          show b ≠ H1.objs.size
          rw [hsz]; exact Nat.ne_of_lt (Nat.lt_succ_of_lt hb)
      · cases r2 with
        | error e => exact hr2
        | ok f2 =>
          cases f2 with
          | ret r =>
            obtain ⟨rfl, h', tk, rfl, hP, hk⟩ := hr2
            repeat (any_goals (first | assumption | wp_step))
            exact h _ _ hk hP
          | _ => exact hr2.elim
    | _ => exact hr.elim
theorem hint_set {r : Addr} {Q : Bool → Shared → Prop} (hT : s.TypeIs (.ref r) "set") (h : Q false s) : wpAny (model prog w) A (Builtin.List.listLengthHint (.ref r)) Q E s := by
  unfold Builtin.List.listLengthHint
  refine wpAny_bind (wpAny_specialOf hT PySem.F.slot_set_len.lookup ?_)
  generalize hid : ("set.__len__" : String) = id0
  wp_delta
  rw [show splitId id0 = some ("set", "__len__") from by subst hid; decide +kernel]
  subst hid
  refine wpAny_bind (wpAny_isInstance (T := "set") (b := true) hT (by rw [isSubtype_type]; kernel_rfl) (wpAny_ite_split (fun hab => absurd hab (by decide)) (fun _ => wpAny_ite_split (fun _ => ?_) (fun hab => absurd (by decide +kernel) hab))))
  exact wpAny_bind (wpAny_typeOf hT (wpAny_pure h))
theorem src_set {S : Addr} {L : List Nat} {es : Array (Int × Value)} {ep : Nat} {t : SetTable} (ht : Tb t (ledOf w) L) (hL : L ∈ subs) (he : EsIs es L) :
    PySem.W.KdlSrc prog w "set" S S es.size (fun i v => ∃ e, (walk w S es ep)[i]? = some e ∧ v = e.2) (fun h => h.get? S = some { cls := .type "set", dict := none, data := .set es ep t }) where
  type := fun s ho => ⟨_, ho, rfl⟩
  there := fun h ho => ⟨Heap.lt_size ho, Heap.lt_size ho⟩
  keep := fun h h' ho k => k S (.inl rfl) _ ho
  notList := by decide
  notTuple := by decide
  hint := fun A E s Q ho q => hint_set ⟨_, ho, rfl⟩ q
  iter := fun A s hh ho => ⟨_, _, fun E Q q => iter_set ht hL ho he q, walks_set hh ht (Nat.ne_of_lt (Heap.lt_size ho)) hL he, ⟨by
    show IsIt _ _ _ (slotAt w L 0) 0 _ _
    have : slotAt w L 0 = 0 := by unfold slotAt; split <;> rfl
    rw [this]
    exact Heap.get?_push_size _ rfl, Heap.get?_push_of_some _ ho⟩⟩
theorem collect_set {S : Addr} {L : List Nat} {es : Array (Int × Value)} {ep : Nat} {Q : List Value → Shared → Prop} (hh : A.handled = none) {t : SetTable} (ht : Tb t (ledOf w) L) (hL : L ∈ subs) (he : EsIs es L) (ho : s.heap.get? S = some { cls := .type "set", dict := none, data := .set es ep t })
    (h : ∀ h' tk, s.heap.objs.size < h'.objs.size → (∀ b o, s.heap.get? b = some o → h'.get? b = some o) → Q ((walk w S es ep).toList.map (·.2)) { s with heap := h', toks := tk }) : wpAny (model prog w) A (collect (.ref S)) Q E s := by
  have hlt : S < s.heap.objs.size := Heap.lt_size ho
  have h6 := (tab3 L hL).2.1
  generalize hN : s.heap.objs.size = N
  have hNS : N ≠ S := by rw [← hN]; exact Nat.ne_of_gt hlt
  have key : ∀ R : Result → Shared → Prop, (∀ h' tk acc c, (∀ b o, s.heap.get? b = some o → h'.get? b = some o) → h'.get? N = some { cls := .type "list", dict := none, data := .seq acc c, slots := #[] } →
      ItemsOf (fun i v => ∃ e, (walk w S es ep)[i]? = some e ∧ v = e.2) acc es.size → R (.ok (.ret (.ref N))) { s with heap := h', toks := tk }) → codeAny (model prog w) A (.builtin "proto.collect" ⟨[.ref S], []⟩) R s := by
    intro R hR
    refine codeAny_builtin PyProof.Rows.entry_proto_collect' ?_
    rw [Around.under_plainId PySem.F.plain_proto_collect _]
    show wpAny (model prog w) A.in1 (newList [] >>= fun l => again (.builtin "list.__iadd__" ⟨[l, .ref S], []⟩)) _ _ s
    refine wpAny_bind (wpAny_newObj_type ?_)
    refine wpAny_pure ⟨plainId_quiet PySem.F.plain_list_iadd _, codeAny_builtin PySem.F.entry_list_iadd ?_⟩
    rw [Around.under_plainId PySem.F.plain_list_iadd _]
    rw [hN]
    show wpAny (model prog w) A.in1 (Builtin.List.listExtendWith (.ref N) (.ref S) (.ref N)) _ _ _
    have hS : (s.heap.push { cls := .type "list", data := .seq ([] : List Value).toArray }).get? N = some { cls := .type "list", data := .seq #[] 0 } := by rw [← hN]; exact Heap.get?_push_size _ rfl
    refine PySem.W.kdl_extend (s := { s with heap := s.heap.push { cls := .type "list", data := .seq ([] : List Value).toArray } }) (src_set (ep := ep) ht hL he) (by simpa using hh) (Heap.get?_push_of_some _ ho) N hNS hNS (.ref N) 0 hS (fun h' tk acc c kp hS' hacc => ?_) (by rw [he.size, sizeLine_eq]; omega)
    exact hR h' tk acc c (fun b o q => kp b o (by rw [← hN]; exact Nat.ne_of_lt (Heap.lt_size q)) (Heap.get?_push_of_some _ q)) hS' hacc
  unfold collect
  refine wpAny_bind (wpAny_runValue (key _ fun h' tk acc c kp hS' hacc => ?_))
  show wpAny (model prog w) A (load N >>= _) _ _ _
  refine wpAny_bind (wpAny_load hS' ?_)
  refine wpAny_pure ?_
  have e : acc.toList = (walk w S es ep).toList.map (·.2) := by
    apply List.ext_getElem?
    intro j
    by_cases hj : j < acc.size
    · obtain ⟨e, e1, e2⟩ := hacc.2 j _ (Array.getElem?_eq_getElem hj)
      rw [Array.getElem?_toList, Array.getElem?_eq_getElem hj, List.getElem?_map, Array.getElem?_toList, e1, e2]
      rfl
    · have hz : (walk w S es ep).size ≤ j := by rw [walk_size]; have := hacc.1; omega
      rw [Array.getElem?_toList, Array.getElem?_eq_none (by omega), List.getElem?_map, Array.getElem?_toList, Array.getElem?_eq_none hz]
      rfl
  show Q acc.toList _
  rw [e]
  exact h h' tk (by rw [hN]; exact Heap.lt_size hS') kp
theorem sorted_set {S : Addr} {L : List Nat} {Q : Value → Shared → Prop} (hh : A.handled = none) (hP : JSet s.heap S (ledOf w) L)
    (h : ∀ (r : Addr) (h' : Heap) (tk n : Nat) (out : List Value) (ms : List Int), s.heap.objs.size ≤ r → (∀ b o, s.heap.get? b = some o → h'.get? b = some o) → h'.get? r = some (seqObj "list" out.toArray n) → IntsAre out ms → ms.Pairwise (· ≤ ·) → ms.Perm (L.map fun (i : Nat) => (i : Int)) → Q (.ref r) { s with heap := h', toks := tk }) :
    wpAny (model prog w) A (call (.builtin "sorted") [.ref S]) Q E s := by
  obtain ⟨hL, es, ep, t, ho, ht, he⟩ := hP.is
  have h6 := (tab3 L hL).2.1
  refine Calls.call_function_entry kind_sorted plain_sorted entry_sorted (args_sorted1 _) ?_
  unfold Builtin.«sorted»
  refine wpAny_bind (m := checkCount "sorted" 1 1 _) (wpAny_pure ?_)
  refine wpAny_bind (collect_set (by simpa using hh) ht hL he ho fun h1 tk1 hgt k1 => ?_)
  have hil : ∃ ns : List Int, IntsAre ((walk w S es ep).toList.map (·.2)) ns ∧ ns.Perm (L.map fun (i : Nat) => (i : Int)) := by
    have hp := walk_perm w S es ep
    obtain ⟨tks, q1, q2⟩ := he
    have gen : ∀ (l : List (Int × Value)), (∀ e ∈ l, ∃ x tk, e = ent x tk) → IntsAre (l.map (·.2)) (l.map (·.1)) := by
      intro l
      induction l with
      | nil => intro _; exact .nil
      | cons e l ih =>
        intro hm
        obtain ⟨x, tk, rfl⟩ := hm e List.mem_cons_self
        exact .cons _ _ (ih fun e he => hm e (List.mem_cons_of_mem _ he))
    refine ⟨(walk w S es ep).toList.map (·.1), gen _ fun e hm => ?_, ?_⟩
    · obtain ⟨x, _, tk, e⟩ := EsIs.mem ⟨tks, q1, q2⟩ (hp.mem_iff.mp hm)
      exact ⟨x, tk, e⟩
    · refine (hp.map _).trans ?_
      rw [q2]
      have gen2 : ∀ (L : List Nat) (tks : List Tok), tks.length = L.length → (List.zipWith ent L tks).map (·.1) = L.map fun (i : Nat) => (i : Int) := by
        intro L
        induction L with
        | nil => intro tks _; rfl
        | cons a L ih =>
          intro tks hl
          cases tks with
          | nil => simp at hl
          | cons b tks => simp only [List.zipWith_cons_cons, List.map_cons, ih tks (by simpa using hl)]; rfl
      rw [gen2 L tks q1]
  obtain ⟨ns, hi, hpm⟩ := hil
  generalize (walk w S es ep).toList.map (·.2) = vs at hi ⊢
  have hlen : vs.length = L.length := by
    have a := hpm.length_eq
    have b := IntsAre.length hi
    rw [List.length_map] at a
    omega
  refine wpAny_bind (wpAny_newList ?_ (by rw [hlen, sizeLine_eq]; omega))
  have hoL : (h1.push (seqObj "list" vs.toArray 0)).get? h1.objs.size = some (seqObj "list" vs.toArray 0) := Heap.get?_push_size _ rfl
  show wpAny (model prog w) _ _ _ _ { s with heap := h1.push (seqObj "list" vs.toArray 0), toks := tk1 }
  refine wpAny_bind (wpAny_holding (wpAny_call_entry slot_list_sort ⟨_, hoL, rfl⟩ entry_list_sort (list_sort_tree hoL hi (by omega) fun out ms a1 a2 a3 => ⟨_, rfl, ?_⟩) (args_list_sort _)))
  refine wpAny_pure ⟨_, rfl, ?_⟩
  obtain ⟨e, he2⟩ := sortedHeap_at (out := out) hoL
  have hge : s.heap.objs.size ≤ h1.objs.size := Nat.le_of_lt hgt
  refine h h1.objs.size (sortedHeap (h1.push (seqObj "list" vs.toArray 0)) h1.objs.size vs out) tk1 e out.toList ms hge (fun b o q => ?_) (by simpa using he2) a1 a3 (a2.trans hpm)
  rw [sortedHeap_old (Nat.ne_of_lt (Heap.lt_size (k1 b o q))) (by rw [Heap.size_push]; exact Nat.lt_succ_of_lt (Heap.lt_size (k1 b o q)))]
  exact Heap.get?_push_of_some _ (k1 b o q)
end
end SI


set_option linter.all false
set_option maxRecDepth 100000
set_option maxHeartbeats 4000000
namespace L2
open PySem PySem.Spec PyProof.Rows
variable {X : Cx}
def SetI (w : World) (S : Addr) (L : List Nat) : Heap → Prop := fun h => SI.JSet h S (SI.ledOf w) L
def natV (n : Nat) : V := .int (n : Int)
theorem vals_nats : ∀ {ns : List Nat} {us : List Value}, Vals (ns.map natV) us → SI.IntsN us ns
  | [], _, .nil => ⟨rfl, fun i v h => by simp at h⟩
  | n :: ns, _, .cons r t => by
    obtain ⟨tk, rfl⟩ := r
    obtain ⟨a, b⟩ := vals_nats t
    refine ⟨by simp [a], fun i v h => ?_⟩
    cases i with
    | zero => simp at h; exact ⟨tk, h.symm⟩
    | succ i => simpa using b i v (by simpa using h)
theorem call_sortS (hc : X.calm = true) : CallR X (.builtin "sorted") (fun xs H Q => ∃ (S : Addr) (L : List Nat), xs = [.ref S] ∧ H S = some (.ext (SetI X.w S L)) ∧ ∀ (r : Addr) (ms : List Int), H r = none → ms.Pairwise (· ≤ ·) → ms.Perm (L.map fun (i : Nat) => (i : Int)) → Q (.ref r) (upd H r (.lst (ms.map V.int)))) := by
  intro pins s σ H xs us Q I r h
  obtain ⟨S, L, rfl, hS, q⟩ := h
  obtain ⟨u, rfl, ru⟩ := Vals.one r
  cases ru
  obtain ⟨P, _, _⟩ := (show ObjOk X.prog X.w H s.heap S (.ext (SetI X.w S L)) from I.hok S _ hS)
  have h6 := (SI.tab3 L P.is.1).2.1
  refine SI.sorted_set (I.ok.hd hc) P fun r h' tk n out ms hge kp ho hi hs hp => ?_
  have hn : H r = none := I.hok.fresh hge
  have hl : ms.length ≤ 6 := by have := hp.length_eq; rw [List.length_map] at this; omega
  refine ⟨.ref r, _, I.laid (t' := tk) (o := .lst (ms.map V.int)) (fun b o e => kp b o e) hge ?_, rfl, q r ms hn hs hp⟩
  exact ⟨by rw [List.length_map, sizeLine_eq]; omega, out, n, vals_ints hi, ho⟩
def rExtendT (K : PySem.W.Frag) : V → List V → Hp → VK → Prop := fun x vs H Q => ∃ l b xs zs, x = .ref l ∧ vs = [.ref b] ∧ H l = some (.lst xs) ∧ SqT K H b zs ∧ xs.length + zs.length ≤ sizeLine ∧ Q .non (upd H l (.lst (xs ++ zs)))
end L2
namespace U
open PySem PySem.Spec PyProof.Rows L2
variable {B : Bs} {X : Cx} {e : Expr} {ta : TE'} {p p2 pos pos2 : Pos}
def natP (n : Nat) : PV := .int (n : Int)
theorem rps_nats {K : PySem.W.Frag} {H : Hp} : ∀ {ns : List Nat} {us : List V}, RPs K H (ns.map natP) us → us = ns.map natV
  | [], us, h => by simpa [RPs] using h
  | b :: bs, us, h => by
    simp only [List.map_cons, RPs, RP, natP] at h
    obtain ⟨u, r, rfl, rfl, h2⟩ := h
    rw [rps_nats h2]; rfl
def sortSet (x : PV) (H : PHp) (Q : VK') : Prop := match x with
  | .ref a => ∃ ns : List Nat, H a = some (.lst (ns.map natP)) ∧ (∀ n ∈ ns, n < 6) ∧ ∀ (r : Addr) (ms : List Nat), H r = none → ms.Pairwise (· < ·) → (∀ x, x ∈ ms ↔ x ∈ ns) → Q (.ref r) (put H r (.lst (ms.map natP)))
  | _ => False
theorem nat_list {L : List Nat} : ∀ {ms : List Int}, (∀ x ∈ ms, ∃ n ∈ L, x = ((n : Nat) : Int)) → ms = (ms.map Int.toNat).map fun (n : Nat) => (n : Int)
  | [], _ => rfl
  | x :: ms, h => by
    obtain ⟨n, _, rfl⟩ := h x List.mem_cons_self
    rw [List.map_cons, List.map_cons, ← nat_list (ms := ms) fun y hy => h y (List.mem_cons_of_mem _ hy)]
    rfl
end U
namespace L2
open PySem PySem.Spec PyProof.Rows
variable {X : Cx} {tg : Expr}
theorem mt_extendT : MtM X "list.extend" (rExtendT X.K) := by
  intro pins s σ H x vs v us Q I rx rv h
  obtain ⟨l, b, xs, zs, rfl, rfl, hH, hB, hz, q⟩ := h
  cases rx
  obtain ⟨u, rfl, ru⟩ := rv.one
  cases ru
  obtain ⟨z, its, n, r, hl, e⟩ := I.lstM hH
  obtain ⟨is2, r2, ⟨o2, ho2, hc2, n2, hd2⟩, hz2⟩ := I.tuple hB
  have hne : l ≠ b := by
    rintro rfl
    rw [e] at ho2; cases ho2; exact absurd (show Value.type "list" = Value.type "tuple" from hc2) (by decide)
  have hlen2 := r2.length
  refine wpAny_call_entry F.slot_list_extend ⟨_, e, rfl⟩ F.entry_list_extend ?_ (F.args_list_extend_2 _ _)
  show wpAny _ _ (Builtin.List.listExtendWith (.ref l) (.ref b) .none) _ _ _
  unfold Builtin.List.listExtendWith
  refine wpAny_bind (wpAny_typeOf (T := "tuple") ⟨o2, ho2, hc2⟩ ?_)
  rw [if_pos (by rw [show (Value.type "tuple" == Value.type "tuple") = true from rfl]; simp)]
  refine wpAny_bind (listItems_at ho2 hd2 ?_)
  refine wpAny_bind (listItems_at (xs := its.toArray) (n := n) e rfl ?_)
  have hsz : its.toArray.size + is2.toArray.size ≤ sizeLine := by rw [List.size_toArray, List.size_toArray]; omega
  rw [if_neg (by rw [notLongL hsz, Bool.and_false]; exact Bool.false_ne_true)]
  refine wpAny_bind (listUpdate_at (xs := its.toArray) (n := n) e rfl ?_ (by rw [List.size_toArray]; omega) (by show (its.toArray ++ is2.toArray).size ≤ _; rw [Array.size_append]; omega))
  refine wpAny_pure ⟨_, rfl, ?_⟩
  refine ⟨.non, _, I.lset (its' := its ++ is2) hH e (by simp) (r.append r2) ?_, rfl, q⟩
  rw [List.length_append]
  omega
end L2
namespace U
open PySem PySem.Spec PyProof.Rows L2
variable {B : Bs} {X : Cx} {a b c : Expr} {pos : Pos}
def uExtT : PV → List PV → PHp → VK' → Prop := fun x vs H Q => match x, vs with
  | .ref a, [.tup m] => ∃ l, H a = some (.lst l) ∧ l.length + m.length ≤ sizeLine ∧ Q .non (put H a (.lst (l ++ m)))
  | _, _ => False
theorem w_et {a : Addr} {m : List PV} {H : PHp} {Q : VK'} : uExtT (.ref a) [.tup m] H Q = ∃ l, H a = some (.lst l) ∧ l.length + m.length ≤ sizeLine ∧ Q .non (put H a (.lst (l ++ m))) := rfl
theorem vm_extT {K : PySem.W.Frag} : VM K B uExtT (rExtendT K) := by
  intro σ' σ H' H x' xs' x xs Q' Q s rx r h k
  unfold uExtT at h
  split at h
  · rename_i a m
    obtain ⟨l, e, hl, h⟩ := h
    obtain ⟨us, q, r2⟩ := s.hp _ _ e
    simp only [RP, RPs] at rx r
    obtain ⟨u, r1, rfl, ⟨b, ws, rfl, hb, r3⟩, rfl⟩ := r
    subst rx
    exact ⟨a, b, us, ws, rfl, rfl, q, hb, by rw [RPs.length _ r2, RPs.length _ r3]; exact hl, k _ _ _ _ h (by simp [RP]) (s.wr e (wrL s.hp e (RPs.append _ r2 r3))) (Ev.wr e)⟩
  · exact h.elim
end U


set_option linter.all false
set_option maxRecDepth 100000
set_option maxHeartbeats 4000000
namespace U
open PySem PySem.Spec PyProof.Rows L2
variable {B : Bs} {X : Cx} {a b : Expr} {ta tb : TE'} {pos : Pos}
theorem nats_of {F : List Int} (h : ∀ x ∈ F, 0 ≤ x ∧ x < 6) : F.map PV.int = (F.map Int.toNat).map natP := by
  rw [List.map_map]
  refine List.map_congr_left fun x hx => ?_
  have := h x hx
  show PV.int x = PV.int ((x.toNat : Nat) : Int)
  congr 1
  omega
end U


set_option linter.all false
set_option maxRecDepth 100000
set_option maxHeartbeats 4000000
namespace SI
open PySem PyProof.Rows
section
variable {prog : Program} {w : World} {A : Around} {E : Value → Shared → Prop} {s : Shared} {T : String} {r d : Addr} {n : Nat} {P : Nat → Value → Prop} {OK : Heap → Prop}
end
end SI


set_option linter.all false
set_option maxRecDepth 100000
set_option maxHeartbeats 4000000
namespace L2
open PySem PySem.Spec PyProof.Rows
variable {X : Cx}
end L2
namespace U
open PySem PySem.Spec PyProof.Rows L2
variable {B : Bs} {X : Cx} {a b o i value : Expr} {ta tb td ty : TE'} {pos pos' : Pos}
def dkP (ks : List Int) : PO := .dK (ks.map fun n => (Sum.inl n, PV.bl true))
def notInD (y x : PV) (H : PHp) (Q : VK') : Prop := match y, x with
  | .int n, .ref a => ∃ ks, H a = some (dkP ks) ∧ Q (.bl (!decide (n ∈ ks))) H
  | _, _ => False
def uSortD : List PV → PHp → VK' → Prop := arg1 fun x H Q => match x with
  | .ref a => ∃ ks : List Int, H a = some (dkP ks) ∧ ks.length < 64 ∧ ∀ (r : Addr) (ms : List Int), H r = none → ms.Pairwise (· ≤ ·) → ms.Perm ks → Q (.ref r) (put H r (.lst (ms.map PV.int)))
  | _ => False
end U
namespace U
open PySem PySem.Spec PyProof.Rows L2
theorem hl_pop : ∀ x H Q, uPop x [] H Q → match x with | .ref a => ∃ l, H a = some (.lst l) | _ => False := by
  intro x H Q h
  cases x with
  | ref a => obtain ⟨l, y, e, _⟩ := h; exact ⟨l, e⟩
  | _ => exact h
end U


set_option linter.all false
set_option maxRecDepth 100000
set_option maxHeartbeats 4000000
namespace L2
open PySem PySem.Spec PyProof.Rows
variable {X : Cx}
end L2
namespace U
open PySem PySem.Spec PyProof.Rows L2
variable {B : Bs} {X : Cx} {a b e : Expr} {ta tb : TE'} {p p2 pos pos2 : Pos}
end U


set_option linter.all false
set_option maxRecDepth 100000
set_option maxHeartbeats 4000000 -- own
namespace SI
open PySem PyProof.Rows
section
variable {prog : Program} {w : World} {A : Around} {E : Value → Shared → Prop} {s : Shared}
theorem addH_int {S : Addr} {led : Bool} {L : List Nat} {x : Nat} {tk : Tok} {Q : Bool → Shared → Prop} (hP : ISet s.heap S led L) (hx : x < 6)
    (h : ∀ b h' tks, Heap.SameBut S s.heap h' → ISet h' S led (if x ∈ L then L else ins L x) → Q b { s with heap := h', toks := tks }) : wpAny (model prog w) A (setAddHashed S (.int (x : Int) tk) (x : Int)) Q E s := by
  obtain ⟨hL, es, ep, ho, he⟩ := hP.is
  obtain ⟨s1, hs'⟩ : ∃ s1, ({ s with toks := s.toks } : Shared) = s1 := ⟨_, rfl⟩
  suffices g : wpAny (model prog w) A (setAddHashed S (.int (x : Int) tk) (x : Int)) Q E s1 from (show s = s1 from hs') ▸ g
  have e1 : s1.heap = s.heap := by rw [← hs']
  have hs1 : ∀ hh' : Heap, ({ s1 with heap := hh' } : Shared) = { s with heap := hh', toks := s1.toks } := fun hh' => by rw [← hs']
  have ho1 : s1.heap.get? S = some { cls := .type "set", dict := none, data := .set es ep (tb led L) } := by rw [e1]; exact ho
  have hf : (tb led L).fits es.size = true := by rw [he.size]; exact (tab4 L hL led (led_in led)).1
  have hel := he.elems (prog := prog) (w := w) hL
  have h6 := (tab3 L hL).2.1
  have hbd : es.size < scanBound := by rw [he.size]; unfold scanBound; omega
  have scan : ∀ {Q' : ScanMet → Shared → Prop}, Q' (match es.toList.findIdx? (fun e => (intKind prog w).is ((x : Nat) : Int) e.2) with | some j => .found (0 + j) | none => .absent) s1 → wpAny (model prog w) A (setScan S (.int ((x : Nat) : Int) tk) ((x : Nat) : Int) true es) Q' E s1 := by
    intro Q' hq
    have := wpAny_setScan_of (knd := intKind prog w) (adding := true) (x := .int ((x : Nat) : Int) tk) (k := ((x : Nat) : Int)) (A := A) (E := E) (Q := Q') (intKind_is _ _ _ _) ho1 rfl hf hel hq
    rwa [hash_int hx] at this
  unfold setAddHashed setAddHashedIn
  refine wpAny_holding (wpAny_bind (wpAny_setState_of ho1 rfl hf ?_))
  dsimp only
  rw [byScan_of (knd := intKind prog w) rfl hbd hel]
  simp only [↓reduceIte]
  unfold setAddByScan
  refine wpAny_bind ?_
  refine wpAny_bind (wpAny_rule ?_)
  refine wpAny_bind (scan ?_)
  cases hr : List.findIdx? (fun e => (intKind prog w).is ((x : Nat) : Int) e.2) es.toList with
  | some j =>
    dsimp only
    obtain ⟨hj, hpj, _⟩ := List.findIdx?_eq_some_iff_getElem.mp hr
    obtain ⟨y, hy, tk', ee⟩ := he.mem (List.getElem_mem hj)
    have hxy : x = y := by
      rw [ee] at hpj
      have q : (intKind prog w).is ((x : Nat) : Int) (.int ((y : Nat) : Int) tk') = true := hpj
      have := (intKind prog w).inj _ _ _ q (intKind_is _ _ _ _)
      omega
    subst hxy
    refine wpAny_pure (wpAny_pure ?_)
    have := h false s.heap s1.toks (Heap.SameBut.refl S s.heap) (by rw [if_pos hy]; exact hP)
    have e : s1 = { s with heap := s.heap, toks := s1.toks } := by rw [← hs1]; cases s1; simp only at e1; rw [e1]
    rw [e]; exact this
  | none =>
    dsimp only
    have hn : x ∉ L := fun hm => by
      obtain ⟨tk', hm'⟩ := he.of hm
      have := List.findIdx?_eq_none_iff.mp hr _ hm'
      have q : (intKind prog w).is ((x : Nat) : Int) (.int ((x : Nat) : Int) tk') = true := intKind_is _ _ _ _
      have this' : (intKind prog w).is ((x : Nat) : Int) (.int ((x : Nat) : Int) tk') = false := this
      rw [q] at this'; cases this'
    obtain ⟨f1, f2⟩ := tab1 led (led_in led) L hL x (List.mem_range.mpr hx) hn
    obtain ⟨f3, f4⟩ := tab2 led (led_in led) L hL x (List.mem_range.mpr hx) hn
    have hins := (tab3 L hL).2.2.2 x (List.mem_range.mpr hx) hn
    have hin2 := he.ins x tk
    have hsz2 := hin2.size
    have hln : (ins L x).length = L.length + 1 := by unfold ins; simp only [List.length_append, List.length_cons, List.length_take, List.length_drop]; omega
    have hlay : layNew (tb led L) es ((x : Nat) : Int) (.int ((x : Nat) : Int) tk) = (SetTable.insertAt es (pos L x) (ent x tk), tp led L x, false, false) := by
      unfold layNew
      rw [f1]
      dsimp only
      rw [f2]
      dsimp only
      have e2 : (tp led L x).fits (SetTable.insertAt es (pos L x) (ent x tk)).size = true := by rw [hsz2]; exact f3
      show (SetTable.insertAt es (pos L x) (ent x tk), (tp led L x).orStandIn (SetTable.insertAt es (pos L x) (ent x tk)).size, false, !(tp led L x).fits (SetTable.insertAt es (pos L x) (ent x tk)).size) = _
      unfold SetTable.orStandIn
      rw [if_pos e2, e2]
      rfl
    rw [hlay]
    dsimp only
    refine wpAny_bind (wpAny_pure ?_)
    have hpl : (tp led L x).plain = true := rfl
    rw [hpl]
    simp only [↓reduceIte]
    refine wpAny_bind ?_
    rw [hashByValue_scannable 8 (x := .int ((x : Nat) : Int) tk) rfl]
    refine wpAny_pure ?_
    have hpk : plainKind (.int ((x : Nat) : Int) tk) = true := rfl
    rw [hpk]
    simp only [↓reduceIte]
    have hz : (SetTable.insertAt es (pos L x) (ent x tk)).size ≤ sizeLine := by rw [hsz2, hln, sizeLine_eq]; omega
    refine wpAny_bind (wpAny_storeSet_of ho1 rfl ?_ hz)
    have hg : (s1.heap.update S (Obj.putSet (SetTable.insertAt es (pos L x) (ent x tk)) (tp led L x))).get? S = some { cls := .type "set", dict := none, data := .set (SetTable.insertAt es (pos L x) (ent x tk)) (ep + 1) (tp led L x) } :=
      Heap.get?_update_self _ ho1 rfl
    have sb1 : Heap.SameBut S s.heap (s1.heap.update S (Obj.putSet (SetTable.insertAt es (pos L x) (ent x tk)) (tp led L x))) := by rw [e1]; exact Heap.SameBut.update ..
    by_cases h4 : L.length = 4
    · rw [if_pos h4] at f4
      rw [f4.1]
      simp only [Bool.not_false, Bool.and_self, ↓reduceIte]
      have hw : SetTable.grown (SetTable.insertAt es (pos L x) (ent x tk)).size = 20 := by rw [hsz2, hln, h4]; rfl
      have hmp : (SetTable.insertAt es (pos L x) (ent x tk)).map (·.1) = ((ins L x).map Int.ofNat).toArray := by
        obtain ⟨tks, q1, q2⟩ := hin2
        apply Array.toList_inj.mp
        rw [Array.toList_map, q2]
        have gen : ∀ (L : List Nat) (tks : List Tok), tks.length = L.length → (List.zipWith ent L tks).map (·.1) = L.map Int.ofNat := by
          intro L
          induction L with
          | nil => intro tks _; rfl
          | cons a L ih =>
            intro tks hl
            cases tks with
            | nil => simp at hl
            | cons b tks => simp only [List.zipWith_cons_cons, List.map_cons, ih tks (by simpa using hl)]; rfl
        exact gen _ _ q1
      have h5 : (SetTable.insertAt es (pos L x) (ent x tk)).size = 5 := by rw [hsz2, hln, h4]
      have hrl : relayAll (tp led L x) (SetTable.insertAt es (pos L x) (ent x tk)) (SetTable.grown (SetTable.insertAt es (pos L x) (ent x tk)).size) = (SetTable.insertAt es (pos L x) (ent x tk), tb led (ins L x), false) := by
        unfold relayAll
        rw [hw, hmp, f4.2]
        dsimp only
        rw [filterMap5 _ h5]
        have c1 : coversAll #[0, 1, 2, 3, 4] (SetTable.insertAt es (pos L x) (ent x tk)).size = true := by rw [h5]; decide +kernel
        have c2 : (tb led (ins L x)).fits (SetTable.insertAt es (pos L x) (ent x tk)).size = true := by rw [hsz2]; exact (tab4 _ hins led (led_in led)).1
        rw [c1, c2]
        rfl
      rw [hrl]
      dsimp only
      refine wpAny_bind (wpAny_pure ?_)
      refine wpAny_bind (wpAny_storeSet_of hg rfl ?_ hz)
      have hg3 := Heap.get?_update_self (Obj.putSet (SetTable.insertAt es (pos L x) (ent x tk)) (tb led (ins L x))) hg rfl
      refine wpAny_pure (wpAny_pure ?_)
      rw [hs1]
      refine h true _ _ (sb1.trans (Heap.SameBut.update ..)) ?_
      rw [if_neg hn]
      exact ⟨hins, _, _, hg3, hin2⟩
    · rw [if_neg h4] at f4
      rw [f4.1]
      simp only [Bool.not_false, Bool.and_false, Bool.false_eq_true, ↓reduceIte]
      refine wpAny_pure (wpAny_pure ?_)
      rw [hs1]
      refine h true _ _ sb1 ?_
      rw [if_neg hn]
      rw [f4.2] at hg
      rw [f4.2]
      exact ⟨hins, _, _, hg, hin2⟩
theorem find_int {O : Addr} {led : Bool} {L : List Nat} {x : Nat} {tk : Tok} {Q : Option Nat → Shared → Prop} (hP : JSet s.heap O led L) (hx : x < 6) (h1 : x ∈ L → ∀ i, Q (some i) s) (h2 : x ∉ L → Q none s) : wpAny (model prog w) A (setFind O (.int (x : Int) tk) (x : Int)) Q E s := by
  obtain ⟨hL, es, ep, t, ho, ht, he⟩ := hP.is
  have hf : t.fits es.size = true := by rw [he.size]; exact ht.ft
  have hel := he.elems (prog := prog) (w := w) hL
  have h6 := (tab3 L hL).2.1
  have hbd : es.size < scanBound := by rw [he.size]; unfold scanBound; omega
  have scan : ∀ {Q' : ScanMet → Shared → Prop}, Q' (match es.toList.findIdx? (fun e => (intKind prog w).is ((x : Nat) : Int) e.2) with | some j => .found (0 + j) | none => .absent) s → wpAny (model prog w) A (setScan O (.int ((x : Nat) : Int) tk) ((x : Nat) : Int) false es) Q' E s := by
    intro Q' hq
    have := wpAny_setScan_of (knd := intKind prog w) (adding := false) (x := .int ((x : Nat) : Int) tk) (k := ((x : Nat) : Int)) (A := A) (E := E) (Q := Q') (intKind_is _ _ _ _) ho rfl hf hel hq
    rwa [hash_int hx] at this
  unfold setFind setFindIn
  refine wpAny_bind (wpAny_setState_of ho rfl hf ?_)
  dsimp only
  rw [byScan_of (knd := intKind prog w) rfl hbd hel]
  simp only [↓reduceIte]
  refine wpAny_bind (wpAny_rule (wpAny_bind (scan ?_)))
  cases hr : List.findIdx? (fun e => (intKind prog w).is ((x : Nat) : Int) e.2) es.toList with
  | some j =>
    dsimp only
    obtain ⟨hj, hpj, _⟩ := List.findIdx?_eq_some_iff_getElem.mp hr
    obtain ⟨y, hy, tk', ee⟩ := he.mem (List.getElem_mem hj)
    have hxy : x = y := by
      rw [ee] at hpj
      have q : (intKind prog w).is ((x : Nat) : Int) (.int ((y : Nat) : Int) tk') = true := hpj
      have := (intKind prog w).inj _ _ _ q (intKind_is _ _ _ _)
      omega
    subst hxy
    exact wpAny_pure (h1 hy _)
  | none =>
    dsimp only
    refine wpAny_pure (h2 fun hm => ?_)
    obtain ⟨tk', hm'⟩ := he.of hm
    have this' : (intKind prog w).is ((x : Nat) : Int) (.int ((x : Nat) : Int) tk') = false := List.findIdx?_eq_none_iff.mp hr _ hm'
    rw [intKind_is] at this'
    cases this'
theorem walk_of {S : Addr} {L : List Nat} {es : Array (Int × Value)} {ep : Nat} {t : SetTable} {others : List Addr} {f : Option Addr} {Q : Array (Int × Value) → Shared → Prop} (ht : Tb t (ledOf w) L) (ho : s.heap.get? S = some { cls := .type "set", dict := none, data := .set es ep t }) (he : EsIs es L) (q : Q (walk w S es ep) s) :
    wpAny (model prog w) A (setWalkUnseen S others f) Q E s := by
  have hf : t.fits es.size = true := by rw [he.size]; exact ht.ft
  unfold setWalkUnseen setsByText
  refine wpAny_bind (wpAny_setState_of ho rfl hf ?_)
  dsimp only
  refine wpAny_bind (wpAny_bind (wpAny_askSetting (wpAny_pure ?_)))
  have hc : (w.params.followText "set-order" || (t.led && t.plain) || decide (es.size ≤ 1)) = true := by
    rw [ht.ld, ht.pl]
    unfold ledOf
    cases w.params.followText "set-order" <;> simp
  refine wpAny_ite_split (fun _ => ?_) (fun hn => absurd hc hn)
  unfold setWalk setsByText
  refine wpAny_bind (wpAny_setState_of ho rfl hf ?_)
  dsimp only
  refine wpAny_bind (wpAny_bind (wpAny_askSetting (wpAny_pure ?_)))
  unfold walk at q
  refine wpAny_ite_split (fun hb => ?_) (fun hb => ?_)
  · have hb' : w.params.followText "set-order" = true := hb
    rw [if_pos hb'] at q
    exact wpAny_bind (wpAny_askSetting (wpAny_pure q))
  · have hb' : ¬ w.params.followText "set-order" = true := hb
    rw [if_neg hb'] at q
    refine wpAny_ite_split (fun hx => ?_) (fun _ => ?_)
    · exfalso
      have hx' : (!t.plain && decide (es.size > 1)) = true := hx
      rw [ht.pl] at hx'
      simp at hx'
    · have hled : t.led = true := ht.ld.trans (by unfold ledOf; simpa using hb')
      refine wpAny_bind ?_
      refine (show wpAny (model prog w) A (if (!t.led && decide (es.size > 1)) = true then unsupported "set:maker-not-led" else pure ()) _ E s from ?_)
      refine wpAny_ite_split (fun hx => ?_) (fun _ => wpAny_pure (wpAny_pure q))
      exfalso
      rw [hled] at hx
      simp at hx
theorem diff_plain {S O : Addr} {L M : List Nat} {id : String} {Q : Value → Shared → Prop} (hne : S ≠ O) (hS : JSet s.heap S (ledOf w) L) (hO : JSet s.heap O (ledOf w) M) (hsm : ¬ L.length / 4 > M.length)
    (h : ∀ h' tk L', (∀ b o, s.heap.get? b = some o → h'.get? b = some o) → JSet h' s.heap.objs.size (ledOf w) L' → (∀ x, x ∈ L' ↔ x ∈ L ∧ x ∉ M) → Q (.ref s.heap.objs.size) { s with heap := h', toks := tk }) :
    wpAny (model prog w) A (Builtin.Frozenset.difference id S (.ref O)) Q E s := by
  obtain ⟨hL, es, ep, t, ho, ht, he⟩ := hS.is
  obtain ⟨hM, fs, fp, u, go, gt, ge⟩ := hO.is
  have hf : t.fits es.size = true := by rw [he.size]; exact ht.ft
  have gf : u.fits fs.size = true := by rw [ge.size]; exact gt.ft
  have tyO : s.TypeIs (.ref O) "set" := ⟨_, go, rfl⟩
  have tyS : s.TypeIs (.ref S) "set" := ⟨_, ho, rfl⟩
  have sub1 := sub_set_self
  unfold Builtin.Frozenset.difference Builtin.Frozenset.isAnySet orM
  dsimp only
  refine wpAny_bind (wpAny_bind (wpAny_isInstance tyO sub1 (wpAny_pure ?_)))
  simp only [Bool.not_true, Bool.false_and, Bool.false_eq_true, if_false, if_true, ↓reduceIte]
  refine wpAny_bind (m := Builtin.Frozenset.addrOf (.ref O)) (wpAny_pure ?_)
  unfold Builtin.Frozenset.sizeOf
  refine wpAny_bind (wpAny_bind (wpAny_setEntries_of go rfl gf (wpAny_pure ?_)))
  refine wpAny_bind (wpAny_bind (wpAny_setEntries_of ho rfl hf (wpAny_pure ?_)))
  rw [if_neg (by rw [he.size, ge.size]; exact hsm)]
  unfold Builtin.Frozenset.baseOf
  refine wpAny_bind (wpAny_bind (wpAny_isInstance tyS sub1 (wpAny_pure ?_)))
  simp only [↓reduceIte]
  unfold newSet setsByText
  refine wpAny_bind (wpAny_bind (wpAny_bind (wpAny_askSetting (wpAny_pure ?_))))
  dsimp only
  refine wpAny_newObj_type ?_
  generalize hH : s.heap.push { cls := Value.type "set", data := Data.set #[] 0 (SetTable.fresh 0 0 !(model prog w).w.params.followText "set-order") } = H1
  have hR : H1.get? s.heap.objs.size = some { cls := Value.type "set", data := Data.set #[] 0 (SetTable.fresh 0 0 !(model prog w).w.params.followText "set-order") } := by rw [← hH]; exact Heap.get?_push_size _ rfl
  have old : ∀ b o, s.heap.get? b = some o → H1.get? b = some o := fun b o e => by rw [← hH]; exact Heap.get?_push_of_some _ e
  have bN : ∀ b o, s.heap.get? b = some o → b ≠ s.heap.objs.size := fun b o e => Nat.ne_of_lt (Heap.lt_size e)
  generalize s.heap.objs.size = N at *
  have hR0 : ISet H1 N (ledOf w) [] := ⟨nil_subs, #[], 0, hR, [], rfl, rfl⟩
  have mem : ∀ x : Nat, (∃ tk, ent x tk ∈ (walk w S es ep).toList) ↔ x ∈ L := fun x => by
    constructor
    · rintro ⟨tk, h⟩
      obtain ⟨y, hy, tk', e⟩ := he.mem ((walk_perm w S es ep).mem_iff.mp h)
      have e1 : ((x : Nat) : Int) = ((y : Nat) : Int) := congrArg Prod.fst e
      have e2 : x = y := by omega
      rw [e2]; exact hy
    · intro h
      obtain ⟨tk, h⟩ := he.of h
      exact ⟨tk, (walk_perm w S es ep).mem_iff.mpr h⟩
  refine wpAny_bind (m := Builtin.Frozenset.addrOf (.ref N)) (wpAny_pure ?_)
  refine wpAny_bind (wpAny_setEpoch_of (s := { s with heap := H1, toks := s.toks }) (old S _ ho) rfl hf ?_)
  refine wpAny_bind (wpAny_holding (wpAny_bind (walk_of (s := { s with heap := H1, toks := s.toks }) ht (old S _ ho) he (wpAny_bind ?_))))
  rw [← Array.forIn_toList]
  refine wpAny_forIn_list _ (fun rest _ s' => ∃ h' tk L' done, s' = { s with heap := h', toks := tk } ∧ (walk w S es ep).toList = done ++ rest ∧ (∀ b o, s.heap.get? b = some o → h'.get? b = some o) ∧ ISet h' N (ledOf w) L' ∧ ∀ x, x ∈ L' ↔ (∃ tk, ent x tk ∈ done) ∧ x ∉ M) _ ?_ ?_ _ _ ⟨H1, s.toks, [], [], rfl, rfl, old, hR0, by simp⟩
  · rintro e rest r s' ⟨h', tk, L', done, rfl, hw, kp, hI, hm⟩
    obtain ⟨x, hx, tk', rfl⟩ := he.mem ((walk_perm w S es ep).mem_iff.mp (by rw [hw]; simp : e ∈ (walk w S es ep).toList))
    have x6 : x < 6 := (tab3 L hL).1 x hx
    have hO' : JSet h' O (ledOf w) M := ⟨hM, fs, fp, u, kp O _ go, gt, ge⟩
    have fin : ∀ (R : ForInStep PUnit → Shared → Prop) h'' tk'', (∀ b o, s.heap.get? b = some o → h''.get? b = some o) → R (.yield PUnit.unit) { s with heap := h'', toks := tk'' } → wpAny (model prog w) A (do Builtin.Frozenset.unchanged id S ep; pure (ForInStep.yield PUnit.unit)) R E { s with heap := h'', toks := tk'' } := by
      intro R h'' tk'' k2 q
      unfold Builtin.Frozenset.unchanged
      refine wpAny_bind (wpAny_bind (wpAny_setEpoch_of (s := { s with heap := h'', toks := tk'' }) (k2 S _ ho) rfl hf ?_))
      rw [if_neg (by simp)]
      exact wpAny_pure (wpAny_pure q)
    have hw2 : (walk w S es ep).toList = (done ++ [ent x tk']) ++ rest := by rw [hw, List.append_assoc]; rfl
    have more : ∀ y : Nat, (∃ tk, ent y tk ∈ done ++ [ent x tk']) ↔ (∃ tk, ent y tk ∈ done) ∨ y = x := fun y => by
      constructor
      · rintro ⟨tk, h⟩
        rcases List.mem_append.mp h with h | h
        · exact .inl ⟨tk, h⟩
        · rw [List.mem_singleton] at h
          have e1 : ((y : Nat) : Int) = ((x : Nat) : Int) := congrArg Prod.fst h
          exact .inr (by omega)
      · rintro (⟨tk, h⟩ | rfl)
        · exact ⟨tk, List.mem_append_left _ h⟩
        · exact ⟨tk', by simp⟩
    refine wpAny_bind (wpAny_holding (wpAny_bind (find_int (s := { s with heap := h', toks := tk }) hO' x6 (fun xm i => ?_) (fun xm => ?_))))
    · refine wpAny_bind (wpAny_pure ?_)
      simp only [Option.isSome_some, Bool.not_true, Bool.false_eq_true, if_false]
      refine wpAny_pure (fin _ h' tk kp ⟨h', tk, L', _, rfl, hw2, kp, hI, fun y => ?_⟩)
      rw [hm y, more y]
      exact ⟨fun q => ⟨.inl q.1, q.2⟩, fun q => ⟨q.1.elim (fun z => z) fun e => absurd (e ▸ xm) q.2, q.2⟩⟩
    · refine wpAny_bind (wpAny_pure ?_)
      simp only [Option.isSome_none, Bool.not_false, if_true]
      refine wpAny_bind (addH_int (s := { s with heap := h', toks := tk }) hI x6 fun b h2 tk2 sb i2 => wpAny_pure ?_)
      have k2 : ∀ b o, s.heap.get? b = some o → h2.get? b = some o := fun b o e => (sb.2 b (bN b o e)).trans (kp b o e)
      refine fin _ h2 tk2 k2 ⟨h2, tk2, _, _, rfl, hw2, k2, i2, fun y => ?_⟩
      show y ∈ add L' x ↔ _
      rw [mem_add, hm y, more y]
      constructor
      · rintro (rfl | q)
        · exact ⟨.inr rfl, xm⟩
        · exact ⟨.inl q.1, q.2⟩
      · rintro ⟨q | q, n⟩
        · exact .inr ⟨q, n⟩
        · exact .inl q
  · rintro r s' ⟨h', tk, L', done, rfl, hw, kp, hI, hm⟩
    rw [List.append_nil] at hw
    refine wpAny_pure (wpAny_pure (h h' tk L' kp hI.j fun x => ?_))
    rw [hm x, ← hw, mem x]
end
end SI


set_option linter.all false
set_option maxRecDepth 100000
set_option maxHeartbeats 4000000 -- own
namespace SI
open PySem PyProof.Rows
def t15 (led : Bool) (L : List Nat) : SetTable := { mask := 15, place := L.toArray, dummies := #[], finger := 0, led := led, moves := 1, plain := true }
theorem tabC : ∀ led ∈ [true, false], ∀ L ∈ subs, 5 ≤ L.length → (SetTable.fresh 0 0 led).roomFor L.length = some (L.length * 2) ∧ SetTable.sizeAbove (L.length * 2) = 16 ∧ (SetTable.fresh 0 0 led).relaid #[] (L.length * 2) = some (t15 led [], #[]) ∧
    SetTable.laid 15 0 1 led true (L.map Int.ofNat).toArray = some (t15 led L, (List.range L.length).toArray) ∧ (t15 led L).fits L.length = true ∧ (tb led L).mask = 31 := by decide +kernel
theorem tabD : ∀ led ∈ [true, false], ∀ L ∈ subs, L.length = 4 → (SetTable.fresh 0 0 led).roomFor L.length = none ∧ (tb led L).mask = 7 ∧ ({ tb led L with finger := 0, led := led && led, moves := 0, plain := true && true } : SetTable) = tb led L := by decide +kernel
section
variable {prog : Program} {w : World} {A : Around} {E : Value → Shared → Prop} {s : Shared}
theorem copy_int {S : Addr} {L : List Nat} {Q : Value → Shared → Prop} (hS : ISet s.heap S (ledOf w) L) (h4 : 4 ≤ L.length)
    (h : ∀ h' tk, (∀ b o, s.heap.get? b = some o → h'.get? b = some o) → JSet h' s.heap.objs.size (ledOf w) L → Q (.ref s.heap.objs.size) { s with heap := h', toks := tk }) :
    wpAny (model prog w) A (Builtin.Frozenset.copyOf S) Q E s := by
  obtain ⟨hL, es, ep, ho, he⟩ := hS.is
  have ht := tb_is (led := ledOf w) hL
  have hf : (tb (ledOf w) L).fits es.size = true := by rw [he.size]; exact ht.ft
  have tyS : s.TypeIs (.ref S) "set" := ⟨_, ho, rfl⟩
  have sub1 := sub_set_self
  unfold Builtin.Frozenset.copyOf Builtin.Frozenset.baseOf
  refine wpAny_bind (wpAny_bind (wpAny_isInstance tyS sub1 (wpAny_pure ?_)))
  simp only [↓reduceIte]
  unfold newSet setsByText
  refine wpAny_bind (wpAny_bind (wpAny_bind (wpAny_askSetting (wpAny_pure ?_))))
  dsimp only
  refine wpAny_newObj_type ?_
  generalize hH : s.heap.push { cls := Value.type "set", data := Data.set #[] 0 (SetTable.fresh 0 0 !(model prog w).w.params.followText "set-order") } = H1
  have hR : H1.get? s.heap.objs.size = some { cls := Value.type "set", data := Data.set #[] 0 (SetTable.fresh 0 0 (ledOf w)) } := by rw [← hH]; exact Heap.get?_push_size _ rfl
  have old : ∀ b o, s.heap.get? b = some o → H1.get? b = some o := fun b o e => by rw [← hH]; exact Heap.get?_push_of_some _ e
  have bN : ∀ b o, s.heap.get? b = some o → b ≠ s.heap.objs.size := fun b o e => Nat.ne_of_lt (Heap.lt_size e)
  generalize s.heap.objs.size = N at *
  have nNS : (N == S) = false := beq_eq_false_iff_ne.mpr (Ne.symm (bN S _ ho))
  refine wpAny_bind (m := Builtin.Frozenset.addrOf (.ref N)) (wpAny_pure ?_)
  unfold setMerge
  refine wpAny_bind ?_
  rw [nNS]
  simp only [Bool.false_eq_true, if_false]
  refine wpAny_bind (wpAny_setState_of (s := { s with heap := H1, toks := s.toks }) (old S _ ho) rfl hf ?_)
  dsimp only
  have ne : es.isEmpty = false := by
    rw [Array.isEmpty_eq_false_iff, ← Array.size_pos_iff, he.size]; omega
  rw [ne]
  simp only [Bool.false_eq_true, if_false]
  unfold setRoomFor
  refine wpAny_bind (wpAny_bind (wpAny_setState_of (s := { s with heap := H1, toks := s.toks }) hR rfl rfl ?_))
  dsimp only
  rw [he.size]
  by_cases l4 : L.length = 4
  · obtain ⟨r1, r2, r3⟩ := tabD (ledOf w) (led_in _) L hL l4
    rw [r1]
    dsimp only
    refine wpAny_pure ?_
    refine wpAny_bind (wpAny_setState_of (s := { s with heap := H1, toks := s.toks }) hR rfl rfl ?_)
    dsimp only
    have rd : (SetTable.fresh 0 0 (ledOf w)).road (tb (ledOf w) L) = .slotForSlot := by
      unfold SetTable.road
      rw [r2]
      rfl
    rw [rd]
    dsimp only
    refine wpAny_storeSet_of (s := { s with heap := H1, toks := s.toks }) hR rfl ?_ (by rw [he.size, sizeLine_eq]; omega)
    refine wpAny_pure (h _ _ (fun b o e => ((Heap.SameBut.update ..).2 b (bN b o e)).trans (old b o e)) ⟨hL, es, 1, _, Heap.get?_update_self _ hR rfl, ⟨rfl, ?_, rfl, rfl, rfl, ht.ft⟩, he⟩)
    show (ledOf w && ledOf w) = ledOf w
    cases ledOf w <;> rfl
  · obtain ⟨r1, r2, r3, r4, r5, r6⟩ := tabC (ledOf w) (led_in _) L hL (by omega)
    rw [r1]
    dsimp only
    unfold setRelay
    refine wpAny_bind (wpAny_setState_of (s := { s with heap := H1, toks := s.toks }) hR rfl rfl ?_)
    dsimp only
    rw [r2, if_neg (by decide), show (Array.map (fun x => x.fst) (#[] : Array (Int × Value))) = #[] from by simp, r3]
    refine wpAny_bind (show wpAny (model prog w) A (pure ((#[] : Array (Int × Value)), t15 (ledOf w) [])) _ E _ from wpAny_pure ?_)
    dsimp only
    refine wpAny_storeSet_of (s := { s with heap := H1, toks := s.toks }) hR rfl ?_ (by simp)
    have hR2 := Heap.get?_update_self (Obj.putSet #[] (t15 (ledOf w) [])) hR rfl
    have old2 : ∀ b o, s.heap.get? b = some o → (H1.update N (Obj.putSet #[] (t15 (ledOf w) []))).get? b = some o := fun b o e => ((Heap.SameBut.update ..).2 b (bN b o e)).trans (old b o e)
    generalize H1.update N (Obj.putSet #[] (t15 (ledOf w) [])) = H2 at *
    refine wpAny_bind (wpAny_setState_of (s := { s with heap := H2, toks := s.toks }) (o := { cls := Value.type "set", data := Data.set #[] 1 (t15 (ledOf w) []) }) hR2 rfl rfl ?_)
    dsimp only
    have rd : (t15 (ledOf w) []).road (tb (ledOf w) L) = .clean := by
      unfold SetTable.road
      rw [r6]
      rfl
    rw [rd]
    dsimp only
    have hmp : es.map (fun x => x.fst) = (L.map Int.ofNat).toArray := by
      obtain ⟨tks, q1, q2⟩ := he
      apply Array.toList_inj.mp
      rw [Array.toList_map, q2]
      have gen : ∀ (L : List Nat) (tks : List Tok), tks.length = L.length → (List.zipWith ent L tks).map (fun x => x.fst) = L.map Int.ofNat := by
        intro L
        induction L with
        | nil => intro tks _; rfl
        | cons a L ih =>
          intro tks hl
          cases tks with
          | nil => simp at hl
          | cons b tks => simp only [List.zipWith_cons_cons, List.map_cons, ih tks (by simpa using hl)]; rfl
      exact gen _ _ q1
    have ll : ((t15 (ledOf w) []).led && (tb (ledOf w) L).led) = ledOf w := by show (ledOf w && ledOf w) = ledOf w; cases ledOf w <;> rfl
    rw [hmp, ll]
    have e4 : SetTable.laid (t15 (ledOf w) []).mask (t15 (ledOf w) []).finger (t15 (ledOf w) []).moves (ledOf w) ((t15 (ledOf w) []).plain && (tb (ledOf w) L).plain) (List.map Int.ofNat L).toArray = some (t15 (ledOf w) L, (List.range L.length).toArray) := r4
    rw [e4]
    have fm : (List.range L.length).toArray.filterMap (fun x => es[x]?) = es := by
      have e := PySem.filterMap_getElem?_range es
      rw [he.size] at e
      apply Array.toList_inj.mp
      rw [Array.toList_filterMap]
      exact e
    refine wpAny_bind ?_
    refine (show wpAny (model prog w) A (ite ((((List.range L.length).toArray.filterMap (fun x => es[x]?)).size != es.size) = true) _ (pure ((List.range L.length).toArray.filterMap (fun x => es[x]?), t15 (ledOf w) L))) _ E _ from ?_)
    rw [fm, if_neg (by simp)]
    refine wpAny_pure ?_
    dsimp only
    refine wpAny_storeSet_of (s := { s with heap := H2, toks := s.toks }) (o := { cls := Value.type "set", data := Data.set #[] 1 (t15 (ledOf w) []) }) hR2 rfl ?_ (by rw [he.size, sizeLine_eq]; have := (tab3 L hL).2.1; omega)
    refine wpAny_pure (h _ _ (fun b o e => ((Heap.SameBut.update ..).2 b (bN b o e)).trans (old2 b o e)) ⟨hL, es, 2, t15 (ledOf w) L, Heap.get?_update_self _ hR2 rfl, ⟨rfl, rfl, rfl, rfl, rfl, r5⟩, he⟩)
theorem diff_copy {S O : Addr} {L M : List Nat} {id : String} {Q : Value → Shared → Prop} (hS : ISet s.heap S (ledOf w) L) (hO : JSet s.heap O (ledOf w) M) (hsm : L.length / 4 > M.length)
    (h : ∀ h' tk L', (∀ b o, s.heap.get? b = some o → h'.get? b = some o) → JSet h' s.heap.objs.size (ledOf w) L' → (∀ x, x ∈ L' ↔ x ∈ L ∧ x ∉ M) → Q (.ref s.heap.objs.size) { s with heap := h', toks := tk }) :
    wpAny (model prog w) A (Builtin.Frozenset.difference id S (.ref O)) Q E s := by
  obtain ⟨hL, es, ep, t, ho, ht, he⟩ := hS.j.is
  obtain ⟨hM, fs, fp, u, go, gt, ge⟩ := hO.is
  have hf : t.fits es.size = true := by rw [he.size]; exact ht.ft
  have gf : u.fits fs.size = true := by rw [ge.size]; exact gt.ft
  have l6 := (tab3 L hL).2.1
  have M0 : M = [] := List.length_eq_zero_iff.mp (by omega)
  have tyO : s.TypeIs (.ref O) "set" := ⟨_, go, rfl⟩
  have sub1 := sub_set_self
  have oN : O ≠ s.heap.objs.size := Nat.ne_of_lt (Heap.lt_size go)
  unfold Builtin.Frozenset.difference Builtin.Frozenset.isAnySet orM
  dsimp only
  refine wpAny_bind (wpAny_bind (wpAny_isInstance tyO sub1 (wpAny_pure ?_)))
  simp only [Bool.not_true, Bool.false_and, Bool.false_eq_true, if_false, if_true, ↓reduceIte]
  refine wpAny_bind (m := Builtin.Frozenset.addrOf (.ref O)) (wpAny_pure ?_)
  unfold Builtin.Frozenset.sizeOf
  refine wpAny_bind (wpAny_bind (wpAny_setEntries_of go rfl gf (wpAny_pure ?_)))
  refine wpAny_bind (wpAny_bind (wpAny_setEntries_of ho rfl hf (wpAny_pure ?_)))
  rw [if_pos (by rw [he.size, ge.size]; exact hsm)]
  refine wpAny_bind (wpAny_rule (wpAny_bind (copy_int hS (by omega) fun h' tk kp hJ => ?_)))
  generalize s.heap.objs.size = N at *
  refine wpAny_bind (m := Builtin.Frozenset.addrOf (.ref N)) (wpAny_pure ?_)
  obtain ⟨_, es', ep', t', go', ht', he'⟩ := hJ.is
  have hf' : t'.fits es'.size = true := by rw [he'.size]; exact ht'.ft
  have tyO' : Shared.TypeIs { s with heap := h', toks := tk } (.ref O) "set" := ⟨_, kp O _ go, rfl⟩
  refine wpAny_bind (wpAny_holding ?_)
  unfold Builtin.Frozenset.differenceUpdate Builtin.Frozenset.isAnySet orM
  have eON : (Value.ref O == Value.ref N) = false := by simpa using oN
  rw [eON]
  simp only [Bool.false_eq_true, if_false]
  refine wpAny_bind (wpAny_bind (wpAny_isInstance tyO' sub1 (wpAny_pure ?_)))
  simp only [↓reduceIte]
  refine wpAny_bind (m := Builtin.Frozenset.addrOf (.ref O)) (wpAny_pure ?_)
  unfold Builtin.Frozenset.sizeOf
  refine wpAny_bind (wpAny_bind (wpAny_setEntries_of (s := { s with heap := h', toks := tk }) (kp O _ go) rfl gf (wpAny_pure ?_)))
  refine wpAny_bind (wpAny_bind (wpAny_setEntries_of (s := { s with heap := h', toks := tk }) go' rfl hf' (wpAny_pure ?_)))
  rw [if_neg (by rw [he'.size, ge.size, M0]; simp)]
  refine wpAny_bind (wpAny_setEpoch_of (s := { s with heap := h', toks := tk }) (kp O _ go) rfl gf ?_)
  have w0 : walk w O fs fp = #[] := Array.eq_empty_of_size_eq_zero (by rw [walk_size, ge.size, M0]; rfl)
  refine wpAny_bind (wpAny_holding (wpAny_bind (walk_of (s := { s with heap := h', toks := tk }) gt (kp O _ go) ge ?_)))
  rw [w0]
  refine wpAny_bind ?_
  rw [← Array.forIn_toList]
  show wpAny _ _ (forIn ([] : List (Int × Value)) _ _) _ _ _
  rw [List.forIn_nil]
  refine wpAny_pure (wpAny_pure ?_)
  unfold setTidy
  refine wpAny_bind (wpAny_setState_of (s := { s with heap := h', toks := tk }) go' rfl hf' ?_)
  dsimp only
  have td : t'.tooManyDummies = false := by unfold SetTable.tooManyDummies; rw [ht'.dm]; simp
  rw [td]
  simp only [Bool.false_eq_true, if_false]
  exact wpAny_pure (wpAny_pure (h h' tk L kp hJ fun x => by rw [M0]; simp))
theorem diff_int {S O : Addr} {L M : List Nat} {id : String} {Q : Value → Shared → Prop} (hne : S ≠ O) (hS : ISet s.heap S (ledOf w) L) (hO : JSet s.heap O (ledOf w) M)
    (h : ∀ h' tk L', (∀ b o, s.heap.get? b = some o → h'.get? b = some o) → JSet h' s.heap.objs.size (ledOf w) L' → (∀ x, x ∈ L' ↔ x ∈ L ∧ x ∉ M) → Q (.ref s.heap.objs.size) { s with heap := h', toks := tk }) :
    wpAny (model prog w) A (Builtin.Frozenset.difference id S (.ref O)) Q E s := by
  by_cases c : L.length / 4 > M.length
  · exact diff_copy hS hO c h
  · exact diff_plain hne hS.j hO c h
end
end SI


set_option linter.all false
set_option maxRecDepth 100000
set_option maxHeartbeats 4000000 -- own
namespace SI
open PySem PyProof.Rows
section
variable {prog : Program} {w : World} {A : Around} {E : Value → Shared → Prop} {s : Shared}
theorem entry_sub : entryFor table "set.__sub__" = some Builtin.«frozenset.__sub__» := entryFor_alias (id' := "frozenset.__sub__") (by kernel_rfl) rfl (by decide +kernel) (by kernel_rfl)
theorem sub_sets {S O : Addr} {L M : List Nat} {Q : Value → Shared → Prop} (hne : S ≠ O) (hS : ISet s.heap S (ledOf w) L) (hO : JSet s.heap O (ledOf w) M)
    (h : ∀ h' tk L', (∀ b o, s.heap.get? b = some o → h'.get? b = some o) → JSet h' s.heap.objs.size (ledOf w) L' → (∀ x, x ∈ L' ↔ x ∈ L ∧ x ∉ M) → Q (.ref s.heap.objs.size) { s with heap := h', toks := tk }) :
    wpAny (model prog w) A (binaryOp .Sub (.ref S) (.ref O)) Q E s := by
  obtain ⟨hL, es, ep, t, ho, ht, he⟩ := hS.j.is
  obtain ⟨hM, fs, fp, u, go, gt, ge⟩ := hO.is
  have tyS : s.TypeIs (.ref S) "set" := ⟨_, ho, rfl⟩
  have tyO : s.TypeIs (.ref O) "set" := ⟨_, go, rfl⟩
  have sub1 := sub_set_self
  refine wpAny_binaryOp_same (op := .Sub) (T := "set") tyS tyO F.fills_set_sub F.slot_set_sub (wpAny_call_entry F.slot_set_sub tyS entry_sub ?_ (F.args_set_sub_2 _ _))
  show wpAny _ _ (Bind.bind (Builtin.Frozenset.slot1 "__sub__" ⟨[.ref S, .ref O], []⟩) _) _ _ s
  unfold Builtin.Frozenset.slot1
  refine wpAny_bind (wpAny_bind (wpAny_pure (wpAny_pure ?_)))
  unfold Builtin.Frozenset.isAnySet
  simp only [andM, orM, Bool.false_eq_true, if_false]
  refine wpAny_bind (wpAny_bind (wpAny_bind (wpAny_isInstance tyS sub1 (wpAny_pure ?_))))
  refine wpAny_bind (wpAny_isInstance tyO sub1 (wpAny_pure ?_))
  rw [if_neg (by decide)]
  refine wpAny_bind (m := Builtin.Frozenset.addrOf (.ref S)) (wpAny_pure (wpAny_bind (diff_int hne hS hO fun h' tk L' kp hJ hm => wpAny_pure ⟨_, rfl, by simp, h h' tk L' kp hJ hm⟩)))
end
end SI


set_option linter.all false
set_option maxRecDepth 100000
set_option maxHeartbeats 4000000 -- own
namespace SI
open PySem PyProof.Rows
section
variable {prog : Program} {w : World} {A : Around} {E : Value → Shared → Prop} {s : Shared}
theorem fillT {S I l : Addr} {vs : List Value} {ns : List Nat} {led : Bool} {R : Result → Shared → Prop} (hh : A.in1.handled = none) (hT : IntsN vs ns) (hin : ∀ n ∈ ns, n < 6) (hSI : S ≠ I) (hSl : S ≠ l) (hlI : l ≠ I) :
    ∀ (k i : Nat) (s : Shared), ns.length - i = k → i ≤ ns.length → s.heap.IsTupleIter I l i → s.heap.IsTuple l vs.toArray → ISet s.heap S led (lof (ns.take i)) →
      (∀ h' tk, (∀ b o, b ≠ S → b ≠ I → s.heap.get? b = some o → h'.get? b = some o) → ISet h' S led (lof ns) → R (.ok (.ret .none)) { s with heap := h', toks := tk }) →
      codeAny (model prog w) A (.builtin "set.update.loop" ⟨[.ref S, .ref I], []⟩) R s := by
  intro k
  induction k with
  | zero =>
    intro i s hk hi hit hl hP hR
    have e : i = ns.length := by omega
    subst e
    rw [List.take_length] at hP
    refine codeAny_builtin F.entry_set_update_loop ?_
    rw [Around.under_plainId F.plain_set_update_loop _]
    show wpAny _ A.in1 (pyNext (.ref I) >>= _) _ _ s
    refine wpAny_bind (wpAny_pyNext_tuple_end hh hit hl (by simp [hT.1]) fun h' eb => ?_)
    show wpAny _ A.in1 (ret Value.none) _ _ _
    refine wpAny_pure (hR h' s.toks (fun b o _ hb e => eb b o hb e) ?_)
    obtain ⟨hL, es, ep, ho, r⟩ := hP.is
    exact ⟨hL, es, ep, eb S _ hSI ho, r⟩
  | succ k ih =>
    intro i s hk hi hit hl hP hR
    have hlt : i < ns.length := by omega
    have hvl : i < vs.length := by rw [hT.1]; exact hlt
    have hvi : vs[i]? = some vs[i] := List.getElem?_eq_getElem hvl
    obtain ⟨tk, ev⟩ := hT.2 i _ hvi
    have en : ns.getD i 0 = ns[i] := by rw [List.getD_eq_getElem?_getD, List.getElem?_eq_getElem hlt]; rfl
    rw [en] at ev
    refine codeAny_builtin F.entry_set_update_loop ?_
    rw [Around.under_plainId F.plain_set_update_loop _]
    show wpAny _ A.in1 (pyNext (.ref I) >>= _) _ _ s
    refine wpAny_bind (wpAny_pyNext_tuple_item hit hl (x := Value.int ((ns[i] : Nat) : Int) tk) (by rw [← ev]; simp) fun h1 hit1 sb1 => ?_)
    have k1 : ∀ b o, b ≠ I → s.heap.get? b = some o → h1.get? b = some o := fun b o hb e => sb1.extBut b o hb e
    have hP1 : ISet h1 S led (lof (ns.take i)) := by
      obtain ⟨hL, es, epo, ho, r⟩ := hP.is
      exact ⟨hL, es, epo, k1 S _ hSI ho, r⟩
    show wpAny _ A.in1 (holding [Value.int ((ns[i] : Nat) : Int) tk] (setAdd S (Value.int ((ns[i] : Nat) : Int) tk)) >>= _) _ _ _
    refine wpAny_bind (wpAny_holding (setAdd_int (A := A.in1) hP1 (hin _ (List.getElem_mem hlt)) fun b h2 tk2 sb2 hP2 => ?_))
    have k2 : ∀ b o, b ≠ S → h1.get? b = some o → h2.get? b = some o := fun b o hb e => sb2.extBut b o hb e
    have hP3 : ISet h2 S led (lof (ns.take (i + 1))) := by rw [lof_succ hlt]; exact hP2
    refine wpAny_pure ⟨plainId_quiet F.plain_set_update_loop _, ih (i + 1) { s with heap := h2, toks := tk2 } (by omega) (by omega) (hit1.extBut (fun b o hb e => k2 b o hb e) (Ne.symm hSI)) ?_ hP3 ?_⟩
    · exact (hl.extBut (fun b o hb e => k1 b o hb e) hlI).extBut (fun b o hb e => k2 b o hb e) (Ne.symm hSl)
    · intro h3 tk3 kp hP4
      exact hR h3 tk3 (fun b o hb hb' e => kp b o hb hb' (k2 b o hb (k1 b o hb' e))) hP4
theorem call_set_tup {l : Addr} {vs : List Value} {ns : List Nat} {Q : Value → Shared → Prop} (hh : A.handled = none) (hl : s.heap.IsTuple l vs.toArray) (hT : IntsN vs ns) (hin : ∀ n ∈ ns, n < 6)
    (h : ∀ h' tk, (∀ b o, b < s.heap.objs.size → s.heap.get? b = some o → h'.get? b = some o) → ISet h' s.heap.objs.size (ledOf w) (lof ns) → Q (.ref s.heap.objs.size) { s with heap := h', toks := tk }) :
    wpAny (model prog w) A (call (.type "set") [.ref l]) Q E s := by
  obtain ⟨c0, tl0, mro0⟩ := F.called_set.mro
  have made0 := F.called_set.made
  have sub0 := F.called_set.sub
  have nt0 := F.called_set.notType
  have cc0 := F.called_set.canCreate
  have tc0 := F.typeCall_set_1 (.ref l)
  refine wpAny_call (codeAny_of_tree ?_)
  show wpAny (model prog w) _ (callAny (.type "set") _) _ _ _
  refine wpAny_pure ⟨Code.quiet_builtin _ (by decide +kernel), codeAny_builtin F.entry_type_call ?_⟩
  rw [Around.under_plain (weight_type_call_type "set" [.ref l] []) rfl]
  repeat (any_goals (first | assumption | wp_step))
  refine codeAny_mono (new_led (.ref l) (E := E) (Q₁ := fun obj s1 => obj = .ref s.heap.objs.size ∧
    s1 = { s with heap := s.heap.push { cls := .type "set", dict := none, data := .set #[] 0 (.fresh 0 0 (ledOf w)) } }) ⟨rfl, rfl⟩) fun r s1 hr => ?_
  cases r with
  | error e => exact hr
  | ok fl =>
    cases fl with
    | ret obj =>
      obtain ⟨rfl, rfl⟩ := hr
      generalize hH : s.heap.push { cls := .type "set", dict := none, data := .set #[] 0 (.fresh 0 0 (ledOf w)) } = H1
      have hS : H1.get? s.heap.objs.size = some { cls := .type "set", dict := none, data := .set #[] 0 (.fresh 0 0 (ledOf w)) } := by rw [← hH]; exact Heap.get?_push_size _ rfl
      have old : ∀ b o, s.heap.get? b = some o → H1.get? b = some o := fun b o e => by rw [← hH]; exact Heap.get?_push_of_some _ e
      have hsz : H1.objs.size = s.heap.objs.size + 1 := by rw [← hH, Heap.size_push]
      have tyS : Shared.TypeIs { s with heap := H1 } (.ref s.heap.objs.size) "set" := ⟨_, hS, rfl⟩
      have li0 := F.called_set.init.lookup
      have bi0 := F.called_set.init.bind (.ref s.heap.objs.size)
      repeat (any_goals (first | assumption | wp_step))
      refine codeAny_mono (codeAny_call_builtin (R := wants (fun r s2 => r = .none ∧ ∃ h' tk, s2 = { s with heap := h', toks := tk } ∧ ISet h' s.heap.objs.size (ledOf w) (lof ns) ∧
        (∀ b o, b < s.heap.objs.size → s.heap.get? b = some o → h'.get? b = some o)) E) F.called_set.init.plain F.entry_set_init (check_set_init_1 tyS ?_)) fun r2 s2 hr2 => ?_
      · obtain ⟨ol, hol, hcl, nl, hdl⟩ := hl
        obtain ⟨oc, od, oda, osl⟩ := ol
        simp only at hcl hdl
        subst hcl; subst hdl
        have hol1 : H1.get? l = some { cls := .type "tuple", dict := od, data := .seq vs.toArray nl, slots := osl } := old _ _ hol
        have sls := F.sub_tuple_set
        have slf := F.sub_tuple_frozenset
        have nld : (Value.type "tuple" == Value.type "dict") = false := by decide
        have hl1 : H1.IsTuple l vs.toArray := ⟨_, hol1, rfl, nl, rfl⟩
        have llt : l < s.heap.objs.size := Heap.lt_size hol
        unfold Builtin.«set.__init__» noKeywords Builtin.Frozenset.updateFrom
        generalize hPI : pyIter = PI
        wp_walk
        subst hPI
        refine wpAny_pyIter_tuple hl1 ?_
        refine wpAny_bind (wpAny_runValue ?_)
        generalize hH2 : H1.push { cls := .type "tuple_iterator", data := .fields #[.ref l, .int 0 0] } = H2
        have old2 : ∀ b o, H1.get? b = some o → H2.get? b = some o := fun b o e => by rw [← hH2]; exact Heap.get?_push_of_some _ e
        refine fillT (l := l) (ns := ns) (vs := vs) (led := ledOf w) (by simp [hh]) hT hin (by show s.heap.objs.size ≠ H1.objs.size; rw [hsz]; exact Nat.ne_of_lt (Nat.lt_succ_self _)) (Nat.ne_of_gt llt) (by show l ≠ H1.objs.size; rw [hsz]; exact Nat.ne_of_lt (Nat.lt_succ_of_lt llt)) ns.length 0 _ (by omega) (Nat.zero_le _) ?_ ?_ ?_ ?_
        · rw [← hH2]
          exact ⟨_, Heap.get?_push_size _ rfl, rfl, rfl⟩
        · exact ⟨_, old2 _ _ hol1, rfl, nl, rfl⟩
        · refine ⟨nil_subs, #[], 0, old2 _ _ hS, [], rfl, rfl⟩
        · intro h' tk kp hP
          show wpAny _ _ (pure ()) _ _ _
          refine wpAny_pure ?_
          show wpAny _ _ (ret Value.none) _ _ _
          refine wpAny_pure ⟨rfl, h', tk, rfl, hP, fun b o hb e => ?_⟩
          refine kp b o (Nat.ne_of_lt hb) ?_ (old2 _ _ (old _ _ e))
          show b ≠ H1.objs.size
          rw [hsz]; exact Nat.ne_of_lt (Nat.lt_succ_of_lt hb)
      · cases r2 with
        | error e => exact hr2
        | ok f2 =>
          cases f2 with
          | ret r =>
            obtain ⟨rfl, h', tk, rfl, hP, hk⟩ := hr2
            repeat (any_goals (first | assumption | wp_step))
            exact h _ _ hk hP
          | _ => exact hr2.elim
    | _ => exact hr.elim
end
end SI


set_option linter.all false
set_option maxRecDepth 100000
set_option maxHeartbeats 4000000 -- own
namespace L2
open PySem PySem.Spec PyProof.Rows
variable {X : Cx}
def SetX (w : World) (S : Addr) (L : List Nat) : Heap → Prop := fun h => SI.ISet h S (SI.ledOf w) L
theorem call_setX (hc : X.calm = true) : CallR X (.type "set") (fun xs H Q => ∃ (a : Addr) (ns : List Nat), xs = [.ref a] ∧ SqL X.K H a (ns.map natV) ∧ (∀ n ∈ ns, n < 6) ∧ ∀ S, H S = none → Q (.ref S) (upd H S (.ext (SetX X.w S (SI.lof ns))))) := by
  intro pins s σ H xs us Q I r h
  obtain ⟨a, ns, rfl, hq, hin, q⟩ := h
  obtain ⟨u, rfl, ru⟩ := Vals.one r
  cases ru
  obtain ⟨its, rv, p, hz⟩ := I.list hq
  refine SI.call_set_ints (ns := ns) (I.ok.hd hc) p.isList (vals_nats rv) hin fun h' tk kp P => ?_
  have hn : H s.heap.objs.size = none := I.hok.fresh (Nat.le_refl _)
  refine ⟨.ref s.heap.objs.size, _, I.laid (t' := tk) (o := .ext (SetX X.w s.heap.objs.size (SI.lof ns))) (fun b o e => kp b o (Heap.lt_size e) e) (Nat.le_refl _) ?_, rfl, q _ hn⟩
  obtain ⟨hL, es, ep, ho, he⟩ := P.is
  exact ⟨P, ⟨_, ho⟩, fun h1 h2 x k => by obtain ⟨a, es, ep, e, l⟩ := x.is; exact ⟨a, es, ep, k _ e, l⟩⟩
theorem jset_ok {P : Program} {w : World} {H : Hp} {h : Heap} {S : Addr} {L : List Nat} (J : SI.JSet h S (SI.ledOf w) L) : ObjOk P w H h S (.ext (SetI w S L)) := by
  obtain ⟨hL, es, ep, t, ho, he⟩ := J.is
  exact ⟨J, ⟨_, ho⟩, fun h1 h2 x k => by obtain ⟨a, es, ep, t, e, l⟩ := x.is; exact ⟨a, es, ep, t, k _ e, l⟩⟩
theorem call_setT (hc : X.calm = true) : CallR X (.type "set") (fun xs H Q => ∃ (b : Addr) (ns : List Nat), xs = [.ref b] ∧ SqT X.K H b (ns.map natV) ∧ (∀ n ∈ ns, n < 6) ∧ ∀ S, H S = none → Q (.ref S) (upd H S (.ext (SetI X.w S (SI.lof ns))))) := by
  intro pins s σ H xs us Q I r h
  obtain ⟨b, ns, rfl, hq, hin, q⟩ := h
  obtain ⟨u, rfl, ru⟩ := Vals.one r
  cases ru
  obtain ⟨its, rv, p, hz⟩ := I.tuple hq
  refine SI.call_set_tup (ns := ns) (I.ok.hd hc) p (vals_nats rv) hin fun h' tk kp P => ?_
  have hn : H s.heap.objs.size = none := I.hok.fresh (Nat.le_refl _)
  exact ⟨.ref s.heap.objs.size, _, I.laid (t' := tk) (o := .ext (SetI X.w s.heap.objs.size (SI.lof ns))) (fun b o e => kp b o (Heap.lt_size e) e) (Nat.le_refl _) (jset_ok P.j), rfl, q _ hn⟩
theorem op_subS : OpR X (binaryOp .Sub) (fun x y H Q => ∃ S O L M, x = .ref S ∧ y = .ref O ∧ S ≠ O ∧ H S = some (.ext (SetX X.w S L)) ∧ H O = some (.ext (SetI X.w O M)) ∧ ∀ R L', H R = none → L' ∈ SI.subs → (∀ x, x ∈ L' ↔ x ∈ L ∧ x ∉ M) → Q (.ref R) (upd H R (.ext (SetI X.w R L')))) := by
  intro pins s σ H x y v u Q I rx ry h
  obtain ⟨S, O, L, M, rfl, rfl, hne, hS, hO, q⟩ := h
  cases rx
  cases ry
  obtain ⟨P, _, _⟩ := (show ObjOk X.prog X.w H s.heap S (.ext (SetX X.w S L)) from I.hok S _ hS)
  obtain ⟨J, _, _⟩ := (show ObjOk X.prog X.w H s.heap O (.ext (SetI X.w O M)) from I.hok O _ hO)
  refine SI.sub_sets hne P J fun h' tk L' kp hJ hm => ?_
  have hn : H s.heap.objs.size = none := I.hok.fresh (Nat.le_refl _)
  exact ⟨.ref s.heap.objs.size, _, I.laid (t' := tk) (o := .ext (SetI X.w s.heap.objs.size L')) (fun b o e => kp b o e) (Nat.le_refl _) (jset_ok hJ), rfl, q _ L' hn hJ.is.1 hm⟩
end L2
namespace U
open PySem PySem.Spec PyProof.Rows L2
variable {B : Bs} {X : Cx} {a b : Expr} {ta tb : TE'} {p p2 p3 pos pos2 pos3 bpos : Pos}
def subA (x : PV) (H1 : PHp) (k : List Nat → Prop) : Prop := match x with
  | .ref a => ∃ ns : List Nat, H1 a = some (.lst (ns.map natP)) ∧ (∀ n ∈ ns, n < 6) ∧ k ns
  | _ => False
def subB (y : PV) (k : List Nat → Prop) : Prop := match y with
  | .tup m => ∃ ms : List Nat, m = ms.map natP ∧ (∀ n ∈ ms, n < 6) ∧ k ms
  | _ => False
theorem w_sA {a : Addr} {H1 : PHp} {k : List Nat → Prop} : subA (.ref a) H1 k = ∃ ns : List Nat, H1 a = some (.lst (ns.map natP)) ∧ (∀ n ∈ ns, n < 6) ∧ k ns := rfl
theorem w_sB {m : List PV} {k : List Nat → Prop} : subB (.tup m) k = ∃ ms : List Nat, m = ms.map natP ∧ (∀ n ∈ ms, n < 6) ∧ k ms := rfl
def uSortSub (ta tb : TE') : TE' := fun σ H Q => ta σ H fun x H1 => subA x H1 fun ns => tb σ H1 fun y H2 => subB y fun ms => ∀ (r : Addr) (ks : List Nat), H2 r = none → ks.Pairwise (· < ·) → (∀ x, x ∈ ks ↔ x ∈ ns ∧ x ∉ ms) → Q (.ref r) (put H2 r (.lst (ks.map natP)))
theorem qe_sorted_sub (hc : X.calm = true) (hgl : Gl X "sorted") (hml : X.mg "sorted" = none) (hgs : Gl X "set") (hms : X.mg "set" = none) (bs : bootBuiltins "set" = some (.type "set")) (ha : PE' X B a ta) (hb : PE' X B b tb) (bo : bootBuiltins "sorted" = some (.builtin "sorted") := by decide +kernel)
    (he : starEach [.BinOp (.Call (.Name "set" p2) [a] [] pos2) .Sub (.Call (.Name "set" p3) [b] [] pos3) bpos] X.env = [(false, eval (.BinOp (.Call (.Name "set" p2) [a] [] pos2) .Sub (.Call (.Name "set" p3) [b] [] pos3) bpos) X.env)] := by rfl) (he2 : starEach [a] X.env = [(false, eval a X.env)] := by rfl) (he3 : starEach [b] X.env = [(false, eval b X.env)] := by rfl) :
    PE' X B (.Call (.Name "sorted" p) [.BinOp (.Call (.Name "set" p2) [a] [] pos2) .Sub (.Call (.Name "set" p3) [b] [] pos3) bpos] [] pos) (uSortSub ta tb) :=
  pe_imp (pe_callB (call_sortS hc) hgl hml bo (pa_cons (pe_op op_subS (pe_callTy (call_setX hc) hgs hms bs (pa_cons ha pa_nil he2) (by decide) (by decide) he2 rfl) (pe_callTy (call_setT hc) hgs hms bs (pa_cons hb pa_nil he3) (by decide) (by decide) he3 rfl)) pa_nil he) (by decide) (by decide) he rfl) fun σ H Q h => by
    obtain ⟨σ', H', Q', s, h, k⟩ := h
    refine ⟨σ', H', _, s, h, fun x' H1' x H1 h1 rx s1 e1 => ?_⟩
    cases x' with
    | ref a =>
      obtain ⟨ns, ea, hin, h2⟩ := h1
      simp only [RP] at rx
      subst rx
      obtain ⟨us, eg, r2⟩ := s1.hp _ _ ea
      rw [rps_nats r2] at eg
      refine ⟨a, ns, rfl, .inl (.inl eg), hin, fun S hS => ?_⟩
      have s2 := s1.hid (o := .ext (SetX X.w S (SI.lof ns))) hS
      have ev2 : Ev H1' H1 H1' (upd H1 S (.ext (SetX X.w S (SI.lof ns)))) := Ev.hid hS
      refine ⟨σ', H1', _, s2, h2, fun y' H2' y H2 h3 ry s3 e3 => ?_⟩
      cases y' with
      | tup m =>
        obtain ⟨ms, rfl, hin2, h4⟩ := h3
        simp only [RP] at ry
        obtain ⟨b, vs, rfl, hb, r3⟩ := ry
        rw [rps_nats r3] at hb
        have hS2 := e3 S _ upd_same (s1.hp.free hS)
        refine ⟨b, ms, rfl, hb, hin2, fun O hO => ?_⟩
        have nSO : S ≠ O := ne_of_none hS2.1 hO
        have s4 := s3.hid (o := .ext (SetI X.w O (SI.lof ms))) hO
        have ev4 : Ev H2' H2 H2' (upd H2 O (.ext (SetI X.w O (SI.lof ms)))) := Ev.hid hO
        generalize hH3 : upd H2 O (.ext (SetI X.w O (SI.lof ms))) = H3 at *
        refine ⟨S, O, _, _, rfl, rfl, nSO, by rw [← hH3]; exact (upd_ne nSO).trans hS2.1, by rw [← hH3]; exact upd_same, fun R L' hR hL' hm => ?_⟩
        have s5 := s4.hid (o := .ext (SetI X.w R L')) hR
        have ev5 : Ev H2' H3 H2' (upd H3 R (.ext (SetI X.w R L'))) := Ev.hid hR
        refine ⟨R, L', rfl, upd_same, fun r os hr hs hp => ?_⟩
        have nd := (SI.tab3 _ hL').2.2.1
        have ho : ∀ x ∈ os, ∃ n ∈ L', x = ((n : Nat) : Int) := fun x hx => by
          obtain ⟨n, h1, h2⟩ := List.mem_map.mp (hp.mem_iff.mp hx)
          exact ⟨n, h1, h2.symm⟩
        have em := nat_list ho
        generalize os.map Int.toNat = ks at em
        subst em
        have pk : ks.Perm L' := by
          have := hp.map Int.toNat
          simpa [List.map_map, Function.comp_def] using this
        have ndk : ks.Nodup := pk.nodup_iff.mpr nd
        have hsk : ks.Pairwise (· < ·) := by
          rw [List.pairwise_map] at hs
          refine List.Pairwise.imp₂ (fun a b h1 h2 => ?_) hs ndk
          have : a ≠ b := h2
          omega
        have hq := h4 r ks (s5.hp.free hr) hsk fun x => pk.mem_iff.trans ((hm x).trans ⟨fun q => ⟨SI.mem_lof.mp q.1, fun z => q.2 (SI.mem_lof.mpr z)⟩, fun q => ⟨SI.mem_lof.mpr q.1, fun z => q.2 (SI.mem_lof.mp z)⟩⟩)
        have rr : RPs X.K (upd H3 R (.ext (SetI X.w R L'))) (ks.map natP) ((ks.map fun (n : Nat) => (n : Int)).map V.int) := by
          have e3 : ks.map natP = (ks.map fun (n : Nat) => (n : Int)).map PV.int := by rw [List.map_map]; rfl
          rw [e3]
          exact ints_rps
        exact k _ _ _ _ hq (by simp [RP]) (s5.new hr (newL hr rr)) (((((e1.trans ev2).trans e3).trans ev4).trans ev5).trans (Ev.new hr))
      | _ => exact h3.elim
    | _ => exact h1.elim
end U


set_option linter.all false
set_option maxRecDepth 100000
set_option maxHeartbeats 4000000 -- own
namespace L2
open PySem PySem.Spec PyProof.Rows
variable {X : Cx} {tg : Expr}
def It3 (lo : Int) (n : Nat) : It := ⟨fun i _ => i < n, fun i H x H' => H' = H ∧ x = .int (lo + 3 * i), fun i _ => n ≤ i⟩
theorem turn_by3 {P : Program} {w : World} {K : PySem.W.Frag} (it : Addr) (lo : Int) (n : Nat) : Turn P w K tg (It3 lo n) [it] it (fun i h => IsRangeIter h it (lo + (i : Nat) * 3) ((n : Int) - (i : Nat)) 3) where
  mem := by simp
  obj := fun i h st b hb => by
    have q : b = it := by simpa using hb
    subst q
    exact ⟨_, st, fun v z => by
      have z' : Data.fields _ = Data.cell v := z
      cases z'⟩
  keep := fun i h h' st k => k it (by simp) _ st
  item := by
    intro X hP hw hK hc i pins s σ H E I hf st hg
    subst hP hw hK
    obtain ⟨f0, f1, f2, f3, f4, f5⟩ := hf it (by simp)
    have W := Walks.range (prog := X.prog) (w := X.w) (I.ok.hd hc) it lo 3 n
    refine W.item i s _ _ hg st fun v h' tk hv st' kk => ?_
    obtain ⟨t, rfl⟩ := hv
    have J : Inv X pins σ H { s with heap := h', toks := tk } := I.turned (fun b o hb e => kk b o (by simpa using hb) e) f0 f1 f3 f4 f5
    refine ⟨_, rfl, go_of (s := { s with heap := h', toks := tk }) (n := "range_iterator") st' rfl rfl (by decide) ⟨.int (lo + 3 * i), H, J, ⟨t, ?_⟩, ⟨rfl, rfl⟩, st', fun b hb => (hf b hb).1⟩⟩
    congr 1
    omega
  done := by
    intro X hP hw hK hc i pins s σ H E I hf st hg
    subst hP hw hK
    obtain ⟨f0, f1, f2, f3, f4, f5⟩ := hf it (by simp)
    exact wpAny_pyNext_range_end (I.ok.hd hc) st (by have q : n ≤ i := hg; omega) fun h' eb => ⟨rfl, I.turned (t' := s.toks) (fun b o hb e => eb b o hb e) f0 f1 f3 f4 f5⟩
  self := fun _ _ _ _ _ st h => wpAny_pyIter_rangeiter st h
def by3 (lo hi : Int) : Nat := ((hi - lo + 2) / 3).toNat
def iBy3 (ta : TA) : TI := fun σ H R => ta σ H fun vs H1 => ∃ lo hi : Int, vs = [.int lo, .int hi, .int 3] ∧ 0 ≤ lo ∧ lo < 1000 ∧ 0 ≤ hi ∧ hi < 1000 ∧ R (It3 lo (by3 lo hi)) H1
theorem by3_size {lo hi : Int} : Builtin.Range.rangeSize lo hi 3 = (by3 lo hi : Nat) := by
  unfold Builtin.Range.rangeSize by3
  rw [if_pos (by decide)]
  split <;> omega
theorem by3_small {lo hi : Int} (h1 : 0 ≤ lo) (h2 : lo < 1000) (h3 : 0 ≤ hi) (h4 : hi < 1000) : Builtin.Range.small lo hi 3 = true := by
  unfold Builtin.Range.small
  rw [by3_size]
  have : by3 lo hi ≤ 400 := by unfold by3; omega
  generalize by3 lo hi = n at this
  simp only [Builtin.Range.rangeFitsLong, Bool.and_eq_true, Bool.or_eq_true, decide_eq_true_eq, beq_iff_eq]
  refine ⟨⟨⟨⟨by omega, by omega⟩, by decide⟩, by omega⟩, ?_⟩
  refine .inr ?_
  rw [if_pos (by decide), Bool.and_eq_true, decide_eq_true_eq, decide_eq_true_eq]
  exact ⟨by omega, by omega⟩
theorem pi_by3 {a b c : Expr} {ta : TA} {p pos : Pos} (hg : Gl X "range") (hm : X.mg "range" = none) (ha : PA X [a, b, c] ta) (hs : starEach [a, b, c] X.env = [(false, eval a X.env), (false, eval b X.env), (false, eval c X.env)] := by rfl)
    (hs2 : starEach [b, c] X.env = [(false, eval b X.env), (false, eval c X.env)] := by rfl) : PI X tg (.Call (.Name "range" p) [a, b, c] [] pos) (iBy3 ta) := by
  intro pins s σ H R I h
  refine Call_ (ld_blt I hg hm boot_range (PyProof.Rows.callWith_type1 (thn (ha pos pins s σ H _ I h) fun us s1 ⟨vs, H1, I1, r1, q1⟩ => ?_) (by rw [hs, hs2]) (by rw [hs2]; rfl)))
  obtain ⟨lo, hi, e, q1, q2, q3, q4, q⟩ := q1
  subst e
  cases r1 with
  | cons r rr =>
    cases rr with
    | cons r' rr =>
      cases rr with
      | cons r'' rr =>
        cases rr
        obtain ⟨t, rfl⟩ := r
        obtain ⟨t', rfl⟩ := r'
        obtain ⟨t'', rfl⟩ := r''
        refine call_range_3 (by decide) ?_ (Or.inl (PyProof.noPylong_of_log2 (by decide +kernel)))
        generalize hh : s1.heap.push { cls := .type "range", data := .fields #[.int lo t, .int hi t', .int 3 t''] } = h2
        have I2 : Inv X pins σ H1 { s1 with heap := h2 } := by rw [← hh]; exact I1.kept (t' := s1.toks) fun b o e => Heap.get?_push_of_some _ e
        refine wpAny_pyIter_range (s := { s1 with heap := h2, toks := s1.toks }) (by rw [← hh]; exact IsRange.new ..) (by3_small q1 q2 q3 q4) ?_
        refine ⟨h2.objs.size, [h2.objs.size], _, _, H1, rfl, I2.kept (t' := s1.toks) fun b o e => Heap.get?_push_of_some _ e, turn_by3 _ lo (by3 lo hi), ?_, fun b hb => ?_, q⟩
        · show IsRangeIter _ _ (lo + ((0 : Nat) : Int) * 3) (((by3 lo hi : Nat) : Int) - ((0 : Nat) : Int)) 3
          have e1 : lo + ((0 : Nat) : Int) * 3 = lo := by simp
          have e2 : ((by3 lo hi : Nat) : Int) - ((0 : Nat) : Int) = Builtin.Range.rangeSize lo hi 3 := by rw [by3_size]; omega
          rw [e1, e2]
          exact Heap.get?_push_size _ rfl
        · have e : b = h2.objs.size := by simpa using hb
          subst e
          exact I2.fpOk (Nat.le_refl _) (I2.hok.fresh (Nat.le_refl _))
end L2
namespace U
open PySem PySem.Spec PyProof.Rows L2
variable {B : Bs} {X : Cx} {a b c : Expr} {pos : Pos}
def by3L (lo : Int) (n : Nat) : List PV := (List.range n).map fun k => PV.int (lo + 3 * (k : Nat))
theorem walks_by3 {K : PySem.W.Frag} {H1 : Hp} {lo : Int} {n : Nat} : Walks K H1 (It3 lo n) ⟨by3L lo n, fun _ => True⟩ where
  go := fun H' H i _ _ _ hi => by
    have q : i < n := by simpa [by3L] using hi
    exact q
  yld := fun H' H i x H2 _ _ _ y => by
    obtain ⟨rfl, rfl⟩ := y
    refine ⟨rfl, fun x' hx => ?_⟩
    unfold by3L at hx
    rw [List.getElem?_map] at hx
    cases q : (List.range n)[i]? with
    | none => rw [q] at hx; cases hx
    | some j =>
      rw [q] at hx
      have : j = i := by
        have := (List.getElem?_eq_some_iff.mp q).2
        simpa using this.symm
      subst this
      cases hx
      simp [RP]
  stop := fun H' H i _ _ _ hi => by
    have q : n ≤ i := by simpa [by3L] using hi
    exact q
def step3 (vs : List PV) (H1 : PHp) (R : It' → PHp → Prop) : Prop := match vs with
  | [.int lo, .int hi, .int f] => f = 3 ∧ 0 ≤ lo ∧ lo < 1000 ∧ 0 ≤ hi ∧ hi < 1000 ∧ R ⟨by3L lo (by3 lo hi), fun _ => True⟩ H1
  | _ => False
theorem w_s3 {lo hi f : Int} {H1 : PHp} {R : It' → PHp → Prop} : step3 [.int lo, .int hi, .int f] H1 R = (f = 3 ∧ 0 ≤ lo ∧ lo < 1000 ∧ 0 ≤ hi ∧ hi < 1000 ∧ R ⟨by3L lo (by3 lo hi), fun _ => True⟩ H1) := rfl
def uBy3 (t : TA') : TI' := fun σ H R => t σ H fun vs H1 => step3 vs H1 R
theorem qi_by3 {tg : Expr} {t : TA'} {p : Pos} (hg : Gl X "range") (hm : X.mg "range" = none) (ha : PA' X B [a, b, c] t) (hs : starEach [a, b, c] X.env = [(false, eval a X.env), (false, eval b X.env), (false, eval c X.env)] := by rfl)
    (hs2 : starEach [b, c] X.env = [(false, eval b X.env), (false, eval c X.env)] := by rfl) : PI' X B tg (.Call (.Name "range" p) [a, b, c] [] pos) (uBy3 t) :=
  pi_imp (pi_by3 hg hm ha hs hs2) fun σ H R ⟨σ', H', R', s, h, k⟩ => by
    refine ⟨σ', H', _, s, h, fun vs' H1' vs H1 h1 r1 s1 e1 => ?_⟩
    unfold step3 at h1
    split at h1
    · rename_i lo hi f
      obtain ⟨rfl, h2, h3, h4, h5, q⟩ := h1
      simp only [RPs, RP] at r1
      obtain ⟨u, r, rfl, rfl, u2, r2, rfl, rfl, u3, r3, rfl, rfl, rfl⟩ := r1
      exact ⟨lo, hi, rfl, h2, h3, h4, h5, k _ _ _ _ q walks_by3 s1 e1⟩
    · exact h1.elim
end U


set_option linter.all false
set_option maxRecDepth 100000
set_option maxHeartbeats 4000000 -- own
namespace L2
open PySem PySem.Spec PyProof.Rows
variable {X : Cx}
theorem pre_take (ns : List Int) : ∀ i, i ≤ ns.length → preSum (fun j => ns.getD j 0) i = (ns.take i).sum
  | 0, _ => by simp [preSum]
  | i + 1, h => by
    have hi : i < ns.length := by omega
    rw [preSum, pre_take ns i (by omega), List.take_succ, List.getElem?_eq_getElem hi, List.sum_append]
    simp [List.getD_eq_getElem?_getD, List.getElem?_eq_getElem hi]
theorem call_sumI (hc : X.calm = true) : CallR X (.builtin "sum") (fun xs H Q => ∃ (a : Addr) (ns : List Int), xs = [.ref a] ∧ SqL X.K H a (ns.map V.int) ∧ Q (.int ns.sum) H) := by
  intro pins s σ H xs us Q I r h
  obtain ⟨a, ns, rfl, hq, q⟩ := h
  obtain ⟨u, rfl, ru⟩ := Vals.one r
  cases ru
  obtain ⟨its, rv, p, hz⟩ := I.list hq
  have hl : s.heap.IsList a its.toArray := p.isList
  have llt : a < s.heap.objs.size := by obtain ⟨o, e, _⟩ := hl; exact Heap.lt_size e
  have hne : a ≠ s.heap.objs.size := Nat.ne_of_lt llt
  have hlen : its.length = ns.length := by have := Paired.length rv; rw [List.length_map] at this; exact this.symm
  refine call_sum_walkAnyS (wpAny_pyIter_list hl ?_)
  refine ⟨s.heap.objs.size, [s.heap.objs.size, a], [s.heap.objs.size], _, its.toArray.size, _, _, fun i => ns.getD i 0, rfl, (Walks.list (by simpa using I.ok.hd hc) _ a hne _).toS, ⟨⟨_, Heap.get?_push_size _ rfl, rfl, rfl⟩, hl.at fun o e => Heap.get?_push_of_some _ e⟩, fun b hb => ?_, fun i v hv => ?_, fun s' t' hm => ?_⟩
  · rw [Heap.size_push]
    simp only [List.mem_cons, List.not_mem_nil, or_false] at hb
    rcases hb with e | e
    · rw [e]; exact Nat.lt_succ_self _
    · rw [e]; exact Nat.lt_succ_of_lt llt
  · have hv' : its[i]? = some v := by simpa using hv
    have hi : i < ns.length := by rw [← hlen]; exact (List.getElem?_eq_some_iff.mp hv').1
    obtain ⟨u, eu, ru⟩ := rv.get (List.getElem?_eq_getElem (by rw [List.length_map]; exact hi))
    rw [hv'] at eu
    cases eu
    rw [List.getElem_map] at ru
    obtain ⟨tk, rfl⟩ := ru
    refine ⟨tk, ?_⟩
    show _ = Value.int (ns.getD i 0) tk
    rw [List.getD_eq_getElem?_getD, List.getElem?_eq_getElem hi]
    rfl
  · have e : preSum (fun i => ns.getD i 0) its.toArray.size = ns.sum := by
      rw [List.size_toArray, hlen, pre_take ns ns.length (Nat.le_refl _), List.take_length]
    rw [e, Moved.eq_with hm]
    refine ⟨.int ns.sum, H, I.kept (t' := s'.toks) fun b o e => ?_, ⟨_, rfl⟩, q⟩
    exact hm.heap b o (by simpa using Nat.ne_of_lt (Heap.lt_size e)) (Heap.get?_push_of_some _ e)
end L2
namespace U
open PySem PySem.Spec PyProof.Rows L2
variable {B : Bs} {X : Cx} {a b : Expr} {ta tb : TE'} {pos : Pos}
def uSum : List PV → PHp → VK' → Prop := arg1 fun x H Q => match x with
  | .ref a => ∃ ns : List Int, H a = some (.lst (ns.map PV.int)) ∧ Q (.int ns.sum) H
  | _ => False
theorem w_su {a : Addr} {H : PHp} {Q : VK'} : uSum [.ref a] H Q = ∃ ns : List Int, H a = some (.lst (ns.map PV.int)) ∧ Q (.int ns.sum) H := rfl
theorem vc_sum {K : PySem.W.Frag} : VC K B uSum (fun xs H Q => ∃ (a : Addr) (ns : List Int), xs = [.ref a] ∧ SqL K H a (ns.map V.int) ∧ Q (.int ns.sum) H) := by
  intro σ' σ H' H xs' xs Q' Q s r h k
  obtain ⟨x', x, rfl, rfl, rx, h⟩ := arg1.ex h r
  cases x' with
  | ref a =>
    obtain ⟨ns, ea, q⟩ := h
    simp only [RP] at rx
    subst rx
    obtain ⟨us, e, r2⟩ := s.hp _ _ ea
    rw [rps_ints r2] at e
    exact ⟨a, ns, rfl, .inl (.inl e), k _ _ _ _ q (by simp [RP]) s (Ev.refl _ _)⟩
  | _ => exact h.elim
def uMin : List PV → PHp → VK' → Prop := fun xs H Q => match xs with
  | [.int i, .int j] => Q (.int (if j < i then j else i)) H
  | _ => False
theorem w_mi {i j : Int} {H : PHp} {Q : VK'} : uMin [.int i, .int j] H Q = Q (.int (if j < i then j else i)) H := rfl
theorem vc_min {K : PySem.W.Frag} : VC K B uMin (fun xs H Q => ∃ i j, xs = [.int i, .int j] ∧ Q (.int (if j < i then j else i)) H) := by
  intro σ' σ H' H xs' xs Q' Q s r h k
  unfold uMin at h
  split at h
  · rename_i i j
    simp only [RPs, RP] at r
    obtain ⟨_, _, rfl, rfl, _, _, rfl, rfl, rfl⟩ := r
    exact ⟨i, j, rfl, k _ _ _ _ h (by simp [RP]) s (Ev.refl _ _)⟩
  · exact h.elim
end U


set_option linter.all false
set_option maxRecDepth 100000
set_option maxHeartbeats 4000000 -- own
namespace L2
open PySem PySem.Spec PyProof.Rows
variable {X : Cx}
theorem cat_none {prog : Program} {w : World} {A : Around} {E : Value → Shared → Prop} {s : Shared} {t b : Addr} {ws : List Value} {Q : Value → Shared → Prop} (ht : IsTup s.heap t ([] : List Value).toArray) (hb : IsTup s.heap b ws.toArray) (h : Q (.ref b) s) : wpAny (model prog w) A (binaryOp .Add (.ref t) (.ref b)) Q E s := by
  obtain ⟨⟨cls, dd, data, sl⟩, g, hc, n, g2⟩ := id ht
  obtain ⟨⟨cls2, dd2, data2, sl2⟩, k, hc2, n2, k2⟩ := id hb
  simp only at hc g2 hc2 k2
  subst hc g2 hc2 k2
  exact concat_meets ⟨_, g, rfl⟩ ⟨_, k, rfl⟩ noFill_tuple_add seq_tuple_add PySem.F.slot_tuple_add PySem.F.entry_tuple_add (PySem.F.args_tuple_add_2 _ _) (tuple_addW0 t b _ ws.toArray n n2 dd dd2 sl sl2 rfl) ⟨g, k, h⟩
def rCatA (K : PySem.W.Frag) : R2 := fun x y H Q => ∃ a b xs ys, x = .ref a ∧ y = .ref b ∧ SqT K H a xs ∧ SqT K H b ys ∧ xs.length + ys.length ≤ sizeLine ∧ (xs = [] → Q (.ref b) H) ∧ (ys = [] → Q (.ref a) H) ∧ (ys ≠ [] → ∀ p, H p = none → Q (.ref p) (upd H p (.tup (xs ++ ys))))
theorem op_catA : OpR X (binaryOp .Add) (rCatA X.K) := by
  intro pins s σ H x y v u Q I rx ry h
  obtain ⟨a, b, xs, ys, rfl, rfl, ha, hb, hz, q0, q1, q2⟩ := h
  by_cases e : xs = []
  · cases rx
    cases ry
    subst e
    obtain ⟨its, r1, p1, _⟩ := I.tuple ha
    obtain ⟨its2, r2, p2, _⟩ := I.tuple hb
    cases r1
    exact cat_none p1 p2 ⟨.ref b, H, I, rfl, q0 rfl⟩
  · exact op_catT pins s σ H _ _ v u Q I rx ry ⟨a, b, xs, ys, rfl, rfl, ha, hb, e, hz, q1, q2⟩
end L2
namespace U
open PySem PySem.Spec PyProof.Rows L2
variable {B : Bs} {X : Cx} {a b : Expr} {ta tb : TE'} {pos : Pos}
def uCatT : R2' := fun x y H Q => match x, y with
  | .tup l, .tup m => l.length + m.length ≤ sizeLine ∧ Q (.tup (l ++ m)) H
  | _, _ => False
theorem w_cT {l m : List PV} {H : PHp} {Q : VK'} : uCatT (.tup l) (.tup m) H Q = (l.length + m.length ≤ sizeLine ∧ Q (.tup (l ++ m)) H) := rfl
theorem vr_catT {K : PySem.W.Frag} : VR K B uCatT (rCatA K) := by
  intro σ' σ H' H x' y' x y Q' Q s rx ry h k
  unfold uCatT at h
  split at h
  · rename_i l m
    obtain ⟨hl, q⟩ := h
    have rx' := rx
    have ry' := ry
    simp only [RP] at rx ry
    obtain ⟨a, us, rfl, ha, r1⟩ := rx
    obtain ⟨b, ws, rfl, hb, r2⟩ := ry
    have l1 := RPs.length _ r1
    have l2 := RPs.length _ r2
    refine ⟨a, b, us, ws, rfl, rfl, ha, hb, by rw [l1, l2]; exact hl, fun e => ?_, fun e => ?_, fun e p hp => ?_⟩
    · have : l = [] := List.length_eq_zero_iff.mp (by rw [← l1, e]; rfl)
      rw [this, List.nil_append] at q
      exact k _ _ _ _ q ry' s (Ev.refl _ _)
    · have : m = [] := List.length_eq_zero_iff.mp (by rw [← l2, e]; rfl)
      rw [this, List.append_nil] at q
      exact k _ _ _ _ q rx' s (Ev.refl _ _)
    · exact k _ _ _ _ q (newT hp (RPs.append _ r1 r2)) (s.hid hp) (Ev.hid hp)
  · exact h.elim
theorem qe_catT (ha : PE' X B a ta) (hb : PE' X B b tb) : PE' X B (.BinOp a .Add b pos) (uOp uCatT ta tb) := qe_op op_catA vr_catT ha hb
end U


set_option linter.all false
set_option maxRecDepth 100000
set_option maxHeartbeats 4000000 -- own
namespace RL
open PySem PyProof.Rows
variable {prog : Program} {w : World} {A : Around} {E : Value → Shared → Prop} {s : Shared} {it l : Addr} {items : Array Value}
theorem no_len : typeLookup (.type "list_reverseiterator") "__len__" = pure none := by rw [typeLookup_type, builtinLookup_eq_fast]; kernel_rfl
theorem has_hint : typeLookup (.type "list_reverseiterator") "__length_hint__" = pure (some (.builtin "list_reverseiterator.__length_hint__")) := by rw [typeLookup_type, builtinLookup_eq_fast]; kernel_rfl
theorem hint {Q : Bool → Shared → Prop} (ty : s.TypeIs (.ref it) "list_reverseiterator") (h : Q false s) : wpAny (model prog w) A (Builtin.List.listLengthHint (.ref it)) Q E s := by
  unfold Builtin.List.listLengthHint
  refine wpAny_bind (wpAny_specialOf ty no_len ?_)
  dsimp only
  refine wpAny_ite_split (fun hab => absurd hab (by decide +kernel)) (fun _ => ?_)
  refine wpAny_ite_split (fun hab => absurd hab (by decide +kernel)) (fun _ => ?_)
  refine wpAny_bind (wpAny_specialOf ty has_hint ?_)
  generalize hid : ("list_reverseiterator.__length_hint__" : String) = id0
  wp_delta
  rw [show splitId id0 = some ("list_reverseiterator", "__length_hint__") from by subst hid; decide +kernel]
  subst hid
  refine wpAny_bind (wpAny_isInstance (T := "list_reverseiterator") (b := true) ty (by rw [isSubtype_type]; kernel_rfl) ?_)
  refine wpAny_ite_split (fun hab => absurd hab (by decide)) (fun _ => ?_)
  refine wpAny_ite_split (fun _ => ?_) (fun hab => absurd (by decide +kernel) hab)
  refine wpAny_ite_split (fun hab => absurd hab (by decide +kernel)) (fun _ => ?_)
  exact wpAny_pure h
theorem extend {R : Result → Shared → Prop} (hh : A.handled = none) (hit : s.heap.IsRevIter it l ((items.size : Int) - 1)) (hl : s.heap.IsList l items) (hne : l ≠ it) (S : Addr) (hSi : S ≠ it) (hSl : S ≠ l) (res : Value) (c₀ : Nat) (hS : s.heap.get? S = some { cls := .type "list", data := .seq #[] c₀ }) (hn : items.size ≤ sizeLine)
    (hR : ∀ h' tk acc c', (∀ b o, b ≠ S → b ≠ it → s.heap.get? b = some o → h'.get? b = some o) → h'.get? S = some { cls := .type "list", dict := none, data := .seq acc c', slots := #[] } → ItemsOf (fun i v => items[items.size - 1 - i]? = some v) acc items.size → R (.ok (.ret res)) { s with heap := h', toks := tk }) :
    wpAny (model prog w) A.in1 (Builtin.List.listExtendWith (.ref S) (.ref it) res)
      (fun fin s' => match fin with | .done f => R (.ok f) s' | .again c' => c'.quiet = true ∧ codeAny (model prog w) A c' R s') (fun e s' => R (.error e) s') s := by
  have W := Walks.listRev (prog := prog) (w := w) (A := A.in1) hh it l hne items
  have hSf : S ∉ [it, l] := by simp only [List.mem_cons, List.not_mem_nil, or_false, not_or]; exact ⟨hSi, hSl⟩
  have st : (0 : Nat) ≤ items.size ∧ s.heap.IsRevIter it l ((items.size : Int) - 1 - ((0 : Nat) : Int)) ∧ s.heap.IsList l items := ⟨Nat.zero_le _, by simpa using hit, hl⟩
  have ty := hit.typeIs
  have key : ∀ (h : Heap) (c₁ tk : Nat), ((0 : Nat) ≤ items.size ∧ h.IsRevIter it l ((items.size : Int) - 1 - ((0 : Nat) : Int)) ∧ h.IsList l items) → (∀ b o, b ≠ S → s.heap.get? b = some o → h.get? b = some o) →
      h.get? S = some { cls := .type "list", data := .seq #[] c₁ } → codeAny (model prog w) A (.builtin "list.extend.loop" ⟨[.ref S, .ref it, res], []⟩) R { s with heap := h, toks := tk } := by
    intro h c₁ tk hst hk hS₁
    refine codeAny_extend_loopS W.toS hn S hSf res items.size 0 _ #[] c₁ rfl (Nat.zero_le _) hst hS₁ (ItemsOf.nil _) fun s' acc' c' hm hS' hacc => ?_
    rw [Moved.eq_with hm]
    refine hR s'.heap s'.toks acc' c' (fun b o hb hb2 e => hm.heap b o (fun hmem => ?_) (hk b o hb e)) hS' hacc
    rcases List.mem_cons.mp hmem with e' | q
    · exact hb e'
    · exact hb2 (List.mem_singleton.mp q)
  unfold Builtin.List.listExtendWith
  refine wpAny_bind (wpAny_typeOf (T := "list_reverseiterator") ty ?_)
  have h1 : Builtin.List.listSameRef (.ref S) (.ref it) = false := by simp [Builtin.List.listSameRef, hSi]
  simp only [h1, show (Value.type "list_reverseiterator" == Value.type "list") = false by decide, show (Value.type "list_reverseiterator" == Value.type "tuple") = false by decide, Bool.or_false, Bool.false_eq_true, if_false]
  refine wpAny_bind (wpAny_pyIter_revIter hit ?_)
  refine wpAny_bind (wpAny_holding (hint ty ?_))
  refine wpAny_ite_split (fun hab => ?_) (fun _ => wpAny_pure ⟨plainId_quiet PySem.F.plain_extend_loop _, key s.heap c₀ s.toks st (fun b o _ e => e) hS⟩)
  exact absurd hab (by decide +kernel)
theorem init {R : Result → Shared → Prop} (hh : A.handled = none) (hit : s.heap.IsRevIter it l ((items.size : Int) - 1)) (hl : s.heap.IsList l items) (hne : l ≠ it) (S : Addr) (hSi : S ≠ it) (hSl : S ≠ l) (hS : s.heap.get? S = some { cls := .type "list", data := .seq #[] }) (hn : items.size ≤ sizeLine)
    (hR : ∀ h' tk acc c', (∀ b o, b ≠ S → b ≠ it → s.heap.get? b = some o → h'.get? b = some o) → h'.get? S = some { cls := .type "list", dict := none, data := .seq acc c', slots := #[] } → ItemsOf (fun i v => items[items.size - 1 - i]? = some v) acc items.size → R (.ok (.ret .none)) { s with heap := h', toks := tk }) :
    wpAny (model prog w) A.in1 (Builtin.«list.__init__» ⟨[.ref S, .ref it], []⟩)
      (fun fin s' => match fin with | .done f => R (.ok f) s' | .again c' => c'.quiet = true ∧ codeAny (model prog w) A c' R s') (fun e s' => R (.error e) s') s := by
  show wpAny _ _ (do let old ← Builtin.List.listItems (.ref S); Builtin.List.listUpdate (.ref S) (fun _ => #[]); letGo old.toList.reverse; Builtin.List.listExtendWith (.ref S) (.ref it) .none) _ _ s
  refine wpAny_bind ?_
  unfold Builtin.List.listItems
  refine wpAny_bind (wpAny_seqItems hS rfl (wpAny_pure ?_))
  show wpAny _ _ (Bind.bind (updateSeq S (fun _ => #[])) fun _ => Bind.bind (letGo (#[] : Array Value).toList.reverse) fun _ => Builtin.List.listExtendWith (.ref S) (.ref it) .none) _ _ s
  refine wpAny_bind (wpAny_updateSeq hS rfl ?_)
  have g2 := Heap.get?_update_self (Obj.mapSeq (fun _ => (#[] : Array Value))) hS rfl
  have oth : ∀ b o, b ≠ S → s.heap.get? b = some o → (s.heap.update S (Obj.mapSeq (fun _ => (#[] : Array Value)))).get? b = some o := fun b o hb e => (Heap.get?_update_other _ _ (Ne.symm hb)).trans e
  refine wpAny_bind (wpAny_letGo ?_)
  refine extend hh (hit.at fun o e => oth it o hSi.symm e) (hl.at fun o e => oth l o hSl.symm e) hne S hSi hSl .none _ g2 hn fun h' tk acc c' hk hS' hacc => ?_
  exact hR h' tk acc c' (fun b o hb hb2 e => hk b o hb hb2 (oth b o hb e)) hS' hacc
theorem call_list_rev {Q : Value → Shared → Prop} (hh : A.handled = none) (hit : s.heap.IsRevIter it l ((items.size : Int) - 1)) (hl : s.heap.IsList l items) (hne : l ≠ it) (hlt : it < s.heap.objs.size) (hlt2 : l < s.heap.objs.size) (hn : items.size ≤ sizeLine)
    (hQ : ∀ h' tk acc c', (∀ b o, b ≠ it → s.heap.get? b = some o → h'.get? b = some o) → h'.get? s.heap.objs.size = some { cls := .type "list", dict := none, data := .seq acc c', slots := #[] } → ItemsOf (fun i v => items[items.size - 1 - i]? = some v) acc items.size → Q (.ref s.heap.objs.size) { s with heap := h', toks := tk }) :
    wpAny (model prog w) A (call (.type "list") [.ref it]) Q E s := by
  refine callType_codes (Q₁ := fun obj s₁ => obj = .ref s.heap.objs.size ∧ s₁ = { s with heap := s.heap.push { cls := .type "list", data := .seq #[] } }) PySem.F.called_list (PySem.F.typeCall_list_1 _) PySem.F.entry_list_init (code_list_new _ ⟨rfl, rfl⟩) fun obj s₁ h₁ => ?_
  obtain ⟨rfl, rfl⟩ := h₁
  have hS : (s.heap.push { cls := .type "list", data := .seq #[] }).get? s.heap.objs.size = some { cls := .type "list", data := .seq #[] } := Heap.get?_push_size _ rfl
  refine ⟨⟨_, hS, rfl⟩, PySem.F.args_list_init_2 _ _, init (A := A.in1) hh (hit.at fun o e => Heap.get?_push_of_some _ e) (hl.at fun o e => Heap.get?_push_of_some _ e) hne _ (Nat.ne_of_gt hlt) (Nat.ne_of_gt hlt2) hS hn fun h' tk acc c' hk hS' hacc => ?_⟩
  exact ⟨rfl, hQ h' tk acc c' (fun b o hb e => hk b o (Nat.ne_of_lt (Heap.lt_size e)) hb (Heap.get?_push_of_some _ e)) hS' hacc⟩
end RL


set_option linter.all false
set_option maxRecDepth 100000
set_option maxHeartbeats 4000000 -- own
namespace L2
open PySem PySem.Spec PyProof.Rows
variable {X : Cx} {a : Expr} {ta : TE} {p p2 pos pos2 : Pos}
theorem pd_app {α β : Type} {R : α → β → Prop} : ∀ {l l2 : List α} {m m2 : List β}, Paired R l m → Paired R l2 m2 → Paired R (l ++ l2) (m ++ m2)
  | [], _, [], _, .nil, h => h
  | _ :: _, _, _ :: _, _, .cons a t, h => .cons a (pd_app t h)
theorem vals_rev : ∀ {us : List V} {its : List Value}, Vals us its → Vals us.reverse its.reverse
  | [], [], .nil => .nil
  | x :: us, v :: its, .cons h t => by
    rw [List.reverse_cons, List.reverse_cons]
    exact pd_app (vals_rev t) (.cons h .nil)
theorem items_rev {its : List Value} {acc : Array Value} (h : ItemsOf (fun i v => its.toArray[its.toArray.size - 1 - i]? = some v) acc its.toArray.size) : acc.toList = its.reverse := by
  have h2 := h.2
  have h1 : acc.size = its.length := by have := h.1; simpa using this
  apply List.ext_getElem?
  intro j
  rw [Array.getElem?_toList]
  by_cases hj : j < acc.size
  · have e := h2 j _ (Array.getElem?_eq_getElem hj)
    rw [Array.getElem?_eq_getElem hj, List.getElem?_reverse (by omega), ← e, List.size_toArray]
    simp
  · rw [Array.getElem?_eq_none (by omega), List.getElem?_eq_none (by rw [List.length_reverse]; omega)]
def tRev (K : PySem.W.Frag) (ta : TE) : TE := fun σ H Q => ta σ H fun x H1 => ∃ b us, [x] = [V.ref b] ∧ SqL K H1 b us ∧ ∀ r, H1 r = none → Q (.ref r) (upd H1 r (.lst us.reverse))
theorem pe_rev (hc : X.calm = true) (hg : Gl X "list") (hm : X.mg "list" = none) (hg2 : Gl X "reversed") (hm2 : X.mg "reversed" = none) (b1 : bootBuiltins "list" = some (.type "list")) (b2 : bootBuiltins "reversed" = some (.type "reversed")) (ha : PE X a ta)
    (he : starEach [.Call (.Name "reversed" p2) [a] [] pos2] X.env = [(false, eval (.Call (.Name "reversed" p2) [a] [] pos2) X.env)] := by rfl) (he2 : starEach [a] X.env = [(false, eval a X.env)] := by rfl) (hpl : (backTo pos (starEach [] X.env)).any (·.1) = false := by rfl) (hpl2 : (backTo pos2 (starEach [] X.env)).any (·.1) = false := by rfl) :
    PE X (.Call (.Name "list" p) [.Call (.Name "reversed" p2) [a] [] pos2] [] pos) (tRev X.K ta) := by
  intro pins s σ H Q I h
  refine wpAny_Call_Name_kw (ld_blt I hg hm b1 ?_ (by decide) (by decide))
  refine PyProof.Rows.callWith_type1 ?_ he hpl
  rw [he]
  show wpAny _ _ (spliced ((false, eval (.Call (.Name "reversed" p2) [a] [] pos2) X.env) :: [])) _ _ s
  refine Calls.spliced_cons ?_
  refine wpAny_Call_Name_kw (ld_blt I hg2 hm2 b2 ?_ (by decide) (by decide))
  refine PyProof.Rows.callWith_type1 ?_ he2 hpl2
  refine thn (pa_cons ha pa_nil he2 pos2 pins s σ H (fun xs H1 => ∃ b us, xs = [.ref b] ∧ SqL X.K H1 b us ∧ ∀ r, H1 r = none → Q (.ref r) (upd H1 r (.lst us.reverse))) I ?_) fun us s1 ⟨vs, H1, I1, r1, q1⟩ => ?_
  · exact h
  obtain ⟨b, ws, rfl, hq, q⟩ := q1
  obtain ⟨u, rfl, ru⟩ := vals1 r1
  cases ru
  obtain ⟨its, rv, pl, hz⟩ := I1.list hq
  have hl : s1.heap.IsList b its.toArray := pl.isList
  have hb : b < s1.heap.objs.size := by obtain ⟨o, e, _⟩ := hl; exact Heap.lt_size e
  refine call_reversed_list hl ?_
  refine Calls.spliced_nil ?_
  have hlen := rv.length
  have lt : s1.heap.objs.size < (s1.heap.push (revObj b ((its.toArray.size : Int) - 1))).objs.size := by rw [Heap.size_push]; exact Nat.lt_succ_self _
  refine RL.call_list_rev (l := b) (items := its.toArray) (I.ok.hd hc) ⟨_, Heap.get?_push_size _ rfl, rfl, rfl⟩ (hl.at fun o e => Heap.get?_push_of_some _ e) (Nat.ne_of_lt hb) lt (Nat.lt_trans hb lt) (by simp only [List.size_toArray]; omega) fun h' tk acc c kp hS hacc => ?_
  have hle : s1.heap.objs.size ≤ (s1.heap.push (revObj b ((its.toArray.size : Int) - 1))).objs.size := Nat.le_of_lt lt
  refine ⟨.ref _, _, I1.laid (t' := tk) (o := .lst ws.reverse) (fun b o e => kp b o (Nat.ne_of_lt (Heap.lt_size e)) (Heap.get?_push_of_some _ e)) hle ?_, rfl, q _ (I1.hok.fresh hle)⟩
  refine ⟨by rw [List.length_reverse]; exact hz, its.reverse, c, vals_rev rv, ?_⟩
  rw [hS, ← items_rev hacc]
end L2
namespace U
open PySem PySem.Spec PyProof.Rows L2
variable {B : Bs} {X : Cx} {a : Expr} {ta : TE'} {p p2 pos pos2 : Pos}
def revA (x : PV) (H1 : PHp) (k : List PV → Prop) : Prop := match x with
  | .ref b => ∃ l, H1 b = some (.lst l) ∧ k l
  | _ => False
theorem w_rA {b : Addr} {H1 : PHp} {k : List PV → Prop} : revA (.ref b) H1 k = ∃ l, H1 b = some (.lst l) ∧ k l := rfl
def uRev (ta : TE') : TE' := fun σ H Q => ta σ H fun x H1 => revA x H1 fun l => ∀ r, H1 r = none → Q (.ref r) (put H1 r (.lst l.reverse))
theorem rps_rev {K : PySem.W.Frag} {H : Hp} : ∀ {l : List PV} {us : List V}, RPs K H l us → RPs K H l.reverse us.reverse
  | [], _, h => by simp only [RPs] at h; subst h; simp [RPs]
  | x :: l, _, h => by
    simp only [RPs] at h
    obtain ⟨u, r, rfl, a, b⟩ := h
    rw [List.reverse_cons, List.reverse_cons]
    exact RPs.append K (rps_rev b) (RPs.cons K a (RPs.nil K))
theorem qe_rev (hc : X.calm = true) (hg : Gl X "list") (hm : X.mg "list" = none) (hg2 : Gl X "reversed") (hm2 : X.mg "reversed" = none) (b1 : bootBuiltins "list" = some (.type "list")) (b2 : bootBuiltins "reversed" = some (.type "reversed")) (ha : PE' X B a ta)
    (he : starEach [.Call (.Name "reversed" p2) [a] [] pos2] X.env = [(false, eval (.Call (.Name "reversed" p2) [a] [] pos2) X.env)] := by rfl) (he2 : starEach [a] X.env = [(false, eval a X.env)] := by rfl) (hpl : (backTo pos (starEach [] X.env)).any (·.1) = false := by rfl) (hpl2 : (backTo pos2 (starEach [] X.env)).any (·.1) = false := by rfl) :
    PE' X B (.Call (.Name "list" p) [.Call (.Name "reversed" p2) [a] [] pos2] [] pos) (uRev ta) :=
  pe_imp (pe_rev hc hg hm hg2 hm2 b1 b2 ha he he2 hpl hpl2) fun σ H Q h => by
    obtain ⟨σ', H', Q', s, h, k⟩ := h
    refine ⟨σ', H', _, s, h, fun x' H1' x H1 h1 rx s1 e1 => ?_⟩
    cases x' with
    | ref b =>
      obtain ⟨l, eb, q⟩ := h1
      simp only [RP] at rx
      subst rx
      obtain ⟨us, e, r⟩ := s1.hp _ _ eb
      exact ⟨b, us, rfl, .inl (.inl e), fun r' hr => k _ _ _ _ (q r' (s1.hp.free hr)) (by simp [RP]) (s1.new hr (newL hr (rps_rev r))) (e1.trans (Ev.new hr))⟩
    | _ => exact h1.elim
end U


set_option linter.all false
set_option maxRecDepth 100000
set_option maxHeartbeats 4000000 -- own
namespace L2
open PySem PySem.Spec PyProof.Rows
variable {X : Cx} {o e : Expr} {es : List Expr} {to : TE} {t : TA} {name : Str} {apos cpos : Pos} {id : String} {r : V → List V → Hp → VK → Prop} {P : Program} {w : World}
def tBMN (P : Program) (w : World) (r : V → List V → Hp → VK → Prop) (to : TE) (t : TA) : TE := fun σ H Q => to σ H fun x H1 => (∃ d ks as, x = .ref d ∧ H1 d = some (.ext (NDic P w d ks as))) ∧ t σ H1 fun xs H2 => r x xs H2 Q
theorem pe_bmN (slot : Slot "dict" name id) (hty : typeOf (.builtin id) = pure (.type "method_descriptor")) (hm : MtM X id r) (ho : PE X o to) (ha : PA X (e :: es) t)
    (hbase : attributeBase o name X.env (eval o X.env) = eval o X.env := by rfl)
    (hfew : ((backTo cpos (starEach (e :: es) X.env)).all (fun x => !x.1) && (backToKw cpos (keywordEach [] X.env)).all (fun x => x.1.isSome)
      && decide ((e :: es).length + ([] : List Keyword).length + (if ([] : List Keyword).isEmpty then 0 else 1) < 30)) = true := by rfl)
    (hline : (apos.endLine == cpos.line) = true := by rfl) (hs : starEach (e :: es) X.env = (false, eval e X.env) :: starEach es X.env := by rfl) (hplain : (backTo cpos (starEach es X.env)).any (·.1) = false := by rfl) :
    PE X (.Call (.Attribute o name apos) (e :: es) [] cpos) (tBMN P w r to t) := by
  intro pins s σ H Q I h
  refine wpAny_Call_method_late hbase hfew hline rfl (thn (ho pins s σ H _ I h) fun v s1 ⟨x, H1, I1, r1, ty, q1⟩ => ?_)
  obtain ⟨d, ks, as, rfl, hd⟩ := ty
  cases r1
  obtain ⟨hN, _, _⟩ := (show ObjOk X.prog X.w H1 s1.heap d (.ext (NDic P w d ks as)) from I1.hok d _ hd)
  obtain ⟨_, ob, _, _, _, g, ex, _⟩ := hN
  refine ⟨"dict", id, PySem.F.plainAttrs_dict, slot, hty, ⟨ob, g, ex.1⟩, fun a e2 => ?_, ?_⟩
  · cases e2
    exact ⟨ob, g, ex.2.1⟩
  · have hA := ha cpos pins s1 σ H1 _ I1 q1
    rw [hs] at hA ⊢
    refine Calls.callWith_builtin (by show (false || (backTo cpos (starEach es X.env)).any (·.1)) = false; rw [hplain] <;> rfl) (Calls.evalArgs_plain ?_)
    exact thn hA fun us s2 ⟨vs, H2, I2, r2, q2⟩ => hm pins s2 σ H2 (.ref d) vs (.ref d) us Q I2 rfl r2 q2
end L2
namespace U
open PySem PySem.Spec PyProof.Rows L2
variable {B : Bs} {X : Cx} {o e : Expr} {es : List Expr} {to : TE'} {t : TA'} {name : Str} {pos apos cpos : Pos}
theorem nd_ints {K : PySem.W.Frag} {H : Hp} : ∀ {ns : List Int} {us : List V}, RPs K H (ns.map PV.int) us → us = ns.map V.int
  | [], _, h => by simpa [RPs] using h
  | n :: ns, _, h => by
    simp only [List.map_cons, RPs, RP] at h
    obtain ⟨u, r, rfl, rfl, h2⟩ := h
    rw [nd_ints h2]; rfl
theorem rp_node {K : PySem.W.Frag} {H : Hp} {k : NK.Nd} {v : V} (h : RP K H (ndV k) v) : ∃ a, v = .ref a ∧ NodeIn K H k a := by
  simp only [ndV, RP, RPs] at h
  obtain ⟨t, ws, rfl, ht, h⟩ := h
  obtain ⟨_, _, rfl, rfl, _, _, rfl, ⟨b, us, rfl, hb, r1⟩, _, _, rfl, ⟨c, vs, rfl, hc, r2⟩, rfl⟩ := h
  rw [nd_ints r1] at hb
  rw [nd_ints r2] at hc
  exact ⟨t, rfl, b, c, ht, hb, hc⟩
theorem rps_nodes {K : PySem.W.Frag} {H : Hp} : ∀ {ks : List NK.Nd} {as : List Addr}, RPs K H (ks.map ndV) (as.map V.ref) → NodesIn K H ks as
  | [], [], _ => .nil
  | [], a :: as, h => by simp [RPs] at h
  | k :: ks, [], h => by
    simp only [List.map_cons, List.map_nil, RPs] at h
    obtain ⟨u, r, e, _⟩ := h
    cases e
  | k :: ks, a :: as, h => by
    simp only [List.map_cons, RPs] at h
    obtain ⟨u, r, e, h1, h2⟩ := h
    cases e
    obtain ⟨a', e, n⟩ := rp_node h1
    cases e
    exact .cons n (rps_nodes h2)
def uDNewN (P : Program) (w : World) : TE' := fun _ H Q => ∀ p, H p = none → Q (.ref p) (put H p (.dN P w []))
theorem qe_dnewN : PE' X B (.Dict [] [] pos) (uDNewN X.prog X.w) := pe_imp pe_dnewN fun σ H Q ⟨σ', H', Q', s, h, k⟩ => by
  intro p hp
  have new : OAt X.K (upd H p (.ext (NDic X.prog X.w p [] []))) p (.dN X.prog X.w []) := ⟨[], upd_same, by simp [RPs]⟩
  exact k _ _ _ _ (h p (s.hp.free hp)) (by simp [RP]) (s.new hp new) (Ev.new hp)
def uLenN (P : Program) (w : World) : List PV → PHp → VK' → Prop := arg1 fun x H Q => match x with
  | .ref a => ∃ ks, H a = some (.dN P w ks) ∧ ks.length < 1000 ∧ Q (.int (ks.length : Nat)) H
  | _ => False
theorem w_ln {P : Program} {w : World} {a : Addr} {H : PHp} {Q : VK'} : uLenN P w [.ref a] H Q = ∃ ks, H a = some (.dN P w ks) ∧ ks.length < 1000 ∧ Q (.int (ks.length : Nat)) H := rfl
theorem vc_lenN {K : PySem.W.Frag} {P : Program} {w : World} : VC K B (uLenN P w) (fun xs H Q => ∃ d ks as, xs = [.ref d] ∧ H d = some (.ext (NDic P w d ks as)) ∧ ks.length < 1000 ∧ Q (.int (ks.length : Nat)) H) := by
  intro σ' σ H' H xs' xs Q' Q s r h k
  obtain ⟨x', x, rfl, rfl, rx, h⟩ := arg1.ex h r
  cases x' with
  | ref a =>
    obtain ⟨ks, ea, hl, q⟩ := h
    simp only [RP] at rx
    subst rx
    obtain ⟨as, e, _⟩ := s.hp _ _ ea
    exact ⟨a, ks, as, rfl, e, hl, k _ _ _ _ q (by simp [RP]) s (Ev.refl _ _)⟩
  | _ => exact h.elim
def uListN (P : Program) (w : World) : List PV → PHp → VK' → Prop := arg1 fun x H Q => match x with
  | .ref a => ∃ ks, H a = some (.dN P w ks) ∧ ks.length < 1000 ∧ ∀ r, H r = none → Q (.ref r) (put H r (.lst (ks.map ndV)))
  | _ => False
theorem w_lN {P : Program} {w : World} {a : Addr} {H : PHp} {Q : VK'} : uListN P w [.ref a] H Q = ∃ ks, H a = some (.dN P w ks) ∧ ks.length < 1000 ∧ ∀ r, H r = none → Q (.ref r) (put H r (.lst (ks.map ndV))) := rfl
theorem vc_listN {K : PySem.W.Frag} {P : Program} {w : World} : VC K B (uListN P w) (fun xs H Q => ∃ d ks as, xs = [.ref d] ∧ H d = some (.ext (NDic P w d ks as)) ∧ ks.length < 1000 ∧ ∀ r, H r = none → Q (.ref r) (upd H r (.lst (as.map V.ref)))) := by
  intro σ' σ H' H xs' xs Q' Q s r h k
  obtain ⟨x', x, rfl, rfl, rx, h⟩ := arg1.ex h r
  cases x' with
  | ref a =>
    obtain ⟨ks, ea, hl, q⟩ := h
    simp only [RP] at rx
    subst rx
    obtain ⟨as, e, rr⟩ := s.hp _ _ ea
    exact ⟨a, ks, as, rfl, e, hl, fun r hr => k _ _ _ _ (q r (s.hp.free hr)) (by simp [RP]) (s.new hr (newL hr rr)) (Ev.new hr)⟩
  | _ => exact h.elim
def uSetD (P : Program) (w : World) : PV → List PV → PHp → VK' → Prop := fun x vs H Q => match x, vs with
  | .ref d, [y, .int n] => ∃ ks k, H d = some (.dN P w ks) ∧ y = ndV k ∧ n = (ks.length : Nat) ∧ ks.length < 1000 ∧ (∀ i : Nat, ks[i]? = some k → Q (.int i) H) ∧ (k ∉ ks → Q (.int (ks.length : Nat)) (put H d (.dN P w (ks ++ [k]))))
  | _, _ => False
theorem w_sD {P : Program} {w : World} {d : Addr} {y : PV} {n : Int} {H : PHp} {Q : VK'} : uSetD P w (.ref d) [y, .int n] H Q = ∃ ks k, H d = some (.dN P w ks) ∧ y = ndV k ∧ n = (ks.length : Nat) ∧ ks.length < 1000 ∧ (∀ i : Nat, ks[i]? = some k → Q (.int i) H) ∧ (k ∉ ks → Q (.int (ks.length : Nat)) (put H d (.dN P w (ks ++ [k])))) := rfl
theorem vm_setD {K : PySem.W.Frag} {P : Program} {w : World} : VM K B (uSetD P w) (rSetD P w K) := by
  intro σ' σ H' H x' xs' x xs Q' Q s rx r h k
  unfold uSetD at h
  split at h
  · rename_i d y n
    obtain ⟨ks, kk, ea, rfl, rfl, hl, q1, q2⟩ := h
    simp only [RP] at rx
    subst rx
    obtain ⟨as, e, rr⟩ := s.hp _ _ ea
    simp only [RPs] at r
    obtain ⟨u, r1, rfl, ra, u2, r2, rfl, rb, rfl⟩ := r
    obtain ⟨a, rfl, hn⟩ := rp_node ra
    simp only [RP] at rb
    subst rb
    refine ⟨d, ks, as, kk, a, rfl, rfl, e, rps_nodes rr, hn, hl, fun i hi => k _ _ _ _ (q1 i hi) (by simp [RP]) s (Ev.refl _ _), fun hk => ?_⟩
    have new : OAt K (upd H d (.ext (NDic P w d (ks ++ [kk]) (as ++ [a])))) d (.dN P w (ks ++ [kk])) := by
      refine ⟨as ++ [a], upd_same, ?_⟩
      rw [List.map_append, List.map_append]
      refine RPs.kp K (s.hp.kpw ea) (RPs.append _ rr ?_)
      simp only [List.map_cons, List.map_nil, RPs]
      exact ⟨_, _, rfl, ra, rfl⟩
    exact k _ _ _ _ (q2 hk) (by simp [RP]) (s.wr ea new) (Ev.wr ea)
  · exact h.elim
def uBMN (P : Program) (w : World) (r : PV → List PV → PHp → VK' → Prop) (to : TE') (t : TA') : TE' := fun σ H Q => to σ H fun x H1 => (match x with | .ref a => ∃ ks, H1 a = some (.dN P w ks) | _ => False) ∧ t σ H1 fun xs H2 => r x xs H2 Q
theorem qe_setD (hu : X.A.units + 64 < cLine) (ho : PE' X B o to) (ha : PA' X B (e :: es) t)
    (hbase : attributeBase o "setdefault" X.env (eval o X.env) = eval o X.env := by rfl)
    (hfew : ((backTo cpos (starEach (e :: es) X.env)).all (fun x => !x.1) && (backToKw cpos (keywordEach [] X.env)).all (fun x => x.1.isSome)
      && decide ((e :: es).length + ([] : List Keyword).length + (if ([] : List Keyword).isEmpty then 0 else 1) < 30)) = true := by rfl)
    (hline : (apos.endLine == cpos.line) = true := by rfl) (hs : starEach (e :: es) X.env = (false, eval e X.env) :: starEach es X.env := by rfl) (hplain : (backTo cpos (starEach es X.env)).any (·.1) = false := by rfl) :
    PE' X B (.Call (.Attribute o "setdefault" apos) (e :: es) [] cpos) (uBMN X.prog X.w (uSetD X.prog X.w) to t) := pe_imp (pe_bmN (P := X.prog) (w := X.w) PySem.F.slot_dict_setdefault PySem.F.type_dict_setdefault (mt_setD hu) ho ha hbase hfew hline hs hplain) fun σ H Q h => by
  obtain ⟨σ', H', Q', s, h, k⟩ := h
  refine ⟨σ', H', _, s, h, fun x' H1' x H1 h1 rx s1 e1 => ?_⟩
  obtain ⟨ty, h1⟩ := h1
  constructor
  · cases x' with
    | ref a =>
      obtain ⟨ks, e⟩ := ty
      obtain ⟨as, q, _⟩ := s1.hp _ _ e
      simp only [RP] at rx
      subst rx
      exact ⟨a, ks, as, rfl, q⟩
    | _ => exact ty.elim
  · refine ⟨σ', H1', _, s1, h1, fun xs' H2' xs H2 h2 r2 s2 e2 => ?_⟩
    exact vm_setD σ' σ H2' H2 x' xs' x xs Q' Q s2 (RP.kp X.K (e2.kp s1.hp) rx) r2 h2 fun v' H3' v H3 q rv s3 e3 => k v' H3' v H3 q rv s3 (e1.trans (e2.trans e3))
end U


set_option linter.all false
namespace FM
open PySem
abbrev Nd := NK.Nd
inductive F where
  | one
  | seen (ns : List Int)
  | sum (ns : List Int) (f : F)
  | times (a b : F)
  | over (a b : F)
def sz : F → Nat
  | .one => 1
  | .seen _ => 1
  | .sum _ f => sz f + 1
  | .times a b => sz a + sz b + 1
  | .over a b => sz a + sz b + 1
def Nm (ns : List Int) : Prop := ns.Pairwise (· < ·) ∧ ∀ x ∈ ns, 0 ≤ x ∧ x < 6
def Ok : F → Prop
  | .one => True
  | .seen ns => Nm ns
  | .sum ns f => Nm ns ∧ Ok f
  | .times a b => Ok a ∧ Ok b
  | .over a b => Ok a ∧ Ok b
def dp : F → Nat
  | .one => 0
  | .seen _ => 0
  | .sum _ f => dp f + 1
  | .times a b => max (dp a) (dp b) + 1
  | .over a b => max (dp a) (dp b) + 1
def Op : F → Int → Prop
  | .one, _ => False
  | .seen ns, x => x ∈ ns
  | .sum ns f, x => Op f x ∧ x ∉ ns
  | .times a b, x => Op a x ∨ Op b x
  | .over a b, x => Op a x ∨ Op b x
inductive Den (ks : List Nd) : Nat → F → Prop where
  | one {i : Nat} (h : ks[i]? = some (("one" : Str), ([] : List Int), ([] : List Int))) : Den ks i .one
  | seen {i : Nat} {ns : List Int} (h : ks[i]? = some (("seen" : Str), ns, ([] : List Int))) : Den ks i (.seen ns)
  | sum {i j : Nat} {ns : List Int} {f : F} (h : ks[i]? = some (("sum" : Str), ns, [(j : Int)])) (hj : j < i) (d : Den ks j f) : Den ks i (.sum ns f)
  | times {i j k : Nat} {a b : F} (h : ks[i]? = some (("times" : Str), ([] : List Int), [(j : Int), (k : Int)])) (hj : j < i) (hk : k < i) (d : Den ks j a) (e : Den ks k b) : Den ks i (.times a b)
  | over {i j k : Nat} {a b : F} (h : ks[i]? = some (("over" : Str), ([] : List Int), [(j : Int), (k : Int)])) (hj : j < i) (hk : k < i) (d : Den ks j a) (e : Den ks k b) : Den ks i (.over a b)
theorem get_app {ks : List Nd} {n m : Nd} {i : Nat} (h : ks[i]? = some m) : (ks ++ [n])[i]? = some m := by
  rw [List.getElem?_append_left (List.getElem?_eq_some_iff.mp h).1]; exact h
theorem Den.app {ks : List Nd} {n : Nd} {i : Nat} {f : F} (d : Den ks i f) : Den (ks ++ [n]) i f := by
  induction d with
  | one h => exact .one (get_app h)
  | seen h => exact .seen (get_app h)
  | sum h hj _ ih => exact .sum (get_app h) hj ih
  | times h hj hk _ _ ih1 ih2 => exact .times (get_app h) hj hk ih1 ih2
  | over h hj hk _ _ ih1 ih2 => exact .over (get_app h) hj hk ih1 ih2
theorem Den.uniq {ks : List Nd} {i : Nat} {f : F} (d : Den ks i f) : ∀ {g : F}, Den ks i g → f = g := by
  induction d with
  | one h =>
    intro g e
    cases e with
    | one _ => rfl
    | seen h2 => rw [h] at h2; exact absurd (congrArg (fun z => z.map (·.1)) h2) (by simp only [Option.map_some]; decide)
    | sum h2 => rw [h] at h2; exact absurd (congrArg (fun z => z.map (·.1)) h2) (by simp only [Option.map_some]; decide)
    | times h2 => rw [h] at h2; exact absurd (congrArg (fun z => z.map (·.1)) h2) (by simp only [Option.map_some]; decide)
    | over h2 => rw [h] at h2; exact absurd (congrArg (fun z => z.map (·.1)) h2) (by simp only [Option.map_some]; decide)
  | seen h =>
    intro g e
    cases e with
    | one h2 => rw [h] at h2; exact absurd (congrArg (fun z => z.map (·.1)) h2) (by simp only [Option.map_some]; decide)
    | seen h2 => rw [h] at h2; cases h2; rfl
    | sum h2 => rw [h] at h2; exact absurd (congrArg (fun z => z.map (·.1)) h2) (by simp only [Option.map_some]; decide)
    | times h2 => rw [h] at h2; exact absurd (congrArg (fun z => z.map (·.1)) h2) (by simp only [Option.map_some]; decide)
    | over h2 => rw [h] at h2; exact absurd (congrArg (fun z => z.map (·.1)) h2) (by simp only [Option.map_some]; decide)
  | sum h hj _ ih =>
    intro g e
    cases e with
    | one h2 => rw [h] at h2; exact absurd (congrArg (fun z => z.map (·.1)) h2) (by simp only [Option.map_some]; decide)
    | seen h2 => rw [h] at h2; exact absurd (congrArg (fun z => z.map (·.1)) h2) (by simp only [Option.map_some]; decide)
    | sum h2 hj2 d2 =>
      rw [h] at h2
      have e1 := congrArg (fun z => z.map fun (y : Nd) => y.2.1) h2
      have e2 := congrArg (fun z => z.map fun (y : Nd) => y.2.2) h2
      simp only [Option.map_some, Option.some.injEq, List.cons.injEq, and_true] at e1 e2
      have e3 := Int.ofNat.inj e2
      subst e1
      subst e3
      rw [ih d2]
    | times h2 => rw [h] at h2; exact absurd (congrArg (fun z => z.map (·.1)) h2) (by simp only [Option.map_some]; decide)
    | over h2 => rw [h] at h2; exact absurd (congrArg (fun z => z.map (·.1)) h2) (by simp only [Option.map_some]; decide)
  | times h hj hk _ _ ih1 ih2 =>
    intro g e
    cases e with
    | one h2 => rw [h] at h2; exact absurd (congrArg (fun z => z.map (·.1)) h2) (by simp only [Option.map_some]; decide)
    | seen h2 => rw [h] at h2; exact absurd (congrArg (fun z => z.map (·.1)) h2) (by simp only [Option.map_some]; decide)
    | sum h2 => rw [h] at h2; exact absurd (congrArg (fun z => z.map (·.1)) h2) (by simp only [Option.map_some]; decide)
    | times h2 _ _ d2 d3 =>
      rw [h] at h2
      have e2 := congrArg (fun z => z.map fun (y : Nd) => y.2.2) h2
      simp only [Option.map_some, Option.some.injEq, List.cons.injEq, and_true] at e2
      have e3 := Int.ofNat.inj e2.1
      have e4 := Int.ofNat.inj e2.2
      subst e3
      subst e4
      rw [ih1 d2, ih2 d3]
    | over h2 => rw [h] at h2; exact absurd (congrArg (fun z => z.map (·.1)) h2) (by simp only [Option.map_some]; decide)
  | over h hj hk _ _ ih1 ih2 =>
    intro g e
    cases e with
    | one h2 => rw [h] at h2; exact absurd (congrArg (fun z => z.map (·.1)) h2) (by simp only [Option.map_some]; decide)
    | seen h2 => rw [h] at h2; exact absurd (congrArg (fun z => z.map (·.1)) h2) (by simp only [Option.map_some]; decide)
    | sum h2 => rw [h] at h2; exact absurd (congrArg (fun z => z.map (·.1)) h2) (by simp only [Option.map_some]; decide)
    | times h2 => rw [h] at h2; exact absurd (congrArg (fun z => z.map (·.1)) h2) (by simp only [Option.map_some]; decide)
    | over h2 _ _ d2 d3 =>
      rw [h] at h2
      have e2 := congrArg (fun z => z.map fun (y : Nd) => y.2.2) h2
      simp only [Option.map_some, Option.some.injEq, List.cons.injEq, and_true] at e2
      have e3 := Int.ofNat.inj e2.1
      have e4 := Int.ofNat.inj e2.2
      subst e3
      subst e4
      rw [ih1 d2, ih2 d3]
theorem Den.lt {ks : List Nd} {i : Nat} {f : F} (d : Den ks i f) : i < ks.length := by
  cases d with
  | one h => exact (List.getElem?_eq_some_iff.mp h).1
  | seen h => exact (List.getElem?_eq_some_iff.mp h).1
  | sum h => exact (List.getElem?_eq_some_iff.mp h).1
  | times h => exact (List.getElem?_eq_some_iff.mp h).1
  | over h => exact (List.getElem?_eq_some_iff.mp h).1
inductive Kid (ks : List Nd) : Nd → F → Prop where
  | one : Kid ks (("one" : Str), ([] : List Int), ([] : List Int)) .one
  | seen {ns : List Int} : Kid ks (("seen" : Str), ns, ([] : List Int)) (.seen ns)
  | sum {j : Nat} {ns : List Int} {f : F} (d : Den ks j f) : Kid ks (("sum" : Str), ns, [(j : Int)]) (.sum ns f)
  | times {j k : Nat} {a b : F} (d : Den ks j a) (e : Den ks k b) : Kid ks (("times" : Str), ([] : List Int), [(j : Int), (k : Int)]) (.times a b)
  | over {j k : Nat} {a b : F} (d : Den ks j a) (e : Den ks k b) : Kid ks (("over" : Str), ([] : List Int), [(j : Int), (k : Int)]) (.over a b)
theorem Kid.new {ks : List Nd} {n : Nd} {f : F} (k : Kid ks n f) : Den (ks ++ [n]) ks.length f := by
  have h : (ks ++ [n])[ks.length]? = some n := by simp
  cases k with
  | one => exact .one h
  | seen => exact .seen h
  | sum d => exact .sum h d.lt d.app
  | times d e => exact .times h d.lt e.lt d.app e.app
  | over d e => exact .over h d.lt e.lt d.app e.app
theorem Kid.old {ks : List Nd} {n : Nd} {f g : F} {i : Nat} (k : Kid ks n f) (h : ks[i]? = some n) (d : Den ks i g) : g = f := by
  cases k with
  | one =>
    cases d with
    | one _ => rfl
    | seen h2 => rw [h] at h2; exact absurd (congrArg (fun z => z.map (·.1)) h2) (by simp only [Option.map_some]; decide)
    | sum h2 => rw [h] at h2; exact absurd (congrArg (fun z => z.map (·.1)) h2) (by simp only [Option.map_some]; decide)
    | times h2 => rw [h] at h2; exact absurd (congrArg (fun z => z.map (·.1)) h2) (by simp only [Option.map_some]; decide)
    | over h2 => rw [h] at h2; exact absurd (congrArg (fun z => z.map (·.1)) h2) (by simp only [Option.map_some]; decide)
  | seen =>
    cases d with
    | one h2 => rw [h] at h2; exact absurd (congrArg (fun z => z.map (·.1)) h2) (by simp only [Option.map_some]; decide)
    | seen h2 =>
      rw [h] at h2
      have e1 := congrArg (fun z => z.map fun (y : Nd) => y.2.1) h2
      simp only [Option.map_some, Option.some.injEq] at e1
      rw [e1]
    | sum h2 => rw [h] at h2; exact absurd (congrArg (fun z => z.map (·.1)) h2) (by simp only [Option.map_some]; decide)
    | times h2 => rw [h] at h2; exact absurd (congrArg (fun z => z.map (·.1)) h2) (by simp only [Option.map_some]; decide)
    | over h2 => rw [h] at h2; exact absurd (congrArg (fun z => z.map (·.1)) h2) (by simp only [Option.map_some]; decide)
  | sum d1 =>
    cases d with
    | one h2 => rw [h] at h2; exact absurd (congrArg (fun z => z.map (·.1)) h2) (by simp only [Option.map_some]; decide)
    | seen h2 => rw [h] at h2; exact absurd (congrArg (fun z => z.map (·.1)) h2) (by simp only [Option.map_some]; decide)
    | sum h2 _ d2 =>
      rw [h] at h2
      have e1 := congrArg (fun z => z.map fun (y : Nd) => y.2.1) h2
      have e2 := congrArg (fun z => z.map fun (y : Nd) => y.2.2) h2
      simp only [Option.map_some, Option.some.injEq, List.cons.injEq, and_true] at e1 e2
      have e3 := Int.ofNat.inj e2
      subst e1
      subst e3
      rw [d1.uniq d2]
    | times h2 => rw [h] at h2; exact absurd (congrArg (fun z => z.map (·.1)) h2) (by simp only [Option.map_some]; decide)
    | over h2 => rw [h] at h2; exact absurd (congrArg (fun z => z.map (·.1)) h2) (by simp only [Option.map_some]; decide)
  | times d1 e1 =>
    cases d with
    | one h2 => rw [h] at h2; exact absurd (congrArg (fun z => z.map (·.1)) h2) (by simp only [Option.map_some]; decide)
    | seen h2 => rw [h] at h2; exact absurd (congrArg (fun z => z.map (·.1)) h2) (by simp only [Option.map_some]; decide)
    | sum h2 => rw [h] at h2; exact absurd (congrArg (fun z => z.map (·.1)) h2) (by simp only [Option.map_some]; decide)
    | times h2 _ _ d2 d3 =>
      rw [h] at h2
      have e2 := congrArg (fun z => z.map fun (y : Nd) => y.2.2) h2
      simp only [Option.map_some, Option.some.injEq, List.cons.injEq, and_true] at e2
      have e3 := Int.ofNat.inj e2.1
      have e4 := Int.ofNat.inj e2.2
      subst e3
      subst e4
      rw [d1.uniq d2, e1.uniq d3]
    | over h2 => rw [h] at h2; exact absurd (congrArg (fun z => z.map (·.1)) h2) (by simp only [Option.map_some]; decide)
  | over d1 e1 =>
    cases d with
    | one h2 => rw [h] at h2; exact absurd (congrArg (fun z => z.map (·.1)) h2) (by simp only [Option.map_some]; decide)
    | seen h2 => rw [h] at h2; exact absurd (congrArg (fun z => z.map (·.1)) h2) (by simp only [Option.map_some]; decide)
    | sum h2 => rw [h] at h2; exact absurd (congrArg (fun z => z.map (·.1)) h2) (by simp only [Option.map_some]; decide)
    | times h2 => rw [h] at h2; exact absurd (congrArg (fun z => z.map (·.1)) h2) (by simp only [Option.map_some]; decide)
    | over h2 _ _ d2 d3 =>
      rw [h] at h2
      have e2 := congrArg (fun z => z.map fun (y : Nd) => y.2.2) h2
      simp only [Option.map_some, Option.some.injEq, List.cons.injEq, and_true] at e2
      have e3 := Int.ofNat.inj e2.1
      have e4 := Int.ofNat.inj e2.2
      subst e3
      subst e4
      rw [d1.uniq d2, e1.uniq d3]
def All (N : Nat) (ks : List Nd) : Prop := ∀ i, i < ks.length → ∃ g, Den ks i g ∧ sz g < N ∧ Ok g
theorem All.up {N M : Nat} {ks : List Nd} (h : All N ks) (l : N ≤ M) : All M ks := fun i hi => by
  obtain ⟨g, d, z, o⟩ := h i hi
  exact ⟨g, d, Nat.lt_of_lt_of_le z l, o⟩
structure Laid (f : F) (ks : List Nd) (i : Nat) (ks' : List Nd) : Prop where
  den : Den ks' i f
  keep : ∀ j g, Den ks j g → Den ks' j g
  all : ∀ N, All N ks → sz f < N → All N ks'
  len : ks'.length ≤ ks.length + sz f
  last : All (sz f) ks → i + 1 = ks'.length
theorem Laid.there {f : F} {n : Nd} {ks ks2 : List Nd} {i N : Nat} (k : Kid ks2 n f) (keep : ∀ j g, Den ks j g → Den ks2 j g) (all : ∀ N, All N ks → sz f ≤ N → All N ks2) (len : ks2.length + 1 ≤ ks.length + sz f) (ok : All N ks) (h : ks2[i]? = some n) : Laid f ks i ks2 := by
  have hi : i < ks2.length := (List.getElem?_eq_some_iff.mp h).1
  obtain ⟨g, d, _⟩ := all (N + sz f) (ok.up (by omega)) (by omega) i hi
  have e := k.old h d
  subst e
  refine ⟨d, keep, fun M a z => all M a (by omega), by omega, fun a => ?_⟩
  obtain ⟨g2, d2, z2, _⟩ := all _ a (Nat.le_refl _) i hi
  rw [d.uniq d2] at z2
  omega
theorem Laid.fresh {f : F} {n : Nd} {ks ks2 : List Nd} (ok : Ok f) (k : Kid ks2 n f) (keep : ∀ j g, Den ks j g → Den ks2 j g) (all : ∀ N, All N ks → sz f ≤ N → All N ks2) (len : ks2.length + 1 ≤ ks.length + sz f) : Laid f ks ks2.length (ks2 ++ [n]) := by
  refine ⟨k.new, fun j g d => (keep j g d).app, fun M a z i hi => ?_, by rw [List.length_append, List.length_singleton]; omega, fun _ => by rw [List.length_append, List.length_singleton]⟩
  rw [List.length_append, List.length_singleton] at hi
  by_cases e : i < ks2.length
  · obtain ⟨g, d, z2⟩ := all M a (by omega) i e
    exact ⟨g, d.app, z2⟩
  · have : i = ks2.length := by omega
    subst this
    exact ⟨f, k.new, z, ok⟩
def Opens (ks : List Nd) (os : List (List Int)) : Prop := ∀ i ms, os[i]? = some ms → ∃ g, Den ks i g ∧ ms.Pairwise (· < ·) ∧ ∀ x, x ∈ ms ↔ Op g x
theorem Opens.step {ks : List Nd} {os : List (List Int)} {ms : List Int} {g : F} (h : Opens ks os) (d : Den ks os.length g) (up : ms.Pairwise (· < ·)) (iff : ∀ x, x ∈ ms ↔ Op g x) : Opens ks (os ++ [ms]) := by
  intro i ns hi
  rw [List.getElem?_append] at hi
  by_cases e : i < os.length
  · rw [if_pos e] at hi; exact h i ns hi
  · rw [if_neg e] at hi
    cases q : i - os.length with
    | zero =>
      rw [q] at hi
      have e1 : i = os.length := by omega
      have e2 : ms = ns := by simpa using hi
      subst e1
      subst e2
      exact ⟨g, d, up, iff⟩
    | succ j => rw [q] at hi; simp at hi
theorem Opens.at {ks : List Nd} {os : List (List Int)} {ms : List Int} {g : F} {i : Nat} (h : Opens ks os) (hi : os[i]? = some ms) (d : Den ks i g) : ms.Pairwise (· < ·) ∧ ∀ x, x ∈ ms ↔ Op g x := by
  obtain ⟨g', d', up, iff⟩ := h i ms hi
  rw [d'.uniq d] at iff
  exact ⟨up, iff⟩
end FM


namespace My
theorem nodup_le : ∀ (m : Nat) (f : List Int), f.Nodup → (∀ x ∈ f, 0 ≤ x ∧ x < (m : Int)) → f.length ≤ m
  | 0, f, _, h => by
    cases f with
    | nil => exact Nat.le_refl _
    | cons x f => have := h x List.mem_cons_self; omega
  | m + 1, f, hn, h => by
    have q := nodup_le m (f.erase (m : Int)) (hn.erase _) (fun x hx => by
      have hx' := List.mem_of_mem_erase hx
      have := h x hx'
      have ne : x ≠ (m : Int) := (List.Nodup.mem_erase_iff hn).mp hx |>.1
      omega)
    by_cases hm : (m : Int) ∈ f
    · rw [List.length_erase_of_mem hm] at q; omega
    · rw [List.erase_of_not_mem hm] at q; omega
theorem rising_one : ∀ {xs ys : List Int}, xs.Pairwise (· < ·) → ys.Pairwise (· < ·) → (∀ x, x ∈ xs ↔ x ∈ ys) → xs = ys
  | [], [], _, _, _ => rfl
  | [], y :: ys, _, _, h => absurd ((h y).mpr List.mem_cons_self) (by simp)
  | x :: xs, [], _, _, h => absurd ((h x).mp List.mem_cons_self) (by simp)
  | x :: xs, y :: ys, hx, hy, h => by
    rw [List.pairwise_cons] at hx hy
    have e : x = y := by
      have h1 := (h x).mp List.mem_cons_self
      have h2 := (h y).mpr List.mem_cons_self
      rcases List.mem_cons.mp h1 with h1 | h1
      · exact h1
      · rcases List.mem_cons.mp h2 with h2 | h2
        · exact h2.symm
        · have := hx.1 y h2; have := hy.1 x h1; omega
    subst e
    rw [rising_one hx.2 hy.2 fun z => ?_]
    constructor
    · intro hz
      rcases List.mem_cons.mp ((h z).mp (List.mem_cons_of_mem _ hz)) with q | q
      · have := hx.1 z hz; omega
      · exact q
    · intro hz
      rcases List.mem_cons.mp ((h z).mpr (List.mem_cons_of_mem _ hz)) with q | q
      · have := hy.1 z hz; omega
      · exact q
end My


namespace My
def gd (a b : Int) : Int := (Int.gcd a b : Nat)
end My


set_option linter.all false
namespace My
open U
def BN (n : Nat) (i : Int) : Prop := i.natAbs < 2 ^ n
theorem BN.fit {n : Nat} {i : Int} (h : BN n i) (hn : n ≤ 9000) : Fit i := by
  unfold Fit
  unfold BN at h
  rcases Nat.eq_zero_or_pos i.natAbs with h0 | hp
  · rw [h0, Nat.log2_zero]; omega
  · have := (Nat.log2_lt (Nat.ne_of_gt hp)).mpr h
    omega
end My


set_option linter.all false
set_option maxRecDepth 100000
set_option maxHeartbeats 4000000
namespace Lw
open PySem L2 U PyProof.Rows
theorem boot_sorted : bootBuiltins "sorted" = some (.builtin "sorted") := by decide +kernel
theorem boot_set : bootBuiltins "set" = some (.type "set") := by decide +kernel
theorem boot_sum : bootBuiltins "sum" = some (.builtin "sum") := by decide +kernel
theorem boot_min : bootBuiltins "min" = some (.builtin "min") := by decide +kernel
theorem boot_reversed : bootBuiltins "reversed" = some (.type "reversed") := by decide +kernel
theorem atI2_0 {x y : PV} : atI [x, y] 0 = some x := rfl
theorem atI2_1 {x y : PV} : atI [x, y] 1 = some y := rfl
theorem atI1_0 {x : PV} : atI [x] 0 = some x := rfl
theorem boot_bool : bootBuiltins "bool" = some (.type "bool") := by decide +kernel
def top (i : Nat) : Stmt := PySem.Challenge.pw_doingbook_k31_open_names.main.body.getD i (.Pass ⟨0, 0, 0, 0⟩)
abbrev s_names_of : Stmt := top 1
theorem sc_names_of : FnScope ["formula"] ["formula"] (defScope s_names_of) := ⟨rfl, rfl, rfl, by decide +kernel, rfl, by decide +kernel, by decide +kernel⟩
abbrev s_parts_of : Stmt := top 2
theorem sc_parts_of : FnScope ["formula"] ["formula"] (defScope s_parts_of) := ⟨rfl, rfl, rfl, by decide +kernel, rfl, by decide +kernel, by decide +kernel⟩
abbrev s_lay : Stmt := top 3
theorem sc_lay : FnScope ["formula", "places", "inner", "part", "node"] ["formula", "places"] (defScope s_lay) := ⟨rfl, rfl, rfl, by decide +kernel, rfl, by decide +kernel, by decide +kernel⟩
abbrev s_laid_out : Stmt := top 4
theorem sc_laid_out : FnScope ["formula", "places"] ["formula"] (defScope s_laid_out) := ⟨rfl, rfl, rfl, by decide +kernel, rfl, by decide +kernel, by decide +kernel⟩
abbrev s_opens_of : Stmt := top 5
theorem sc_opens_of : FnScope ["nodes", "opens", "node", "named", "place", "bound"] ["nodes"] (defScope s_opens_of) := ⟨rfl, rfl, rfl, by decide +kernel, rfl, by decide +kernel, by decide +kernel⟩
abbrev s_open_names : Stmt := top 6
theorem sc_open_names : FnScope ["formula"] ["formula"] (defScope s_open_names) := ⟨rfl, rfl, rfl, by decide +kernel, rfl, by decide +kernel, by decide +kernel⟩
abbrev s_law_cell_at : Stmt := top 8
theorem sc_law_cell_at : FnScope ["_law_script", "_law_k"] ["_law_script", "_law_k"] (defScope s_law_cell_at) := ⟨rfl, rfl, rfl, by decide +kernel, rfl, by decide +kernel, by decide +kernel⟩
abbrev s_law_whole : Stmt := top 9
theorem sc_law_whole : FnScope ["_law_found"] ["_law_found"] (defScope s_law_whole) := ⟨rfl, rfl, rfl, by decide +kernel, rfl, by decide +kernel, by decide +kernel⟩
abbrev s_law_digits : Stmt := top 10
theorem sc_law_digits : FnScope ["_law_script", "_law_at", "_law_parts", "_law_unit", "_law_found", "_law_first", "_law_rest", "_law_k"] ["_law_script", "_law_at", "_law_parts"] (defScope s_law_digits) := ⟨rfl, rfl, rfl, by decide +kernel, rfl, by decide +kernel, by decide +kernel⟩
abbrev s_law_names_by : Stmt := top 11
theorem sc_law_names_by : FnScope ["_law_digit", "_law_count"] ["_law_digit", "_law_count"] (defScope s_law_names_by) := ⟨rfl, rfl, rfl, by decide +kernel, rfl, by decide +kernel, by decide +kernel⟩
abbrev s_law_grown : Stmt := top 12
theorem sc_law_grown : FnScope ["_law_purse", "_law_count", "_law_down", "_law_digit", "_law_way", "_law_names", "_law_one"] ["_law_purse", "_law_count", "_law_down"] (defScope s_law_grown) := ⟨rfl, rfl, rfl, by decide +kernel, rfl, by decide +kernel, by decide +kernel⟩
abbrev s_law_open : Stmt := top 13
theorem sc_law_open : FnScope ["_law_formula", "_law_both"] ["_law_formula"] (defScope s_law_open) := ⟨rfl, rfl, rfl, by decide +kernel, rfl, by decide +kernel, by decide +kernel⟩
abbrev s_law_laid : Stmt := top 14
theorem sc_law_laid : FnScope ["_law_formula", "_law_purse", "_law_count", "_law_k", "_law_digit", "_law_names"] ["_law_formula", "_law_purse", "_law_count"] (defScope s_law_laid) := ⟨rfl, rfl, rfl, by decide +kernel, rfl, by decide +kernel, by decide +kernel⟩
abbrev s_law : Stmt := top 15
theorem sc_law : FnScope ["_law_script", "_law_count", "_law_k", "_law_purse", "_law_formula", "_law_found"] ["_law_script"] (defScope s_law) := ⟨rfl, rfl, rfl, by decide +kernel, rfl, by decide +kernel, by decide +kernel⟩
set_option genInjectivity false
structure Ad where
  a_names_of : Addr
  d_names_of : FuncData
  a_parts_of : Addr
  d_parts_of : FuncData
  a_lay : Addr
  d_lay : FuncData
  a_laid_out : Addr
  d_laid_out : FuncData
  a_opens_of : Addr
  d_opens_of : FuncData
  a_open_names : Addr
  d_open_names : FuncData
  a_law_cell_at : Addr
  d_law_cell_at : FuncData
  a_law_whole : Addr
  d_law_whole : FuncData
  a_law_digits : Addr
  d_law_digits : FuncData
  a_law_names_by : Addr
  d_law_names_by : FuncData
  a_law_grown : Addr
  d_law_grown : FuncData
  a_law_open : Addr
  d_law_open : FuncData
  a_law_laid : Addr
  d_law_laid : FuncData
  a_law : Addr
  d_law : FuncData
structure Tx (K : PySem.W.Frag) (mg : Str → Option Value) (t : Ad) : Prop where
  F_names_of : Fun K "names_of" "names_of" s_names_of t.a_names_of t.d_names_of
  B_names_of : Binds K t.d_names_of ["formula"] []
  g_names_of : mg "names_of" = some (.ref t.a_names_of)
  F_parts_of : Fun K "parts_of" "parts_of" s_parts_of t.a_parts_of t.d_parts_of
  B_parts_of : Binds K t.d_parts_of ["formula"] []
  g_parts_of : mg "parts_of" = some (.ref t.a_parts_of)
  F_lay : Fun K "lay" "lay" s_lay t.a_lay t.d_lay
  B_lay : Binds K t.d_lay ["formula", "places"] []
  g_lay : mg "lay" = some (.ref t.a_lay)
  F_laid_out : Fun K "laid_out" "laid_out" s_laid_out t.a_laid_out t.d_laid_out
  B_laid_out : Binds K t.d_laid_out ["formula"] []
  g_laid_out : mg "laid_out" = some (.ref t.a_laid_out)
  F_opens_of : Fun K "opens_of" "opens_of" s_opens_of t.a_opens_of t.d_opens_of
  B_opens_of : Binds K t.d_opens_of ["nodes"] []
  g_opens_of : mg "opens_of" = some (.ref t.a_opens_of)
  F_open_names : Fun K "open_names" "open_names" s_open_names t.a_open_names t.d_open_names
  B_open_names : Binds K t.d_open_names ["formula"] []
  g_open_names : mg "open_names" = some (.ref t.a_open_names)
  F_law_cell_at : Fun K "_law_cell_at" "_law_cell_at" s_law_cell_at t.a_law_cell_at t.d_law_cell_at
  B_law_cell_at : Binds K t.d_law_cell_at ["_law_script", "_law_k"] []
  g_law_cell_at : mg "_law_cell_at" = some (.ref t.a_law_cell_at)
  F_law_whole : Fun K "_law_whole" "_law_whole" s_law_whole t.a_law_whole t.d_law_whole
  B_law_whole : Binds K t.d_law_whole ["_law_found"] []
  g_law_whole : mg "_law_whole" = some (.ref t.a_law_whole)
  F_law_digits : Fun K "_law_digits" "_law_digits" s_law_digits t.a_law_digits t.d_law_digits
  B_law_digits : Binds K t.d_law_digits ["_law_script", "_law_at", "_law_parts"] []
  g_law_digits : mg "_law_digits" = some (.ref t.a_law_digits)
  F_law_names_by : Fun K "_law_names_by" "_law_names_by" s_law_names_by t.a_law_names_by t.d_law_names_by
  B_law_names_by : Binds K t.d_law_names_by ["_law_digit", "_law_count"] []
  g_law_names_by : mg "_law_names_by" = some (.ref t.a_law_names_by)
  F_law_grown : Fun K "_law_grown" "_law_grown" s_law_grown t.a_law_grown t.d_law_grown
  B_law_grown : Binds K t.d_law_grown ["_law_purse", "_law_count", "_law_down"] []
  g_law_grown : mg "_law_grown" = some (.ref t.a_law_grown)
  F_law_open : Fun K "_law_open" "_law_open" s_law_open t.a_law_open t.d_law_open
  B_law_open : Binds K t.d_law_open ["_law_formula"] []
  g_law_open : mg "_law_open" = some (.ref t.a_law_open)
  F_law_laid : Fun K "_law_laid" "_law_laid" s_law_laid t.a_law_laid t.d_law_laid
  B_law_laid : Binds K t.d_law_laid ["_law_formula", "_law_purse", "_law_count"] []
  g_law_laid : mg "_law_laid" = some (.ref t.a_law_laid)
  F_law : Fun K "law" "law" s_law t.a_law t.d_law
  B_law : Binds K t.d_law ["_law_script"] []
  g_law : mg "law" = some (.ref t.a_law)
  b_bool : mg "bool" = none
  b_int : mg "int" = none
  b_isinstance : mg "isinstance" = none
  b_len : mg "len" = none
  b_list : mg "list" = none
  b_min : mg "min" = none
  b_range : mg "range" = none
  b_reversed : mg "reversed" = none
  b_set : mg "set" = none
  b_sorted : mg "sorted" = none
  b_sum : mg "sum" = none
  b_tuple : mg "tuple" = none
section
variable {P : Program} {w : World} {K : PySem.W.Frag} {mg : Str → Option Value} {base : Heap} {t : Ad}
open FM (F Nd Op Ok dp sz Nm Den Kid Laid All Opens)
def wd : F → Str
  | .one => "one"
  | .seen _ => "seen"
  | .sum _ _ => "sum"
  | .times _ _ => "times"
  | .over _ _ => "over"
def nmF : F → List Int
  | .seen ns => ns
  | .sum ns _ => ns
  | _ => []
def kids : F → List F
  | .sum _ f => [f]
  | .times a b => [a, b]
  | .over a b => [a, b]
  | _ => []
def nsV (ns : List Int) : PV := .tup (ns.map PV.int)
def fV : F → PV
  | .one => .tup [.str "one"]
  | .seen ns => .tup [.str "seen", .tup (ns.map PV.int)]
  | .sum ns f => .tup [.str "sum", .tup (ns.map PV.int), fV f]
  | .times a b => .tup [.str "times", fV a, fV b]
  | .over a b => .tup [.str "over", fV a, fV b]
theorem fV_head : ∀ f : F, ∃ r, fV f = .tup (.str (wd f) :: r)
  | .one => ⟨_, rfl⟩
  | .seen _ => ⟨_, rfl⟩
  | .sum _ _ => ⟨_, rfl⟩
  | .times _ _ => ⟨_, rfl⟩
  | .over _ _ => ⟨_, rfl⟩
theorem atI_c0 {x : PV} {l : List PV} : atI (x :: l) 0 = some x := by
  unfold atI ixN
  rw [if_pos (by omega), if_pos (by simp only [List.length_cons]; omega)]
  rfl
theorem atI3_1 {x y z : PV} : atI [x, y, z] 1 = some y := rfl
theorem atI3_2 {x y z : PV} : atI [x, y, z] 2 = some z := rfl
theorem kid_sz {f g : F} (h : g ∈ kids f) : sz g < sz f ∧ dp g < dp f ∧ (Ok f → Ok g) := by
  cases f with
  | one => cases h
  | seen ns => cases h
  | sum ns f =>
    have := List.mem_singleton.mp h
    subst this
    exact ⟨by simp only [sz]; omega, by simp only [dp]; omega, fun o => o.2⟩
  | times a b =>
    rcases List.mem_cons.mp h with rfl | h
    · exact ⟨by simp only [sz]; omega, by simp only [dp]; omega, fun o => o.1⟩
    · have := List.mem_singleton.mp h
      subst this
      exact ⟨by simp only [sz]; omega, by simp only [dp]; omega, fun o => o.2⟩
  | over a b =>
    rcases List.mem_cons.mp h with rfl | h
    · exact ⟨by simp only [sz]; omega, by simp only [dp]; omega, fun o => o.1⟩
    · have := List.mem_singleton.mp h
      subst this
      exact ⟨by simp only [sz]; omega, by simp only [dp]; omega, fun o => o.2⟩
theorem kids_sz (f : F) : ((kids f).map sz).sum + 1 = sz f ∧ (kids f).length ≤ 2 := by
  cases f <;> simp [kids, sz] <;> omega
structure Mid (f : F) (ks : List Nd) (gs : List F) (js : List Int) (ks2 : List Nd) : Prop where
  keep : ∀ j g, Den ks j g → Den ks2 j g
  all : ∀ N, All N ks → sz f ≤ N → All N ks2
  len : ks2.length ≤ ks.length + (gs.map sz).sum
  den : Paired (fun (j : Int) g => ∃ n : Nat, j = (n : Int) ∧ Den ks2 n g) js gs
theorem Mid.nil {f : F} {ks : List Nd} : Mid f ks [] [] ks := ⟨fun _ _ d => d, fun _ a _ => a, by simp, .nil⟩
theorem Mid.step {f g : F} {ks ks2 ks3 : List Nd} {gs : List F} {js : List Int} {i : Nat} (m : Mid f ks gs js ks2) (hg : sz g < sz f) (l : Laid g ks2 i ks3) : Mid f ks (gs ++ [g]) (js ++ [(i : Int)]) ks3 := by
  refine ⟨fun j h d => l.keep j h (m.keep j h d), fun N a z => l.all N (m.all N a z) (by omega), ?_, ?_⟩
  · have h1 := l.len
    have h2 := m.len
    rw [List.map_append, List.sum_append]
    simp only [List.map_cons, List.map_nil, List.sum_cons, List.sum_nil]
    omega
  · refine pd_app (Paired.mapP m.den fun j h ⟨n, e, d⟩ => ⟨n, e, l.keep n h d⟩) (.cons ⟨i, rfl, l.den⟩ .nil)
theorem Mid.kid {f : F} {ks ks2 : List Nd} {js : List Int} (m : Mid f ks (kids f) js ks2) : Kid ks2 (wd f, nmF f, js) f := by
  have h := m.den
  cases f with
  | one => cases h; exact .one
  | seen ns => cases h; exact .seen
  | sum ns f =>
    cases h with
    | cons a t => cases t; obtain ⟨n, rfl, d⟩ := a; exact .sum d
  | times x y =>
    cases h with
    | cons a t =>
      cases t with
      | cons b t => cases t; obtain ⟨n, rfl, d⟩ := a; obtain ⟨k, rfl, e⟩ := b; exact .times d e
  | over x y =>
    cases h with
    | cons a t =>
      cases t with
      | cons b t => cases t; obtain ⟨n, rfl, d⟩ := a; obtain ⟨k, rfl, e⟩ := b; exact .over d e
def sp_names : Sp' := fun vs H Q _ => match vs with
  | [v] => ∃ f, v = fV f ∧ Q (.tup ((nmF f).map PV.int)) H
  | _ => False
theorem e_names {v : PV} {H : PHp} {Q : VK'} {E : XK'} : sp_names [v] H Q E = ∃ f, v = fV f ∧ Q (.tup ((nmF f).map PV.int)) H := rfl
def sp_parts : Sp' := fun vs H Q _ => match vs with
  | [v] => ∃ f, v = fV f ∧ ∀ p, H p = none → Q (.ref p) (put H p (.lst ((kids f).map fV)))
  | _ => False
theorem e_parts {v : PV} {H : PHp} {Q : VK'} {E : XK'} : sp_parts [v] H Q E = ∃ f, v = fV f ∧ ∀ p, H p = none → Q (.ref p) (put H p (.lst ((kids f).map fV))) := rfl
def sp_lay (P : Program) (w : World) (n : Nat) : Sp' := fun vs H Q _ => match vs with
  | [v, .ref d] => ∃ f ks N, v = fV f ∧ dp f < n ∧ Ok f ∧ H d = some (.dN P w ks) ∧ All N ks ∧ ks.length + sz f < 900 ∧ ∀ (i : Nat) ks', Laid f ks i ks' → Q (.int i) (put H d (.dN P w ks'))
  | _ => False
theorem e_lay {n : Nat} {v : PV} {d : Addr} {H : PHp} {Q : VK'} {E : XK'} : sp_lay P w n [v, .ref d] H Q E = ∃ f ks N, v = fV f ∧ dp f < n ∧ Ok f ∧ H d = some (.dN P w ks) ∧ All N ks ∧ ks.length + sz f < 900 ∧ ∀ (i : Nat) ks', Laid f ks i ks' → Q (.int i) (put H d (.dN P w ks')) := rfl
def sp_laid : Sp' := fun vs H Q _ => match vs with
  | [v] => ∃ f, v = fV f ∧ dp f ≤ 44 ∧ Ok f ∧ sz f < 900 ∧ ∀ r (i : Nat) ks, H r = none → Laid f [] i ks → Q (.ref r) (put H r (.lst (ks.map ndV)))
  | _ => False
theorem e_laid {v : PV} {H : PHp} {Q : VK'} {E : XK'} : sp_laid [v] H Q E = ∃ f, v = fV f ∧ dp f ≤ 44 ∧ Ok f ∧ sz f < 900 ∧ ∀ r (i : Nat) ks, H r = none → Laid f [] i ks → Q (.ref r) (put H r (.lst (ks.map ndV))) := rfl
def sp_opens : Sp' := fun vs H Q _ => match vs with
  | [.ref a] => ∃ ks N, H a = some (.lst (ks.map ndV)) ∧ All N ks ∧ ks.length < 900 ∧ ∀ r os, H r = none → os.length = ks.length → Opens ks os → Q (.ref r) (put H r (.lst (os.map nsV)))
  | _ => False
theorem e_opens {a : Addr} {H : PHp} {Q : VK'} {E : XK'} : sp_opens [.ref a] H Q E = ∃ ks N, H a = some (.lst (ks.map ndV)) ∧ All N ks ∧ ks.length < 900 ∧ ∀ r os, H r = none → os.length = ks.length → Opens ks os → Q (.ref r) (put H r (.lst (os.map nsV))) := rfl
def IsOp (f : F) (ms : List Int) : Prop := ms.Pairwise (· < ·) ∧ ∀ x, x ∈ ms ↔ Op f x
def sp_on : Sp' := fun vs H Q _ => match vs with
  | [v] => ∃ f, v = fV f ∧ dp f ≤ 44 ∧ Ok f ∧ sz f < 900 ∧ ∀ ms, IsOp f ms → Q (.tup (ms.map PV.int)) H
  | _ => False
theorem e_on {v : PV} {H : PHp} {Q : VK'} {E : XK'} : sp_on [v] H Q E = ∃ f, v = fV f ∧ dp f ≤ 44 ∧ Ok f ∧ sz f < 900 ∧ ∀ ms, IsOp f ms → Q (.tup (ms.map PV.int)) H := rfl
def sp_cell : Sp' := fun vs H Q _ => match vs with
  | [.fls l, .int k] => (0 ≤ k ∧ k < 100) ∧ ∃ ns : List Int, l = ns.map PV.int ∧ Q (.int (ns.getD k.toNat 0)) H
  | _ => False
theorem e_cell {l : List PV} {k : Int} {H : PHp} {Q : VK'} {E : XK'} : sp_cell [.fls l, .int k] H Q E = ((0 ≤ k ∧ k < 100) ∧ ∃ ns : List Int, l = ns.map PV.int ∧ Q (.int (ns.getD k.toNat 0)) H) := rfl
def sp_whole : Sp' := fun vs H Q _ => match vs with
  | [.int _] => Q (.bl true) H
  | _ => False
theorem e_whole {i : Int} {H : PHp} {Q : VK'} {E : XK'} : sp_whole [.int i] H Q E = Q (.bl true) H := rfl
def Nn (xs : List Int) : Prop := ∀ x ∈ xs, 0 ≤ x
def sp_digits : Sp' := fun vs H Q _ => match vs with
  | [.fls l, .int k, .int n] => n = 3 ∧ (0 ≤ k ∧ k < 3) ∧ ∃ ns : List Int, l = ns.map PV.int ∧ ∀ p (xs : List Int), H p = none → xs.length = 90 → Nn xs → Q (.ref p) (put H p (.lst (xs.map PV.int)))
  | _ => False
theorem e_digits {l : List PV} {k n : Int} {H : PHp} {Q : VK'} {E : XK'} : sp_digits [.fls l, .int k, .int n] H Q E = (n = 3 ∧ (0 ≤ k ∧ k < 3) ∧ ∃ ns : List Int, l = ns.map PV.int ∧ ∀ p (xs : List Int), H p = none → xs.length = 90 → Nn xs → Q (.ref p) (put H p (.lst (xs.map PV.int)))) := rfl
def sp_nb : Sp' := fun vs H Q _ => match vs with
  | [.int d, .int c] => (0 ≤ d ∧ 1 ≤ c ∧ c ≤ 6) ∧ ∀ L : List Int, Nm L → Q (.tup (L.map PV.int)) H
  | _ => False
theorem e_nb {d c : Int} {H : PHp} {Q : VK'} {E : XK'} : sp_nb [.int d, .int c] H Q E = ((0 ≤ d ∧ 1 ≤ c ∧ c ≤ 6) ∧ ∀ L : List Int, Nm L → Q (.tup (L.map PV.int)) H) := rfl
def need : Nat → Nat
  | 0 => 0
  | n + 1 => 2 * need n + 1
def sp_grown (n : Nat) : Sp' := fun vs H Q _ => match vs with
  | [.ref p, .int c, .int d] => (d + 1 = (n : Nat) ∧ 0 ≤ d) ∧ (1 ≤ c ∧ c ≤ 6) ∧ ∃ xs : List Int, H p = some (.lst (xs.map PV.int)) ∧ Nn xs ∧ need n ≤ xs.length ∧
    ∀ f (ys : List Int), Ok f → dp f < n → sz f ≤ need n → Nn ys → xs.length ≤ ys.length + need n → Q (fV f) (put H p (.lst (ys.map PV.int)))
  | _ => False
theorem e_grown {n : Nat} {p : Addr} {c d : Int} {H : PHp} {Q : VK'} {E : XK'} : sp_grown n [.ref p, .int c, .int d] H Q E = ((d + 1 = (n : Nat) ∧ 0 ≤ d) ∧ (1 ≤ c ∧ c ≤ 6) ∧ ∃ xs : List Int, H p = some (.lst (xs.map PV.int)) ∧ Nn xs ∧ need n ≤ xs.length ∧
    ∀ f (ys : List Int), Ok f → dp f < n → sz f ≤ need n → Nn ys → xs.length ≤ ys.length + need n → Q (fV f) (put H p (.lst (ys.map PV.int)))) := rfl
def sp_open (n : Nat) : Sp' := fun vs H Q _ => match vs with
  | [v] => ∃ f, v = fV f ∧ dp f < n ∧ Ok f ∧ ∀ ms, IsOp f ms → (∀ x ∈ ms, 0 ≤ x ∧ x < 6) → Q (.tup (ms.map PV.int)) H
  | _ => False
theorem e_open {n : Nat} {v : PV} {H : PHp} {Q : VK'} {E : XK'} : sp_open n [v] H Q E = ∃ f, v = fV f ∧ dp f < n ∧ Ok f ∧ ∀ ms, IsOp f ms → (∀ x ∈ ms, 0 ≤ x ∧ x < 6) → Q (.tup (ms.map PV.int)) H := rfl
def sp_ll : Sp' := fun vs H Q _ => match vs with
  | [v, .ref p, .int c] => ∃ f, ∃ xs : List Int, v = fV f ∧ dp f ≤ 4 ∧ Ok f ∧ sz f ≤ 31 ∧ (1 ≤ c ∧ c ≤ 6) ∧ H p = some (.lst (xs.map PV.int)) ∧ Nn xs ∧ 41 ≤ xs.length ∧
    ∀ g (ys : List Int), Ok g → dp g ≤ 44 → sz g ≤ 111 → Q (fV g) (put H p (.lst (ys.map PV.int)))
  | _ => False
theorem e_ll {v : PV} {p : Addr} {c : Int} {H : PHp} {Q : VK'} {E : XK'} : sp_ll [v, .ref p, .int c] H Q E = ∃ f, ∃ xs : List Int, v = fV f ∧ dp f ≤ 4 ∧ Ok f ∧ sz f ≤ 31 ∧ (1 ≤ c ∧ c ≤ 6) ∧ H p = some (.lst (xs.map PV.int)) ∧ Nn xs ∧ 41 ≤ xs.length ∧
    ∀ g (ys : List Int), Ok g → dp g ≤ 44 → sz g ≤ 111 → Q (fV g) (put H p (.lst (ys.map PV.int))) := rfl
theorem sub_put {A B : PHp} {x : Addr} {o : PO} (s : U.Sub A B) (h : B x = some o) : U.Sub (put A x o) B := fun a u e => by
  by_cases q : a = x
  · subst q; rw [put_same] at e; cases e; exact h
  · rw [put_ne q] at e; exact s a u e
theorem sub_putx {A B : PHp} {x : Addr} {o : PO} (s : ∀ a u, a ≠ x → A a = some u → B a = some u) (h : B x = some o) : U.Sub (put A x o) B := fun a u e => by
  by_cases q : a = x
  · subst q; rw [put_same] at e; cases e; exact h
  · rw [put_ne q] at e; exact s a u q e
theorem fm {a b : Int} (h : 0 < b) : 0 ≤ a.fmod b ∧ a.fmod b < b := by
  rw [Int.fmod_eq_emod_of_nonneg _ (by omega)]
  exact ⟨Int.emod_nonneg _ (by omega), Int.emod_lt_of_pos _ h⟩
theorem fd {a b : Int} (h0 : 0 ≤ a) (h : 0 < b) : 0 ≤ a.fdiv b := by
  rw [Int.fdiv_eq_ediv_of_nonneg _ (by omega)]
  exact Int.ediv_nonneg h0 (by omega)
theorem cdvB {i j : Int} (h : j ≠ 0) (f : j.natAbs < 2 ^ 64) : CDivB i j := ⟨h, (show My.BN 64 j from f).fit (by decide)⟩
theorem take_sum : ∀ (l : List Nat) (i : Nat), (l.take i).sum ≤ l.sum
  | [], i => by simp
  | x :: l, 0 => by simp
  | x :: l, i + 1 => by
    have := take_sum l i
    simp only [List.take_succ_cons, List.sum_cons]
    omega
theorem flat_ints {l : List Int} : (l.map PV.int).all (flat 8) = true := by
  rw [List.all_eq_true]
  intro z hz
  obtain ⟨p, _, rfl⟩ := List.mem_map.mp hz
  rfl
theorem any_int {l : List Int} {n : Int} : ((l.map PV.int).any fun z => deq z (.int n)) = decide (n ∈ l) := by
  rw [Bool.eq_iff_iff, List.any_eq_true, decide_eq_true_eq]
  constructor
  · rintro ⟨z, hz, e⟩
    obtain ⟨p, hp, rfl⟩ := List.mem_map.mp hz
    have : p = n := by simpa [deq] using e
    rw [← this]; exact hp
  · intro h
    exact ⟨_, List.mem_map.mpr ⟨_, h, rfl⟩, by simp [deq]⟩
theorem op_lo {x : Int} : ∀ {f : F}, Ok f → Op f x → 0 ≤ x ∧ x < 6
  | .one, _, h => h.elim
  | .seen _, o, h => o.2 _ h
  | .sum _ _, o, h => op_lo o.2 h.1
  | .times _ _, o, h => h.elim (op_lo o.1) (op_lo o.2)
  | .over _ _, o, h => h.elim (op_lo o.1) (op_lo o.2)
def b0 (nd : Nd) : List Int := if nd.1 == ("seen" : Str) then nd.2.1 else []
def bd (nd : Nd) : List Int := if nd.1 == ("sum" : Str) then nd.2.1 else []
def oG (os : List (List Int)) (p : Int) : List Int := os.getD p.toNat []
theorem oG_at {ks : List Nd} {os : List (List Int)} {j : Nat} {g : F} (ho : Opens ks os) (hj : j < os.length) (d : Den ks j g) : ∀ x, x ∈ oG os (j : Int) ↔ Op g x := by
  intro x
  unfold oG
  rw [Int.toNat_natCast, List.getD_eq_getElem?_getD, List.getElem?_eq_getElem hj]
  exact (ho.at (List.getElem?_eq_getElem hj) d).2 x
theorem oG_six {ks : List Nd} {os : List (List Int)} {j : Nat} {N : Nat} (ho : Opens ks os) (all : All N ks) (hj : j < os.length) : (oG os (j : Int)).length ≤ 6 := by
  unfold oG
  rw [Int.toNat_natCast, List.getD_eq_getElem?_getD, List.getElem?_eq_getElem hj]
  obtain ⟨g, d, up, iff⟩ := ho j _ (List.getElem?_eq_getElem hj)
  obtain ⟨g2, d2, _, o⟩ := all j d.lt
  rw [d2.uniq d] at o
  exact My.nodup_le 6 _ (up.imp fun h => by omega) fun x hx => op_lo o ((iff x).mp hx)
structure NodeOk (os : List (List Int)) (nd : Nd) (f : F) : Prop where
  pl : ∀ p ∈ nd.2.2, ∃ j : Nat, p = (j : Int) ∧ j < os.length
  len : nd.2.2.length ≤ 2
  op : ∀ x, (x ∈ b0 nd ++ nd.2.2.flatMap (oG os) ∧ x ∉ bd nd) ↔ Op f x
  lo : ∀ x ∈ b0 nd ++ nd.2.2.flatMap (oG os), 0 ≤ x ∧ x < 6
  lob : ∀ x ∈ bd nd, 0 ≤ x ∧ x < 6
  bl : (b0 nd).length ≤ 6
theorem node_ok {ks : List Nd} {os : List (List Int)} {nd : Nd} {f : F} (ho : Opens ks os) (d : Den ks os.length f) (h : ks[os.length]? = some nd) (ok : Ok f) : NodeOk os nd f := by
  cases d with
  | one h2 =>
    rw [h] at h2
    cases h2
    exact ⟨fun p hp => (by cases hp), (by decide), fun x => ⟨fun q => (by cases q.1), fun q => q.elim⟩, fun x hx => (by cases hx), fun x hx => (by cases hx), by decide⟩
  | seen h2 =>
    rw [h] at h2
    cases h2
    rename_i ns
    have e : b0 (("seen" : Str), ns, ([] : List Int)) = ns := rfl
    have e2 : bd (("seen" : Str), ns, ([] : List Int)) = [] := rfl
    refine ⟨fun p hp => (by cases hp), by simp, fun x => ?_, fun x hx => ?_, fun x hx => (by rw [e2] at hx; cases hx), by rw [e]; exact My.nodup_le 6 _ (ok.1.imp fun h => by omega) ok.2⟩
    · rw [e, e2]; simp [Op]
    · rw [e] at hx; exact ok.2 x (by simpa using hx)
  | sum h2 hj dj =>
    rw [h] at h2
    cases h2
    rename_i j ns g
    have e : b0 (("sum" : Str), ns, [(j : Int)]) = [] := rfl
    have e2 : bd (("sum" : Str), ns, [(j : Int)]) = ns := rfl
    have og := oG_at ho hj dj
    refine ⟨fun p hp => ⟨j, List.mem_singleton.mp hp, hj⟩, by simp, fun x => ?_, fun x hx => ?_, fun x hx => (by rw [e2] at hx; exact ok.1.2 x hx), by rw [e]; decide⟩
    · rw [e, e2]; simp only [List.nil_append, List.flatMap_cons, List.flatMap_nil, List.append_nil, Op, og]
    · rw [e] at hx
      simp only [List.nil_append, List.flatMap_cons, List.flatMap_nil, List.append_nil] at hx
      exact op_lo ok.2 ((og x).mp hx)
  | times h2 hj hk dj dk =>
    rw [h] at h2
    cases h2
    rename_i j k a b
    have e : b0 (("times" : Str), ([] : List Int), [(j : Int), (k : Int)]) = [] := rfl
    have e2 : bd (("times" : Str), ([] : List Int), [(j : Int), (k : Int)]) = [] := rfl
    have oj := oG_at ho hj dj
    have ok' := oG_at ho hk dk
    refine ⟨fun p hp => ?_, by simp, fun x => ?_, fun x hx => ?_, fun x hx => (by rw [e2] at hx; cases hx), by rw [e]; decide⟩
    · rcases List.mem_cons.mp hp with rfl | hp
      · exact ⟨j, rfl, hj⟩
      · exact ⟨k, List.mem_singleton.mp hp, hk⟩
    · rw [e, e2]; simp only [List.nil_append, List.flatMap_cons, List.flatMap_nil, List.append_nil, List.mem_append, List.not_mem_nil, not_false_eq_true, and_true, Op, oj, ok']
    · rw [e] at hx
      simp only [List.nil_append, List.flatMap_cons, List.flatMap_nil, List.append_nil, List.mem_append, oj, ok'] at hx
      exact hx.elim (op_lo ok.1) (op_lo ok.2)
  | over h2 hj hk dj dk =>
    rw [h] at h2
    cases h2
    rename_i j k a b
    have e : b0 (("over" : Str), ([] : List Int), [(j : Int), (k : Int)]) = [] := rfl
    have e2 : bd (("over" : Str), ([] : List Int), [(j : Int), (k : Int)]) = [] := rfl
    have oj := oG_at ho hj dj
    have ok' := oG_at ho hk dk
    refine ⟨fun p hp => ?_, by simp, fun x => ?_, fun x hx => ?_, fun x hx => (by rw [e2] at hx; cases hx), by rw [e]; decide⟩
    · rcases List.mem_cons.mp hp with rfl | hp
      · exact ⟨j, rfl, hj⟩
      · exact ⟨k, List.mem_singleton.mp hp, hk⟩
    · rw [e, e2]; simp only [List.nil_append, List.flatMap_cons, List.flatMap_nil, List.append_nil, List.mem_append, List.not_mem_nil, not_false_eq_true, and_true, Op, oj, ok']
    · rw [e] at hx
      simp only [List.nil_append, List.flatMap_cons, List.flatMap_nil, List.append_nil, List.mem_append, oj, ok'] at hx
      exact hx.elim (op_lo ok.1) (op_lo ok.2)
def onI (q : Int → Bool) (y : PV) : Bool := match y with | .int u => q u | _ => false
theorem ints_filter {q : Int → Bool} : ∀ {l : List Int}, ((l.map PV.int).filter (onI q)).map (fun x => x) = (l.filter q).map PV.int
  | [] => rfl
  | k :: l => by
    have e : onI q (PV.int k) = q k := rfl
    have ih := ints_filter (q := q) (l := l)
    rw [List.map_id'' (fun _ => rfl)] at ih ⊢
    rw [List.map_cons, List.filter_cons, List.filter_cons, e]
    by_cases h : q k = true
    · rw [if_pos h, if_pos h, List.map_cons, ih]
    · rw [if_neg h, if_neg h, ih]
def ulN (c : Int) : List Int := (List.range c.toNat).map fun k => ((k : Nat) : Int)
theorem ul_up (c : Int) : (ulN c).Pairwise (· < ·) := by
  unfold ulN
  rw [List.pairwise_map]
  exact List.pairwise_lt_range.imp fun h => by omega
theorem mem_ulN {c x : Int} : x ∈ ulN c ↔ 0 ≤ x ∧ x < c := by
  unfold ulN
  simp only [List.mem_map, List.mem_range]
  constructor
  · rintro ⟨k, hk, rfl⟩; omega
  · intro h; exact ⟨x.toNat, by omega, by omega⟩
theorem rng_ul {c : Int} : rngL 0 c.toNat = (ulN c).map PV.int := by
  unfold rngL ulN
  rw [List.map_map]
  refine List.map_congr_left fun k _ => ?_
  show PV.int (0 + ((k : Nat) : Int)) = PV.int ((k : Nat) : Int)
  rw [Int.zero_add]
theorem ul_len {c : Int} : (ulN c).length = c.toNat := by unfold ulN; rw [List.length_map, List.length_range]
theorem isop_one {f : F} {ms ns : List Int} (h1 : IsOp f ms) (h2 : IsOp f ns) : ms = ns := My.rising_one h1.1 h2.1 fun x => (h1.2 x).trans (h2.2 x).symm
theorem isop_len {f : F} {ms : List Int} (h : IsOp f ms) (ok : Ok f) : ms.length ≤ 6 := My.nodup_le 6 _ (h.1.imp fun h => by omega) fun x hx => op_lo ok ((h.2 x).mp hx)
theorem pop_int {xs : List Int} (h : 0 < xs.length) : ∃ y, (xs.map PV.int)[(xs.map PV.int).length - 1]? = some (.int y) ∧ y ∈ xs ∧ (xs.map PV.int).dropLast = xs.dropLast.map PV.int ∧ xs.dropLast.length + 1 = xs.length ∧ ∀ z ∈ xs.dropLast, z ∈ xs := by
  have hl : xs.length - 1 < xs.length := by omega
  refine ⟨xs[xs.length - 1], ?_, List.getElem_mem _, ?_, ?_, fun z hz => List.dropLast_subset _ hz⟩
  · rw [List.length_map, List.getElem?_map, List.getElem?_eq_getElem hl]; rfl
  · rw [List.map_dropLast]
  · rw [List.length_dropLast]; omega
theorem atI_last {l : List PV} {x : PV} (h : l[l.length - 1]? = some x) : atI l (-1) = some x := by
  have hl : 0 < l.length := by
    cases l with
    | nil => cases h
    | cons a b => simp
  unfold atI ixN
  rw [if_neg (by omega), if_pos (by omega)]
  show l[((-1 : Int) + (l.length : Int)).toNat]? = some x
  rw [show ((-1 : Int) + (l.length : Int)).toNat = l.length - 1 by omega]
  exact h
theorem for_atD {ok : PHp → Prop} {g : TG'} {tb : TS'} {D : Ends'} {xs : List PV} (Pv : Nat → St' → PHp → Prop) (hd : ∀ σ H, Pv xs.length σ H → ok H ∧ D.nx σ H)
    (hs : ∀ (D' : Ends') i x σ H, xs[i]? = some x → Pv i σ H → (∀ σ' H', Pv (i + 1) σ' H' → D'.nx σ' H') → ok H ∧ g x σ H fun σ2 H2 => tb D' σ2 H2)
    {σ : St'} {H : PHp} (h0 : Pv 0 σ H) : uForL ok g tb D xs σ H := for_at Pv hd (fun G i x σ H hx p k => hs _ i x σ H hx p k) h0
theorem for_rngD {ok : PHp → Prop} {g : TG'} {tb : TS'} {D : Ends'} {lo : Int} {n : Nat} (Pv : Nat → St' → PHp → Prop) (hd : ∀ σ H, Pv n σ H → ok H ∧ D.nx σ H)
    (hs : ∀ (D' : Ends') i σ H, i < n → Pv i σ H → (∀ σ' H', Pv (i + 1) σ' H' → D'.nx σ' H') → ok H ∧ g (.int (lo + (i : Nat))) σ H fun σ2 H2 => tb D' σ2 H2)
    {σ : St'} {H : PHp} (h0 : Pv 0 σ H) : uForL ok g tb D (rngL lo n) σ H := for_rng Pv hd (fun G i σ H hi p k => hs _ i σ H hi p k) h0
theorem flat_take {js : List Int} {i : Nat} {p : Int} {h : Int → List Int} (e : js[i]? = some p) : (js.take (i + 1)).flatMap h = (js.take i).flatMap h ++ h p := by
  rw [List.take_add_one, e, List.flatMap_append]; simp
theorem flat_len {js : List Int} {h : Int → List Int} (hl : ∀ p ∈ js, (h p).length ≤ 6) : (js.flatMap h).length ≤ 6 * js.length := by
  induction js with
  | nil => simp
  | cons p js ih =>
    have h1 := hl p List.mem_cons_self
    have h2 := ih fun q hq => hl q (List.mem_cons_of_mem _ hq)
    rw [List.flatMap_cons, List.length_append, List.length_cons]
    omega
theorem atI_os {os : List (List Int)} {j : Nat} (h : j < os.length) : atI (os.map nsV) (j : Int) = some (.tup ((oG os (j : Int)).map PV.int)) := by
  unfold atI ixN
  rw [if_pos (by omega), if_pos (by rw [List.length_map]; omega)]
  show (os.map nsV)[((j : Nat) : Int).toNat]? = _
  unfold oG
  rw [Int.toNat_natCast, List.getElem?_map, List.getElem?_eq_getElem h, List.getD_eq_getElem?_getD, List.getElem?_eq_getElem h]
  rfl
theorem mem_by3 {lo hi : Int} {y : PV} (h : y ∈ by3L lo (by3 lo hi)) : ∃ u, y = .int u ∧ lo ≤ u ∧ u < hi := by
  unfold by3L at h
  obtain ⟨k, hk, rfl⟩ := List.mem_map.mp h
  rw [List.mem_range] at hk
  unfold by3 at hk
  exact ⟨_, rfl, by omega, by omega⟩
theorem by3L_len {lo hi : Int} (h0 : 0 ≤ lo) (h1 : hi ≤ 63) : (by3L lo (by3 lo hi)).length ≤ 1000 := by
  unfold by3L by3
  rw [List.length_map, List.length_range]
  omega
def gI (ns : List Int) (y : PV) : Int := match y with | .int u => ns.getD u.toNat 0 | _ => 0
theorem nn_app {xs : List Int} {x : Int} (h : Nn xs) (hx : 0 ≤ x) : Nn (xs ++ [x]) := fun z hz => by
  rcases List.mem_append.mp hz with hz | hz
  · exact h z hz
  · rw [List.mem_singleton.mp hz]; exact hx
theorem nm_one {x : Int} (h : 0 ≤ x ∧ x < 6) : Nm [x] := ⟨List.pairwise_singleton _ _, fun z hz => by rw [List.mem_singleton.mp hz]; exact h⟩
theorem ix2 {d : Int} (h0 : 0 ≤ d) (h : d < 2) : (d = 0 ∧ atI [PV.str "times", PV.str "over"] d = some (.str "times")) ∨ (d = 1 ∧ atI [PV.str "times", PV.str "over"] d = some (.str "over")) := by
  have : d = 0 ∨ d = 1 := by omega
  rcases this with rfl | rfl
  · exact .inl ⟨rfl, rfl⟩
  · exact .inr ⟨rfl, rfl⟩
theorem deqs_ints : ∀ ms : List Int, deqs (ms.map PV.int) (ms.map PV.int) = true
  | [] => by simp [deqs]
  | m :: ms => by simp [deqs, deq, deqs_ints ms]
theorem op_none {ms : List Int} (h : IsOp .one ms) : ms = [] := isop_one h ⟨.nil, fun x => by simp [Op]⟩
theorem op_two {ms : List Int} (h : IsOp (.seen [0, 5]) ms) : ms = [0, 5] := isop_one h ⟨by decide, fun x => Iff.rfl⟩
theorem ok_two : Ok (.seen [0, 5]) := ⟨by decide, by decide⟩

end
section
variable {P : Program} {w : World} {K : PySem.W.Frag} {mg : Str → Option Value} {base : Heap} {t : Ad}
open FM (F Nd Op Ok dp sz Nm Den Kid Laid All Opens)
local macro_rules | `(tactic| walk_at "rd") => `(tactic| simp only [uRet, uRetN, uOp, uI, uI0, uIx, uVar, uC, uSeq, uAsg, vName, uIfS, uNext, uDrop, uTest, uChain, uAnd, uOr, uNot, uAndV, uOrV, uNotV, uIf, uUn, uNil, uCons, uTup, uLst, uCB, uLen, uAbs, uInt, uList, uTuple, uSlice, uNoPart, uPart,
  uCall, uComp, uYes, w_al, w_et, uShr, uDNewN, w_ln, w_lN, uBMN, w_sD, w_su, w_mi, w_cT, uBy3, w_s3, uSortSub, w_sA, w_sB, uRev, w_rA, atI_c0, atI3_1, atI3_2, uFor, uSeqI, uEqG, uInG, BT.sub, BT.nm, w_bm, w_il, uBM0, ends, uBreak, uCont, start', flat, deq, deqs, w_V, w_B, w_I, w_O, w_St, w_Sf, w_Sr, w_Dr, w_Dn, w_Db, w_Di, w_Ds, w_Dt, w_Df, w_Tn, w_Tb, w_Ti, w_Ts, w_Tt, w_Tf, w_Tr, w_Ni, w_Nb, w_Lf, w_Lr, w_Lt, w_Xt, w_Xf, w_Xr, w_1, w_isi, w_n0, w_n1, w_n2, w_n3, w_n4, w_vt, w_vc, w_vn, w_r1, w_r1', w_r2, w_r2', w_ap, w_ex, w_po, cif_t, cif_f,
  List.map_cons, List.map_nil, List.length_cons, List.length_nil, Nat.reduceAdd, Nat.reduceSub, Nat.add_sub_cancel, Nat.sub_self, Nat.zero_add, List.replicate_succ, List.replicate_zero, List.cons_append, List.nil_append, List.append_nil, List.getElem?_cons_zero, List.getElem?_cons_succ, List.set_cons_zero, List.set_cons_succ,
  atI2_0, atI2_1, List.all_cons, List.all_nil, Bool.and_self, Bool.and_true, Bool.true_and, Bool.not_true, Bool.not_false, true_and, and_true, put_same, Option.some.injEq, PO.lst.injEq, exists_eq_left', Int.zero_add , e_names, e_parts, e_lay, e_laid, e_opens, e_on, e_cell, e_whole, e_digits, e_nb, e_grown, e_open, e_ll])
theorem G_names_of (T : Tx K mg t) : FnOk' P w K mg base CX0 1 t.a_names_of t.d_names_of ["formula"] sp_names := by
  refine okU (k := 0) T.F_names_of sc_names_of (fun vs H Q E h => by
    unfold sp_names at h
    split at h
    · rfl
    · exact h.elim) (fun cdv A outer s H E B hr => ⟨_, (qss_one (qs_ret (qe_ifExp (qt_bool (qw_or (qt_cmp (op_eqU hr.units) vr_eq (qe_ix (qv 0) qe_int (fun _ _ => rfl)) qe_str (nomark _)) (qw_or1 (qt_cmp (op_eqU hr.units) vr_eq (qe_ix (qv 0) qe_int (fun _ _ => rfl)) qe_str (nomark _))))) (qe_ix (qv 0) qe_int (fun _ _ => rfl)) (qe_tup qa_nil)))), ?_⟩)
  intro vs H Q E h
  unfold sp_names at h
  split at h
  · rename_i v
    obtain ⟨f, rfl, h⟩ := h
    cases f with
    | one => unfold fV; walk_at "rd"; exact cif_neg (by decide) (cif_neg (by decide) ⟨small_size (by decide), H, Sub.refl _, h⟩)
    | seen ns => unfold fV; walk_at "rd"; exact cif_pos (by decide) ⟨H, Sub.refl _, h⟩
    | sum ns f => unfold fV; walk_at "rd"; exact cif_neg (by decide) (cif_pos (by decide) ⟨H, Sub.refl _, h⟩)
    | times a b => unfold fV; walk_at "rd"; exact cif_neg (by decide) (cif_neg (by decide) ⟨small_size (by decide), H, Sub.refl _, h⟩)
    | over a b => unfold fV; walk_at "rd"; exact cif_neg (by decide) (cif_neg (by decide) ⟨small_size (by decide), H, Sub.refl _, h⟩)
  · exact h.elim

theorem G_parts_of (T : Tx K mg t) : FnOk' P w K mg base CX0 1 t.a_parts_of t.d_parts_of ["formula"] sp_parts := by
  refine okU (k := 0) T.F_parts_of sc_parts_of (fun vs H Q E h => by
    unfold sp_parts at h
    split at h
    · rfl
    · exact h.elim) (fun cdv A outer s H E B hr => ⟨_, (qss_cons (qs_if (qt_bool (qw_or (qt_cmp (op_eqU hr.units) vr_eq (qe_ix (qv 0) qe_int (fun _ _ => rfl)) qe_str (nomark _)) (qw_or1 (qt_cmp (op_eqU hr.units) vr_eq (qe_ix (qv 0) qe_int (fun _ _ => rfl)) qe_str (nomark _)))))
    (qss_one (qs_ret (qe_lst (qa_cons (qe_ix (qv 0) qe_int (fun _ _ => rfl)) (qa_cons (qe_ix (qv 0) qe_int (fun _ _ => rfl)) qa_nil)))))
    qss_nil)
    (qss_cons (qs_if (qt_cmp (op_eqU hr.units) vr_eq (qe_ix (qv 0) qe_int (fun _ _ => rfl)) qe_str (nomark _))
    (qss_one (qs_ret (qe_lst (qa_cons (qe_ix (qv 0) qe_int (fun _ _ => rfl)) qa_nil))))
    qss_nil)
    (qss_one (qs_ret (qe_lst qa_nil))))), ?_⟩)
  intro vs H Q E h
  unfold sp_parts at h
  split at h
  · rename_i v
    obtain ⟨f, rfl, h⟩ := h
    cases f with
    | one => unfold fV; walk_at "rd"; exact cif_neg (by decide) (cif_neg (by decide) (cif_neg (by decide) ⟨small_size (by decide), fun p hp => ⟨_, Sub.refl _, h p hp⟩⟩))
    | seen ns => unfold fV; walk_at "rd"; exact cif_neg (by decide) (cif_neg (by decide) (cif_neg (by decide) ⟨small_size (by decide), fun p hp => ⟨_, Sub.refl _, h p hp⟩⟩))
    | sum ns f => unfold fV; walk_at "rd"; exact cif_neg (by decide) (cif_neg (by decide) (cif_pos (by decide) ⟨small_size (by decide), fun p hp => ⟨_, Sub.refl _, h p hp⟩⟩))
    | times a b => unfold fV; walk_at "rd"; exact cif_pos (by decide) ⟨small_size (by decide), fun p hp => ⟨_, Sub.refl _, h p hp⟩⟩
    | over a b => unfold fV; walk_at "rd"; exact cif_neg (by decide) (cif_pos (by decide) ⟨small_size (by decide), fun p hp => ⟨_, Sub.refl _, h p hp⟩⟩)
  · exact h.elim

theorem G_lay0 (T : Tx K mg t) : FnOk' P w K mg base CX0 (1) t.a_lay t.d_lay ["formula", "places"] (sp_lay P w 0) := by
  refine okU (k := 0) T.F_lay sc_lay (fun vs H Q E h => by
    unfold sp_lay at h
    split at h
    · rfl
    · exact h.elim) (fun cdv A outer s H E B hr => ⟨_, qss_never, ?_⟩)
  intro vs H Q E h
  unfold sp_lay at h
  split at h
  · obtain ⟨f, ks, N, _, hd, _⟩ := h
    omega
  · exact h.elim
theorem G_layS (T : Tx K mg t) {n : Nat} (ih : FnOk' P w K mg base CX0 (n + 1) t.a_lay t.d_lay ["formula", "places"] (sp_lay P w n)) : FnOk' P w K mg base CX0 (n + 2) t.a_lay t.d_lay ["formula", "places"] (sp_lay P w (n + 1)) := by
  refine okU (k := n + 1) T.F_lay sc_lay (fun vs H Q E h => by
    unfold sp_lay at h
    split at h
    · rfl
    · exact h.elim) (fun cdv A outer s H E B hr => ⟨_, (qss_cons (qs_set (i := 2) sc_lay.nd rfl (by first | exact Or.inl rfl | exact Or.inr rfl) (qe_lst qa_nil))
    (qss_cons (qs_for PassesOwn.never rfl (qi_seq (qe_call (G_parts_of T) (hr.mono (by omega)) rfl T.g_parts_of T.F_parts_of.kp T.B_parts_of (qa_cons (qv 0) qa_nil))) (qg_name (i := 3) sc_lay.nd rfl (by first | exact Or.inl rfl | exact Or.inr rfl))
    (qss_one (qs_expr (qe_bm PySem.F.slot_list_append PySem.F.type_list_append mt_append vm_append (qv 2) (qa_cons (qe_call ih (hr.mono (by omega)) rfl T.g_lay T.F_lay.kp T.B_lay (qa_cons (qv 3) (qa_cons (qv 1) qa_nil))) qa_nil)))))
    (qss_cons (qs_set (i := 4) sc_lay.nd rfl (by first | exact Or.inl rfl | exact Or.inr rfl) (qe_tup (qa_cons (qe_ix (qv 0) qe_int (fun _ _ => rfl)) (qa_cons (qe_call (G_names_of T) (hr.mono (by omega)) rfl T.g_names_of T.F_names_of.kp T.B_names_of (qa_cons (qv 0) qa_nil)) (qa_cons (qe_callTy call_tuple_of vc_tuple rfl T.b_tuple boot_tuple (qa_cons (qv 2) qa_nil)) qa_nil)))))
    (qss_one (qs_ret (show PE' _ _ _ (uBMN P w (uSetD P w) _ _) from qe_setD hr.units (qv 1) (qa_cons (qv 4) (qa_cons (qe_callB (call_lenN (P := P) (w := w)) vc_lenN rfl T.b_len PySem.boot_len (qa_cons (qv 1) qa_nil)) qa_nil)))))))), ?_⟩)
  intro vs H Q E h
  unfold sp_lay at h
  split at h
  · rename_i v d
    obtain ⟨f, ks, N, hv, hd, ok, hH, all, hz, h⟩ := h
    obtain ⟨r, e⟩ := fV_head f
    rw [e] at hv
    subst hv
    walk_at "rd"
    refine ⟨small_size (by decide), fun p hp => ⟨f, e.symm, fun q hq => ?_⟩⟩
    have ndp : d ≠ p := ne_none hH hp
    have hH1 : put H p (.lst []) d = some (.dN P w ks) := (put_ne ndp).trans hH
    have ndq : d ≠ q := ne_none hH1 hq
    have npq : p ≠ q := fun e => by subst e; rw [put_same] at hq; cases hq
    have sb : U.Sub H (put (put H p (.lst [])) q (.lst ((kids f).map fV))) := (((Sub.refl H).put hp).put (((Sub.refl H).put hp).free hq))
    try refine ⟨_, put_same, ?_⟩
    refine for_at (fun i σ H2 => ∃ k js ks2, σ = [some (.tup (.str (wd f) :: r)), some (.ref d), some (.ref p), k, none] ∧ (∀ a u, a ≠ d → H a = some u → H2 a = some u) ∧ H2 p = some (.lst (js.map PV.int)) ∧ H2 q = some (.lst ((kids f).map fV)) ∧ H2 d = some (.dN P w ks2) ∧ Mid f ks ((kids f).take i) js ks2 ∧ js.length = i) ?_ ?_ ⟨none, [], ks, rfl, fun a u _ hu => sb a u hu, (put_ne npq).trans put_same, put_same, (put_ne ndq).trans hH1, Mid.nil, rfl⟩
    · rintro σ H2 ⟨k, js, ks2, rfl, s2, hp2, hq2, hd2, m, hj⟩
      refine ⟨hq2, ?_⟩
      rw [List.length_map, List.take_length] at m
      have k2 := (kids_sz f).2
      have ml := m.len
      have mk := (kids_sz f).1
      walk_at "rd"
      refine ⟨f, e.symm, _, hp2, small_size (by decide), ⟨_, hd2⟩, _, hd2, by omega, ks2, (wd f, nmF f, js), hd2, rfl, rfl, by omega, fun i hi => ?_, fun hn => ?_⟩
      · exact ⟨_, sub_putx s2 hd2, h i ks2 (Laid.there m.kid m.keep m.all (by omega) all hi)⟩
      · refine ⟨_, sub_putx (fun a u ha hu => ?_) put_same, h _ _ (Laid.fresh ok m.kid m.keep m.all (by omega))⟩
        rw [put_ne ha]; exact s2 a u ha hu
    · rintro G i y σ H2 hy ⟨k, js, ks2, rfl, s2, hp2, hq2, hd2, m, hj⟩ kk
      refine ⟨hq2, ?_⟩
      rw [List.getElem?_map] at hy
      cases hg : (kids f)[i]? with
      | none => rw [hg] at hy; cases hy
      | some g =>
        rw [hg] at hy
        cases hy
        have hm := List.mem_of_getElem? hg
        obtain ⟨z1, z2, z3⟩ := kid_sz hm
        have hi := (List.getElem?_eq_some_iff.mp hg).1
        have k2 := (kids_sz f).2
        have et : (kids f).take (i + 1) = (kids f).take i ++ [g] := by rw [List.take_add_one, hg]; rfl
        have mk := (kids_sz f).1
        have ml := m.len
        have msum : (((kids f).take i).map sz).sum + sz g ≤ ((kids f).map sz).sum := by
          have : (((kids f).take (i + 1)).map sz).sum ≤ ((kids f).map sz).sum := by rw [List.map_take]; exact take_sum _ _
          rw [et, List.map_append, List.sum_append] at this
          simpa using this
        walk_at "rd"
        refine ⟨⟨_, hp2⟩, g, ks2, N + sz f, rfl, by omega, z3 ok, hd2, m.all _ (all.up (by omega)) (by omega), by omega, fun i2 ks3 l3 => ?_⟩
        refine ⟨_, (put_ne ndp.symm).trans hp2, by rw [List.length_map]; exact small1000 (by omega), ?_⟩
        try walk_at "rd"
        refine kk _ _ ⟨_, js ++ [(i2 : Int)], ks3, rfl, fun a u ha hu => ?_, ?_, ?_, ?_, ?_, ?_⟩
        · by_cases ap : a = p
          · subst ap; rw [hp] at hu; cases hu
          · rw [put_ne ap, put_ne ha]; exact s2 a u ha hu
        · rw [put_same, List.map_append]; rfl
        · rw [put_ne npq.symm, put_ne ndq.symm]; exact hq2
        · rw [put_ne ndp]; exact put_same
        · rw [et]; exact m.step z1 l3
        · rw [List.length_append, hj]; rfl
  · exact h.elim
theorem G_lay (T : Tx K mg t) : ∀ n, FnOk' P w K mg base CX0 (n + 1) t.a_lay t.d_lay ["formula", "places"] (sp_lay P w n)
  | 0 => G_lay0 T
  | n + 1 => G_layS T (G_lay T n)

theorem G_laid_out (T : Tx K mg t) : FnOk' P w K mg base CX0 47 t.a_laid_out t.d_laid_out ["formula"] sp_laid := by
  refine okU (k := 46) T.F_laid_out sc_laid_out (fun vs H Q E h => by
    unfold sp_laid at h
    split at h
    · rfl
    · exact h.elim) (fun cdv A outer s H E B hr => ⟨_, (qss_cons (qs_set (i := 1) sc_laid_out.nd rfl (by first | exact Or.inl rfl | exact Or.inr rfl) (show PE' _ _ _ (uDNewN P w) from qe_dnewN))
    (qss_cons (qs_expr (qe_call (G_lay (P := P) (w := w) T 45) (hr.mono (by decide)) rfl T.g_lay T.F_lay.kp T.B_lay (qa_cons (qv 0) (qa_cons (qv 1) qa_nil))))
    (qss_one (qs_ret (qe_callTy (call_listN (P := P) (w := w) rfl) vc_listN rfl T.b_list boot_list (qa_cons (qv 1) qa_nil)))))), ?_⟩)
  intro vs H Q E h
  unfold sp_laid at h
  split at h
  · rename_i v
    obtain ⟨f, rfl, hd, ok, hz, h⟩ := h
    walk_at "rd"
    intro d hd'
    try walk_at "rd"
    refine ⟨f, [], 0, rfl, by omega, ok, rfl, fun i hi => by simp at hi, by simpa using hz, fun i ks l => ?_⟩
    have ll := l.len
    refine ⟨ks, rfl, by simp at ll; omega, fun r hr => ?_⟩
    rw [put_put] at hr ⊢
    have hrH : H r = none := ((Sub.refl H).put hd').free hr
    refine ⟨put H r (.lst (ks.map ndV)), ?_, h r i ks hrH l⟩
    exact sub_put (((Sub.refl H).put hd').put hrH) put_same
  · exact h.elim

theorem G_opens_of (T : Tx K mg t) : FnOk' P w K mg base CX0 1 t.a_opens_of t.d_opens_of ["nodes"] sp_opens := by
  refine okU (k := 0) T.F_opens_of sc_opens_of (fun vs H Q E h => by
    unfold sp_opens at h
    split at h
    · rfl
    · exact h.elim) (fun cdv A outer s H E B hr => ⟨_, (qss_cons (qs_set (i := 1) sc_opens_of.nd rfl (by first | exact Or.inl rfl | exact Or.inr rfl) (qe_lst qa_nil))
    (qss_cons (qs_for PassesOwn.never rfl (qi_seq (qv 0)) (qg_name (i := 2) sc_opens_of.nd rfl (by first | exact Or.inl rfl | exact Or.inr rfl))
    (qss_cons (qs_set (i := 3) sc_opens_of.nd rfl (by first | exact Or.inl rfl | exact Or.inr rfl) (qe_ifExp (qt_cmp (op_eqU hr.units) vr_eq (qe_ix (qv 2) qe_int (fun _ _ => rfl)) qe_str (nomark _)) (qe_callTy call_list_of vc_list rfl T.b_list boot_list (qa_cons (qe_ix (qv 2) qe_int (fun _ _ => rfl)) qa_nil)) (qe_lst qa_nil)))
      (qss_cons (qs_for PassesOwn.never rfl (qi_seq (qe_ix (qv 2) qe_int (fun _ _ => rfl))) (qg_name (i := 4) sc_opens_of.nd rfl (by first | exact Or.inl rfl | exact Or.inr rfl))
      (qss_one (qs_expr (qe_bm PySem.F.slot_list_extend PySem.F.type_list_extend mt_extendT vm_extT (qv 3) (qa_cons (qe_ix (qv 1) (qv 4) (fun _ _ => rfl)) qa_nil)))))
      (qss_cons (qs_set (i := 5) sc_opens_of.nd rfl (by first | exact Or.inl rfl | exact Or.inr rfl) (qe_ifExp (qt_cmp (op_eqU hr.units) vr_eq (qe_ix (qv 2) qe_int (fun _ _ => rfl)) qe_str (nomark _)) (qe_ix (qv 2) qe_int (fun _ _ => rfl)) (qe_tup qa_nil)))
      (qss_one (qs_expr (qe_bm PySem.F.slot_list_append PySem.F.type_list_append mt_append vm_append (qv 1) (qa_cons (qe_callTy call_tuple_of vc_tuple rfl T.b_tuple boot_tuple (qa_cons (qe_sorted_sub rfl rfl T.b_sorted rfl T.b_set boot_set (qv 3) (qv 5)) qa_nil)) qa_nil))))))))
    (qss_one (qs_ret (qv 1))))), ?_⟩)
  intro vs H Q E h
  unfold sp_opens at h
  split at h
  · rename_i a
    obtain ⟨ks, N, ha, all, hz, h⟩ := h
    walk_at "rd"
    refine ⟨small_size (by decide), fun p hp => ?_⟩
    have nap : a ≠ p := ne_none ha hp
    refine ⟨_, (put_ne nap).trans ha, ?_⟩
    refine for_atD (fun i σ H2 => ∃ z1 z2 z3 z4 os, σ = [some (.ref a), some (.ref p), z1, z2, z3, z4] ∧ U.Sub H H2 ∧ H2 p = some (.lst (os.map nsV)) ∧ H2 a = some (.lst (ks.map ndV)) ∧ os.length = i ∧ Opens ks os) ?_ ?_ ⟨none, none, none, none, [], rfl, (Sub.refl H).put hp, put_same, (put_ne nap).trans ha, rfl, fun i ms hi => by simp at hi⟩
    · rintro σ H2 ⟨z1, z2, z3, z4, os, rfl, s2, hp2, ha2, hl, ho⟩
      refine ⟨ha2, ?_⟩
      rw [List.length_map] at hl
      walk_at "rd"
      exact ⟨_, sub_put s2 hp2, h p os hp hl ho⟩
    · rintro D i y σ H2 hy ⟨z1, z2, z3, z4, os, rfl, s2, hp2, ha2, hl, ho⟩ kk
      refine ⟨ha2, ?_⟩
      rw [List.getElem?_map] at hy
      cases hg : ks[i]? with
      | none => rw [hg] at hy; cases hy
      | some nd =>
        rw [hg] at hy
        cases hy
        obtain ⟨f, dn, _, okf⟩ := all i (List.getElem?_eq_some_iff.mp hg).1
        have hil := (List.getElem?_eq_some_iff.mp hg).1
        subst hl
        have nk := node_ok ho dn hg okf
        obtain ⟨wn, ns, js⟩ := nd
        have kl := nk.len
        have npl := nk.pl
        have six : ∀ q ∈ js, (oG os q).length ≤ 6 := fun q hq => by
          obtain ⟨j, rfl, hj⟩ := npl q hq
          exact oG_six ho all hj
        have bl := nk.bl
        simp only at kl
        simp only [Option.map_some, ndV, vName, List.set_cons_zero, List.set_cons_succ]
        refine seq_abs fun R hR => ?_
        have go : ∀ r z3 z4, H2 r = none → R D [some (.ref a), some (.ref p), some (.tup [.str wn, .tup (ns.map PV.int), .tup (js.map PV.int)]), some (.ref r), z3, z4] (put H2 r (.lst ((b0 (wn, ns, js)).map PV.int))) := fun r z3 z4 hr => by
          subst hR
          have npr : p ≠ r := ne_none hp2 hr
          have nar : a ≠ r := ne_none ha2 hr
          have s3 := s2.put (o := .lst ((b0 (wn, ns, js)).map PV.int)) (s2.free hr)
          have hp3 : put H2 r (.lst ((b0 (wn, ns, js)).map PV.int)) p = some (.lst (os.map nsV)) := (put_ne npr).trans hp2
          have ha3 : put H2 r (.lst ((b0 (wn, ns, js)).map PV.int)) a = some (.lst (ks.map ndV)) := (put_ne nar).trans ha2
          have hr3 : put H2 r (.lst ((b0 (wn, ns, js)).map PV.int)) r = some (.lst ((b0 (wn, ns, js)).map PV.int)) := put_same
          generalize put H2 r (.lst ((b0 (wn, ns, js)).map PV.int)) = H3 at *
          refine seq_abs fun R hR => ?_
          walk_at "rd"
          refine for_atD (fun j σ H4 => ∃ z3 z4, σ = [some (.ref a), some (.ref p), some (.tup [.str wn, .tup (ns.map PV.int), .tup (js.map PV.int)]), some (.ref r), z3, z4] ∧ U.Sub H H4 ∧ H4 p = some (.lst (os.map nsV)) ∧ H4 a = some (.lst (ks.map ndV)) ∧ H4 r = some (.lst ((b0 (wn, ns, js) ++ (js.take j).flatMap (oG os)).map PV.int))) ?_ ?_ ⟨z3, z4, rfl, s3, hp3, ha3, by simpa using hr3⟩
          · rintro σ H4 ⟨z3, z4, rfl, s4, hp4, ha4, hr4⟩
            refine ⟨trivial, ?_⟩
            rw [List.length_map, List.take_length] at hr4
            subst hR
            dsimp only
            refine seq_abs fun R hR => ?_
            have go2 : R D [some (.ref a), some (.ref p), some (.tup [.str wn, .tup (ns.map PV.int), .tup (js.map PV.int)]), some (.ref r), z3, some (.tup ((bd (wn, ns, js)).map PV.int))] H4 := by
              subst hR
              walk_at "rd"
              refine ⟨⟨_, hp4⟩, (b0 (wn, ns, js) ++ js.flatMap (oG os)).map Int.toNat, by rw [hr4, nats_of nk.lo], fun n hn => ?_, (bd (wn, ns, js)).map Int.toNat, nats_of nk.lob, fun n hn => ?_, fun r5 ks5 hr5 up5 mem5 => ?_⟩
              · obtain ⟨z, hz, rfl⟩ := List.mem_map.mp hn
                have := nk.lo z hz; omega
              · obtain ⟨z, hz, rfl⟩ := List.mem_map.mp hn
                have := nk.lob z hz; omega
              try walk_at "rd"
              refine ⟨_, (put_ne (ne_none hp4 hr5)).trans hp4, by rw [List.length_map]; exact small1000 (by omega), ?_⟩
              try walk_at "rd"
              have np5 : p ≠ r5 := ne_none hp4 hr5
              refine kk _ _ ⟨_, _, _, _, os ++ [ks5.map fun (n : Nat) => (n : Int)], rfl, ?_, ?_, ?_, ?_, ?_⟩
              · exact ((s4.put (s4.free hr5)).put hp)
              · rw [put_same, List.map_append]
                congr 2
                unfold nsV
                rw [List.map_cons, List.map_nil, List.map_map]
                rfl
              · rw [put_ne nap, put_ne (ne_none ha4 hr5)]; exact ha4
              · rw [List.length_append]; rfl
              · refine ho.step dn ?_ fun x => ?_
                · rw [List.pairwise_map]; exact up5.imp fun h => by omega
                · rw [← nk.op x, List.mem_map]
                  constructor
                  · rintro ⟨n, hn, rfl⟩
                    obtain ⟨q1, q2⟩ := (mem5 n).mp hn
                    obtain ⟨z, hz, e⟩ := List.mem_map.mp q1
                    have := nk.lo z hz
                    have ez : ((n : Nat) : Int) = z := by omega
                    rw [ez]
                    refine ⟨hz, fun hb => q2 (List.mem_map.mpr ⟨z, hb, by omega⟩)⟩
                  · rintro ⟨q1, q2⟩
                    have := nk.lo x q1
                    refine ⟨x.toNat, (mem5 _).mpr ⟨List.mem_map.mpr ⟨x, q1, rfl⟩, fun hb => ?_⟩, by omega⟩
                    obtain ⟨z, hz, e⟩ := List.mem_map.mp hb
                    have := nk.lob z hz
                    have : z = x := by omega
                    rw [this] at hz
                    exact q2 hz
            walk_at "rd"
            refine cif_by (fun q => ?_) (fun q => ?_)
            · have e : bd (wn, ns, js) = ns := if_pos q
              rw [e] at go2
              exact go2
            · have e : bd (wn, ns, js) = [] := if_neg (by rw [q]; decide)
              rw [e] at go2
              exact ⟨small_size (by decide), go2⟩
          · rintro D' j y σ H4 hy ⟨z3, z4, rfl, s4, hp4, ha4, hr4⟩ kk'
            refine ⟨trivial, ?_⟩
            rw [List.getElem?_map] at hy
            cases hj : js[j]? with
            | none => rw [hj] at hy; cases hy
            | some pl =>
              rw [hj] at hy
              cases hy
              obtain ⟨m, rfl, hm⟩ := npl pl (List.mem_of_getElem? hj)
              try simp only [Option.map_some]
              walk_at "rd"
              refine ⟨⟨_, hr4⟩, _, hp4, ?_⟩
              rw [atI_os hm]
              walk_at "rd"
              have sx := six _ (List.mem_of_getElem? hj)
              have fl := flat_len (js := js.take j) (h := oG os) fun q hq => six q (List.mem_of_mem_take hq)
              have tl : (js.take j).length ≤ 2 := by rw [List.length_take]; omega
              refine ⟨_, hr4, ?_, ?_⟩
              · rw [List.length_map, List.length_map, List.length_append]; exact small_size (by omega)
              · refine kk' _ _ ⟨_, _, rfl, s4.put (s2.free hr), ?_, ?_, ?_⟩
                · rw [put_ne npr]; exact hp4
                · rw [put_ne nar]; exact ha4
                · rw [put_same, flat_take hj, ← List.append_assoc, List.map_append, List.map_append, List.map_append]
                  try rfl
        walk_at "rd"
        refine cif_by (fun q => ?_) (fun q => ?_)
        · have e : b0 (wn, ns, js) = ns := if_pos q
          rw [e] at go
          exact fun r hr => go r _ _ hr
        · have e : b0 (wn, ns, js) = [] := if_neg (by rw [q]; decide)
          rw [e] at go
          exact ⟨small_size (by decide), fun r hr => go r _ _ hr⟩
  · exact h.elim

theorem G_open_names (T : Tx K mg t) : FnOk' P w K mg base CX0 48 t.a_open_names t.d_open_names ["formula"] sp_on := by
  refine okU (k := 47) T.F_open_names sc_open_names (fun vs H Q E h => by
    unfold sp_on at h
    split at h
    · rfl
    · exact h.elim) (fun cdv A outer s H E B hr => ⟨_, (qss_one (qs_ret (qe_ix (qe_call (G_opens_of T) (hr.mono (by decide)) rfl T.g_opens_of T.F_opens_of.kp T.B_opens_of (qa_cons (qe_call (G_laid_out T) (hr.mono (by decide)) rfl T.g_laid_out T.F_laid_out.kp T.B_laid_out (qa_cons (qv 0) qa_nil)) qa_nil)) (qe_neg qe_int) (fun _ _ => rfl)))), ?_⟩)
  intro vs H Q E h
  unfold sp_on at h
  split at h
  · rename_i v
    obtain ⟨f, rfl, hd, ok, hz, h⟩ := h
    walk_at "rd"
    refine ⟨f, rfl, hd, ok, hz, fun r i ks hr l => ?_⟩
    have ll := l.len
    have la := l.last fun j hj => by simp at hj
    simp only [List.length_nil, Nat.zero_add] at ll
    try walk_at "rd"
    refine ⟨ks, sz f + 1, rfl, l.all _ (fun j hj => by simp at hj) (by omega), by omega, fun r2 os hr2 ho hO => ?_⟩
    try walk_at "rd"
    have hi : os.length - 1 < os.length := by omega
    have e1 : os[os.length - 1]? = some os[os.length - 1] := List.getElem?_eq_getElem hi
    have ei : os.length - 1 = i := by omega
    have op := hO.at e1 (by rw [ei]; exact l.den)
    generalize os[os.length - 1] = ms at *
    have ea : atI (os.map nsV) (-1) = some (.tup (ms.map PV.int)) := atI_last (by rw [List.length_map, List.getElem?_map, e1]; rfl)
    try refine ⟨_, put_same, ?_⟩
    rw [ea]
    try walk_at "rd"
    exact ⟨H, ((Sub.refl H).put hr).put (((Sub.refl H).put hr).free hr2), h ms op⟩
  · exact h.elim

theorem G_law_cell_at (T : Tx K mg t) : FnOk' P w K mg base CX0 1 t.a_law_cell_at t.d_law_cell_at ["_law_script", "_law_k"] sp_cell := by
  refine okU (k := 0) T.F_law_cell_at sc_law_cell_at (fun vs H Q E h => by
    unfold sp_cell at h
    split at h
    · rfl
    · exact h.elim) (fun cdv A outer s H E B hr => ⟨_, (qss_cons (qs_if (qt_cmp op_lt vr_lt (qv 1) (qe_callB call_len_seq vc_len rfl T.b_len PySem.boot_len (qa_cons (qv 0) qa_nil)) (nomark _))
    (qss_one (qs_ret (qe_ix (qv 0) (qv 1) (fun _ _ => rfl))))
    qss_nil)
    (qss_one (qs_ret qe_int))), ?_⟩)
  intro vs H Q E h
  unfold sp_cell at h
  split at h
  · rename_i l k
    obtain ⟨⟨h0, h1⟩, ns, rfl, h⟩ := h
    walk_at "rd"
    by_cases hk : k < ns.length
    · refine cif_pos (by rw [List.length_map]; simpa using hk) ?_
      rw [atI_int h0 hk]
      exact ⟨H, Sub.refl _, h⟩
    · refine cif_neg (by rw [List.length_map]; simpa using hk) ⟨H, Sub.refl _, ?_⟩
      rw [List.getD_eq_getElem?_getD, List.getElem?_eq_none (by omega)] at h
      exact h
  · exact h.elim

theorem G_law_whole (T : Tx K mg t) : FnOk' P w K mg base CX0 1 t.a_law_whole t.d_law_whole ["_law_found"] sp_whole := by
  refine okU (k := 0) T.F_law_whole sc_law_whole (fun vs H Q E h => by
    unfold sp_whole at h
    split at h
    · rfl
    · exact h.elim) (fun cdv A outer s H E B hr => ⟨_, (qss_one (qs_ret (qe_and (qe_callB (call_isiB .int) (vc_isi .int) rfl T.b_isinstance boot_isinstance (qa_cons (qv 0) (qa_cons (qe_bty rfl T.b_int boot_int) qa_nil))) (qe_one (qe_not (qe_callB (call_isiB .bool) (vc_isi .bool) rfl T.b_isinstance boot_isinstance (qa_cons (qv 0) (qa_cons (qe_bty rfl T.b_bool boot_bool) qa_nil)))))))), ?_⟩)
  intro vs H Q E h
  unfold sp_whole at h
  split at h
  · rename_i i
    walk_at "rd"
    exact ⟨H, Sub.refl _, h⟩
  · exact h.elim

theorem G_law_digits (T : Tx K mg t) : FnOk' P w K mg base CX0 1 t.a_law_digits t.d_law_digits ["_law_script", "_law_at", "_law_parts"] sp_digits := by
  refine okU (k := 0) T.F_law_digits sc_law_digits (fun vs H Q E h => by
    unfold sp_digits at h
    split at h
    · rfl
    · exact h.elim) (fun cdv A outer s H E B hr => ⟨_, (qss_cons (qs_set (i := 3) sc_law_digits.nd rfl (by first | exact Or.inl rfl | exact Or.inr rfl) (qe_callB (call_sumI rfl) vc_sum rfl T.b_sum boot_sum (qa_cons (qe_comp (N2 := ["_law_k", "_law_script"]) (nt := 1) (js := [0]) (cok (sc := defScope s_law_digits) (by exact rfl) (by repeat (first | exact trivial | refine ⟨rfl, ?_⟩)) rfl (by rfl) (by decide +kernel) (by decide +kernel) (by rfl) (by decide +kernel) (by rfl) (by rfl)) rfl (qi_by3 rfl T.b_range (qa_cons (qv 1) (qa_cons (qe_callB (call_min2 rfl) vc_min rfl T.b_min boot_min (qa_cons (qe_callB call_len_seq vc_len rfl T.b_len PySem.boot_len (qa_cons (qv 0) qa_nil)) (qa_cons qe_int qa_nil))) (qa_cons (qv 2) qa_nil)))) (fun s0 H0 fp ps => ⟨(qg_name (i := 0) (show List.Nodup (["_law_k", "_law_script"] : List Str) by decide +kernel) rfl (by first | exact Or.inl rfl | exact Or.inr rfl)), qif_nil, (qe_ix (qv 1) (qv 0) (fun _ _ => rfl))⟩)) qa_nil)))
    (qss_cons (qs_set (i := 4) sc_law_digits.nd rfl (by first | exact Or.inl rfl | exact Or.inr rfl) (qe_lst qa_nil))
    (qss_cons (qs_set (i := 5) sc_law_digits.nd rfl (by first | exact Or.inl rfl | exact Or.inr rfl) (qe_mod (qv 3) qe_int))
    (qss_cons (qs_set (i := 6) sc_law_digits.nd rfl (by first | exact Or.inl rfl | exact Or.inr rfl) (qe_mul (qv 3) (qe_callTy call_int1 vc_int rfl T.b_int boot_int (qa_cons (qe_cmp op_ge vr_ge (qv 3) (qe_pow qe_int qe_int) (nomark _)) qa_nil))))
    (qss_cons (qs_for PassesOwn.never rfl (qi_range1 rfl T.b_range (qa_cons qe_int qa_nil)) (qg_name (i := 7) sc_law_digits.nd rfl (by first | exact Or.inl rfl | exact Or.inr rfl))
    (qss_cons (qs_set (i := 5) sc_law_digits.nd rfl (by first | exact Or.inl rfl | exact Or.inr rfl) (qe_mod (qe_add (qe_add (qe_mul (qv 5) (qv 5)) (qv 3)) (qv 7)) qe_int))
      (qss_cons (qs_if (qt_cmp op_gt vr_gt (qv 6) qe_int (nomark _))
      (qss_one (qs_expr (qe_bm PySem.F.slot_list_append PySem.F.type_list_append mt_append vm_append (qv 4) (qa_cons (qe_mod (qv 6) qe_int) qa_nil))))
      (qss_one (qs_expr (qe_bm PySem.F.slot_list_append PySem.F.type_list_append mt_append vm_append (qv 4) (qa_cons (qe_mod (qe_mod (qe_mul (qv 5) (qv 5)) qe_int) qe_int) qa_nil)))))
      (qss_one (qs_set (i := 6) sc_law_digits.nd rfl (by first | exact Or.inl rfl | exact Or.inr rfl) (qe_fdiv (qv 6) qe_int))))))
    (qss_one (qs_ret (qe_rev rfl rfl T.b_list rfl T.b_reversed boot_list boot_reversed (qv 4))))))))), ?_⟩)
  intro vs H Q E h
  unfold sp_digits at h
  split at h
  · rename_i l k n
    obtain ⟨rfl, ⟨k0, k3⟩, ns, rfl, h⟩ := h
    refine seq_abs fun R hR => ?_
    walk_at "rd"
    rw [List.length_map]
    generalize hm : (if (63 : Int) < ((ns.length : Nat) : Int) then 63 else ((ns.length : Nat) : Int)) = m
    have m0 : 0 ≤ m ∧ m ≤ 63 ∧ m ≤ ns.length := by
      rw [← hm]
      split <;> omega
    refine ⟨k0, by omega, m0.1, by omega, fun acc hacc => ?_⟩
    refine comp_pure (fun y => .int (gI ns y)) (fun _ => true) (fun σ => ∃ z, σ = [z, some (.fls (ns.map PV.int))]) (by3L_len k0 m0.2.1) (fun _ => trivial) ?_ ?_ ⟨_, rfl⟩
    · rintro y hy l σ R ⟨z, rfl⟩ hl kT kF
      obtain ⟨u, rfl, u0, u1⟩ := mem_by3 hy
      walk_at "rd"
      rw [atI_int (by omega) (by omega)]
      exact ⟨hl, by rw [put_put]; exact kT rfl _ ⟨_, rfl⟩⟩
    refine ⟨((by3L k (by3 k m)).filter fun _ => true).map (gI ns), by rw [put_same, List.map_map]; rfl, ?_⟩
    generalize (((by3L k (by3 k m)).filter fun _ => true).map (gI ns)).sum = u
    have sA := (Sub.refl H).put (o := .lst (List.map (fun y => .int (gI ns y)) ((by3L k (by3 k m)).filter fun _ => true))) hacc
    generalize put H acc (.lst (List.map (fun y => .int (gI ns y)) ((by3L k (by3 k m)).filter fun _ => true))) = H1 at *
    subst hR
    refine seq_abs fun R hR => ?_
    walk_at "rd"
    refine ⟨small_size (by decide), fun p hp => ?_⟩
    subst hR
    refine seq_abs fun R hR => ?_
    walk_at "rd"
    refine ⟨by decide, ?_⟩
    subst hR
    have f0 := fm (a := u) (b := 2147483629) (by decide)
    generalize u.fmod 2147483629 = fi at *
    refine seq_abs fun R hR => ?_
    walk_at "rd"
    refine ⟨⟨by decide, by decide, by decide⟩, ?_⟩
    have hb : ∀ b : Bool, CMulN u (b2n b) := fun b => .inl (.inr (by cases b <;> decide))
    refine ⟨hb _, ?_⟩
    generalize u * b2n _ = rs
    subst hR
    have hpH : H p = none := sA.free hp
    have sB := sA.put (o := .lst []) hpH
    refine seq_abs fun R hR => ?_
    walk_at "rd"
    refine ⟨⟨by decide, by decide⟩, ?_⟩
    refine for_rngD (fun i σ H2 => ∃ fi rs z xs, σ = [some (.fls (ns.map PV.int)), some (.int k), some (.int 3), some (.int u), some (.ref p), some (.int fi), some (.int rs), z] ∧ (0 ≤ fi ∧ fi < 2147483629) ∧ U.Sub H H2 ∧ H2 p = some (.lst (xs.map PV.int)) ∧ xs.length = i ∧ Nn xs) ?_ ?_ ⟨fi, rs, none, [], rfl, f0, sB, put_same, rfl, fun x hx => by cases hx⟩
    · rintro σ H2 ⟨fi, rs, z, xs, rfl, hf, s2, hp2, hl, nn⟩
      refine ⟨trivial, ?_⟩
      subst hR
      walk_at "rd"
      refine ⟨_, hp2, fun r hr => ⟨put H r (.lst (xs.reverse.map PV.int)), ?_, h r xs.reverse (s2.free hr) (by rw [List.length_reverse, hl]; decide) fun x hx => nn x (List.mem_reverse.mp hx)⟩⟩
      rw [← List.map_reverse]
      exact sub_put (s2.put (s2.free hr)) put_same
    · rintro D i σ H2 hi ⟨fi, rs, z, xs, rfl, ⟨f0, f1⟩, s2, hp2, hl, nn⟩ kk
      refine ⟨trivial, ?_⟩
      simp only [vName, List.set_cons_zero, List.set_cons_succ]
      refine seq_abs fun R hR => ?_
      walk_at "rd"
      refine ⟨.inl (.inl ⟨by omega, by omega⟩), by decide, ?_⟩
      subst hR
      have g0 := fm (a := fi * fi + u + ((i : Nat) : Int)) (b := 2147483629) (by decide)
      generalize (fi * fi + u + ((i : Nat) : Int)).fmod 2147483629 = fj at *
      refine seq_abs fun R hR => ?_
      have lz : (xs.map PV.int).length < sizeLine := by rw [List.length_map]; exact small1000 (by omega)
      have last : ∀ x, 0 ≤ x → R D [some (.fls (ns.map PV.int)), some (.int k), some (.int 3), some (.int u), some (.ref p), some (.int fj), some (.int rs), some (.int (i : Nat))] (put H2 p (.lst (xs.map PV.int ++ [.int x]))) := fun x hx => by
        subst hR
        walk_at "rd"
        refine ⟨cdvB (by decide) (by decide), kk _ _ ⟨fj, _, _, xs ++ [x], rfl, g0, s2.put hpH, by rw [put_same, List.map_append]; rfl, by rw [List.length_append, hl]; rfl, nn_app nn hx⟩⟩
      walk_at "rd"
      refine cif_by (fun q => ?_) (fun q => ?_)
      · exact ⟨⟨_, hp2⟩, by decide, _, hp2, lz, last _ (fm (by decide)).1⟩
      · exact ⟨⟨_, hp2⟩, .inl (.inl ⟨by omega, by omega⟩), by decide, by decide, _, hp2, lz, last _ (fm (by decide)).1⟩
  · exact h.elim

theorem G_law_names_by (T : Tx K mg t) : FnOk' P w K mg base CX0 1 t.a_law_names_by t.d_law_names_by ["_law_digit", "_law_count"] sp_nb := by
  refine okU (k := 0) T.F_law_names_by sc_law_names_by (fun vs H Q E h => by
    unfold sp_nb at h
    split at h
    · rfl
    · exact h.elim) (fun cdv A outer s H E B hr => ⟨_, (qss_one (qs_ret (qe_callTy call_tuple_of vc_tuple rfl T.b_tuple boot_tuple (qa_cons (qe_comp (N2 := ["_law_name", "_law_digit"]) (nt := 1) (js := [0]) (cok (sc := defScope s_law_names_by) (by exact rfl) (by repeat (first | exact trivial | refine ⟨rfl, ?_⟩)) rfl (by rfl) (by decide +kernel) (by decide +kernel) (by rfl) (by decide +kernel) (by rfl) (by rfl)) rfl (qi_range1 rfl T.b_range (qa_cons (qv 1) qa_nil)) (fun s0 H0 fp ps => ⟨(qg_name (i := 0) (show List.Nodup (["_law_name", "_law_digit"] : List Str) by decide +kernel) rfl (by first | exact Or.inl rfl | exact Or.inr rfl)), (qif_one (qt_cmp (op_eqU hr.units) vr_eq (qe_mod (qe_shr (qv 1) (qv 0)) qe_int) qe_int (nomark _))), (qv 0)⟩)) qa_nil)))), ?_⟩)
  intro vs H Q E h
  unfold sp_nb at h
  split at h
  · rename_i n c
    obtain ⟨⟨n0, c1, c6⟩, h⟩ := h
    walk_at "rd"
    refine ⟨⟨by omega, by omega⟩, fun acc hacc => ?_⟩
    rw [rng_ul]
    refine comp_pure (fun y => y) (onI fun u => (n / 2 ^ u.toNat).fmod 2 == 1) (fun σ => ∃ z, σ = [z, some (.int n)]) (by rw [List.length_map, ul_len]; omega) (fun _ => trivial) ?_ ?_ ⟨_, rfl⟩
    · rintro y hy l σ R ⟨z, rfl⟩ hl kT kF
      obtain ⟨u, hu, rfl⟩ := List.mem_map.mp hy
      have u0 := (mem_ulN.mp hu).1
      dsimp only [onI] at kT kF
      walk_at "rd"
      refine ⟨u0, by decide, cif_by (fun q => ?_) (fun q => ?_)⟩
      · exact ⟨hl, by rw [put_put]; exact kT q _ ⟨_, rfl⟩⟩
      · exact kF q _ ⟨_, rfl⟩
    rw [ints_filter]
    refine ⟨_, put_same, H, Sub.put (Sub.refl _) hacc, h _ ⟨(ul_up c).filter _, fun x hx => ?_⟩⟩
    have := mem_ulN.mp (List.mem_filter.mp hx).1
    omega
  · exact h.elim

theorem G_law_grown0 (T : Tx K mg t) : FnOk' P w K mg base CX0 (1) t.a_law_grown t.d_law_grown ["_law_purse", "_law_count", "_law_down"] (sp_grown 0) := by
  refine okU (k := 0) T.F_law_grown sc_law_grown (fun vs H Q E h => by
    unfold sp_grown at h
    split at h
    · rfl
    · exact h.elim) (fun cdv A outer s H E B hr => ⟨_, qss_never, ?_⟩)
  intro vs H Q E h
  unfold sp_grown at h
  split at h
  · obtain ⟨⟨hd, hd0⟩, _⟩ := h
    omega
  · exact h.elim
theorem G_law_grownS (T : Tx K mg t) {n : Nat} (ih : FnOk' P w K mg base CX0 (n + 1) t.a_law_grown t.d_law_grown ["_law_purse", "_law_count", "_law_down"] (sp_grown n)) : FnOk' P w K mg base CX0 (n + 2) t.a_law_grown t.d_law_grown ["_law_purse", "_law_count", "_law_down"] (sp_grown (n + 1)) := by
  refine okU (k := n + 1) T.F_law_grown sc_law_grown (fun vs H Q E h => by
    unfold sp_grown at h
    split at h
    · rfl
    · exact h.elim) (fun cdv A outer s H E B hr => ⟨_, (qss_cons (qs_set (i := 3) sc_law_grown.nd rfl (by first | exact Or.inl rfl | exact Or.inr rfl) (qe_bm0 PySem.F.slot_list_pop PySem.F.type_list_pop mt_pop vm_pop hl_pop (qv 0)))
    (qss_cons (qs_set (i := 4) sc_law_grown.nd rfl (by first | exact Or.inl rfl | exact Or.inr rfl) (qe_mod (qv 3) qe_int))
    (qss_cons (qs_set (i := 5) sc_law_grown.nd rfl (by first | exact Or.inl rfl | exact Or.inr rfl) (qe_call (G_law_names_by T) (hr.mono (by omega)) rfl T.g_law_names_by T.F_law_names_by.kp T.B_law_names_by (qa_cons (qe_fdiv (qv 3) qe_int) (qa_cons (qv 1) qa_nil))))
    (qss_cons (qs_if (qt_bool (qw_or (qt_cmp (op_eqU hr.units) vr_eq (qv 2) qe_int (nomark _)) (qw_or1 (qt_cmp op_lt vr_lt (qv 4) qe_int (nomark _)))))
    (qss_cons (qs_if (qt_cmp (op_eqU hr.units) vr_eq (qe_mod (qe_fdiv (qv 3) qe_int) qe_int) qe_int (nomark _))
      (qss_one (qs_ret (qe_tup (qa_cons qe_str qa_nil))))
      qss_nil)
      (qss_one (qs_ret (qe_tup (qa_cons qe_str (qa_cons (qv 5) qa_nil))))))
    qss_nil)
    (qss_cons (qs_if (qt_cmp op_lt vr_lt (qv 4) qe_int (nomark _))
    (qss_cons (qs_if (qt_cmp (op_eqU hr.units) vr_eq (qv 5) (qe_tup qa_nil) (nomark _))
      (qss_one (qs_set (i := 5) sc_law_grown.nd rfl (by first | exact Or.inl rfl | exact Or.inr rfl) (qe_tup (qa_cons (qe_mod (qe_fdiv (qv 3) qe_int) (qv 1)) qa_nil))))
      qss_nil)
      (qss_one (qs_ret (qe_tup (qa_cons qe_str (qa_cons (qv 5) (qa_cons (qe_call ih (hr.mono (by omega)) rfl T.g_law_grown T.F_law_grown.kp T.B_law_grown (qa_cons (qv 0) (qa_cons (qv 1) (qa_cons (qe_sub (qv 2) qe_int) qa_nil)))) qa_nil)))))))
    qss_nil)
    (qss_cons (qs_set (i := 6) sc_law_grown.nd rfl (by first | exact Or.inl rfl | exact Or.inr rfl) (qe_call ih (hr.mono (by omega)) rfl T.g_law_grown T.F_law_grown.kp T.B_law_grown (qa_cons (qv 0) (qa_cons (qv 1) (qa_cons (qe_sub (qv 2) qe_int) qa_nil)))))
    (qss_one (qs_ret (qe_tup (qa_cons (qe_ix (qe_lst (qa_cons qe_str (qa_cons qe_str qa_nil))) (qe_mod (qe_fdiv (qv 3) qe_int) qe_int) (fun _ _ => rfl)) (qa_cons (qv 6) (qa_cons (qe_call ih (hr.mono (by omega)) rfl T.g_law_grown T.F_law_grown.kp T.B_law_grown (qa_cons (qv 0) (qa_cons (qv 1) (qa_cons (qe_sub (qv 2) qe_int) qa_nil)))) qa_nil)))))))))))), ?_⟩)
  intro vs H Q E h
  unfold sp_grown at h
  split at h
  · rename_i p c d
    obtain ⟨⟨hd, hd0⟩, ⟨c1, c6⟩, xs, hp, nn, hl, h⟩ := h
    have nl : need (n + 1) = 2 * need n + 1 := rfl
    obtain ⟨dg, e1, e2, e3, e4, e5⟩ := pop_int (xs := xs) (by omega)
    have dg0 := nn dg e2
    have nny : Nn xs.dropLast := fun z hz => nn z (e5 z hz)
    generalize xs.dropLast = ys at *
    refine seq_abs fun R hR => ?_
    walk_at "rd"
    refine ⟨_, _, hp, e1, ?_⟩
    rw [e3]
    subst hR
    refine seq_abs fun R hR => ?_
    walk_at "rd"
    refine ⟨by decide, ?_⟩
    subst hR
    generalize dg.fmod 8 = wy at *
    refine seq_abs fun R hR => ?_
    walk_at "rd"
    refine ⟨cdvB (by decide) (by decide), ⟨fd dg0 (by decide), c1, c6⟩, fun L hL => ?_⟩
    subst hR
    refine seq_abs fun R hR => ?_
    have hone : ∃ H3, U.Sub H3 (put H p (.lst (ys.map PV.int))) ∧ Q (.tup [.str "one"]) H3 := ⟨_, Sub.refl _, h .one ys trivial (by simp only [dp]; omega) (by simp only [sz]; omega) nny (by omega)⟩
    have hseen : ∃ H3, U.Sub H3 (put H p (.lst (ys.map PV.int))) ∧ Q (.tup [.str "seen", .tup (L.map PV.int)]) H3 := ⟨_, Sub.refl _, h (.seen L) ys hL (by simp only [dp]; omega) (by simp only [sz]; omega) nny (by omega)⟩
    walk_at "rd"
    have leaf := (⟨cdvB (by decide) (by decide), by decide, cif_by (fun _ => ⟨small_size (by decide), hone⟩) (fun _ => ⟨small_size (by decide), hseen⟩)⟩ : CDivB dg 8 ∧ (11 : Int) ≠ 0 ∧ cif (((dg.fdiv 8).fmod 11) == 5) (1 ≤ sizeLine ∧ ∃ H3, U.Sub H3 (put H p (.lst (ys.map PV.int))) ∧ Q (.tup [.str "one"]) H3) (2 ≤ sizeLine ∧ ∃ H3, U.Sub H3 (put H p (.lst (ys.map PV.int))) ∧ Q (.tup [.str "seen", .tup (L.map PV.int)]) H3))
    refine cif_by (fun _ => leaf) (fun q1 => cif_by (fun _ => leaf) (fun q2 => ?_))
    have dn : d ≠ 0 := by simpa using q1
    subst hR
    have fin : ∀ M f zs, Nm M → Ok f → dp f < n → sz f ≤ need n → Nn zs → ys.length ≤ zs.length + need n → ∃ H3, U.Sub H3 (put H p (.lst (zs.map PV.int))) ∧ Q (.tup [.str "sum", .tup (M.map PV.int), fV f]) H3 := fun M f zs hM of h1 h2 nz h3 =>
      ⟨_, Sub.refl _, h (.sum M f) zs ⟨hM, of⟩ (by simp only [dp]; omega) (by simp only [sz]; omega) nz (by omega)⟩
    refine seq_abs fun R hR => ?_
    walk_at "rd"
    refine cif_by (fun q3 => ?_) (fun q3 => ?_)
    · refine ⟨small_size (by decide), flat_ints, cif_by (fun _ => ?_) (fun _ => ?_)⟩
      · have fc := fm (a := dg.fdiv 512) (b := c) (by omega)
        refine ⟨cdvB (by decide) (by decide), by omega, small_size (by decide), ⟨by omega, by omega⟩, ⟨c1, c6⟩, ys, rfl, nny, by omega, fun f zs of h1 h2 nz h3 => ?_⟩
        try rw [put_put]
        exact ⟨small_size (by decide), fin [_] f zs (nm_one ⟨fc.1, by omega⟩) of h1 h2 nz h3⟩
      · refine ⟨⟨by omega, by omega⟩, ⟨c1, c6⟩, ys, rfl, nny, by omega, fun f zs of h1 h2 nz h3 => ?_⟩
        try rw [put_put]
        exact ⟨small_size (by decide), fin L f zs hL of h1 h2 nz h3⟩
    · subst hR
      refine seq_abs fun R hR => ?_
      walk_at "rd"
      refine ⟨⟨by omega, by omega⟩, ⟨c1, c6⟩, ys, rfl, nny, by omega, fun f1 zs of1 d1 z1 nz1 l1 => ?_⟩
      try rw [put_put]
      subst hR
      walk_at "rd"
      refine ⟨small_size (by decide), fun r hr => ?_⟩
      try walk_at "rd"
      refine ⟨cdvB (by decide) (by decide), by decide, ?_⟩
      have npr : p ≠ r := fun e => by subst e; rw [put_same] at hr; cases hr
      have hrH : H r = none := by rw [put_ne npr.symm] at hr; exact hr
      have f2 := fm (a := dg.fdiv 512) (b := 2) (by decide)
      have sx : ∀ zs2 : List Int, U.Sub (put H p (.lst (zs2.map PV.int))) (put (put (put H p (.lst (zs.map PV.int))) r (.lst [.str "times", .str "over"])) p (.lst (zs2.map PV.int))) := fun zs2 => sub_putx (fun a u ha hu => by
        have na : a ≠ r := ne_none hu hrH
        rw [put_ne ha, put_ne na, put_ne ha]; exact hu) put_same
      rcases ix2 f2.1 f2.2 with ⟨_, e⟩ | ⟨_, e⟩
      · rw [e]
        try walk_at "rd"
        refine ⟨⟨by omega, by omega⟩, ⟨c1, c6⟩, zs, (put_ne npr).trans put_same, nz1, by omega, fun f2 zs2 of2 d2 z2 nz2 l2 => ⟨small_size (by decide), _, sx zs2, ?_⟩⟩
        exact h (.times f1 f2) zs2 ⟨of1, of2⟩ (by simp only [dp]; omega) (by simp only [sz]; omega) nz2 (by omega)
      · rw [e]
        try walk_at "rd"
        refine ⟨⟨by omega, by omega⟩, ⟨c1, c6⟩, zs, (put_ne npr).trans put_same, nz1, by omega, fun f2 zs2 of2 d2 z2 nz2 l2 => ⟨small_size (by decide), _, sx zs2, ?_⟩⟩
        exact h (.over f1 f2) zs2 ⟨of1, of2⟩ (by simp only [dp]; omega) (by simp only [sz]; omega) nz2 (by omega)
  · exact h.elim
theorem G_law_grown (T : Tx K mg t) : ∀ n, FnOk' P w K mg base CX0 (n + 1) t.a_law_grown t.d_law_grown ["_law_purse", "_law_count", "_law_down"] (sp_grown n)
  | 0 => G_law_grown0 T
  | n + 1 => G_law_grownS T (G_law_grown T n)

theorem G_law_open0 (T : Tx K mg t) : FnOk' P w K mg base CX0 (1) t.a_law_open t.d_law_open ["_law_formula"] (sp_open 0) := by
  refine okU (k := 0) T.F_law_open sc_law_open (fun vs H Q E h => by
    unfold sp_open at h
    split at h
    · rfl
    · exact h.elim) (fun cdv A outer s H E B hr => ⟨_, qss_never, ?_⟩)
  intro vs H Q E h
  unfold sp_open at h
  split at h
  · obtain ⟨f, _, hd, _⟩ := h
    omega
  · exact h.elim
theorem G_law_openS (T : Tx K mg t) {n : Nat} (ih : FnOk' P w K mg base CX0 (n + 1) t.a_law_open t.d_law_open ["_law_formula"] (sp_open n)) : FnOk' P w K mg base CX0 (n + 2) t.a_law_open t.d_law_open ["_law_formula"] (sp_open (n + 1)) := by
  refine okU (k := n + 1) T.F_law_open sc_law_open (fun vs H Q E h => by
    unfold sp_open at h
    split at h
    · rfl
    · exact h.elim) (fun cdv A outer s H E B hr => ⟨_, (qss_cons (qs_if (qt_cmp (op_eqU hr.units) vr_eq (qe_ix (qv 0) qe_int (fun _ _ => rfl)) qe_str (nomark _))
    (qss_one (qs_ret (qe_tup qa_nil)))
    qss_nil)
    (qss_cons (qs_if (qt_cmp (op_eqU hr.units) vr_eq (qe_ix (qv 0) qe_int (fun _ _ => rfl)) qe_str (nomark _))
    (qss_one (qs_ret (qe_ix (qv 0) qe_int (fun _ _ => rfl))))
    qss_nil)
    (qss_cons (qs_if (qt_cmp (op_eqU hr.units) vr_eq (qe_ix (qv 0) qe_int (fun _ _ => rfl)) qe_str (nomark _))
    (qss_one (qs_ret (qe_callTy call_tuple_of vc_tuple rfl T.b_tuple boot_tuple (qa_cons (qe_comp (N2 := ["_law_name", "_law_formula"]) (nt := 1) (js := [0]) (cok (sc := defScope s_law_open) (by exact rfl) (by repeat (first | exact trivial | refine ⟨rfl, ?_⟩)) rfl (by rfl) (by decide +kernel) (by decide +kernel) (by rfl) (by decide +kernel) (by rfl) (by rfl)) rfl (qi_seq (qe_call ih (hr.mono (by omega)) rfl T.g_law_open T.F_law_open.kp T.B_law_open (qa_cons (qe_ix (qv 0) qe_int (fun _ _ => rfl)) qa_nil))) (fun s0 H0 fp ps => ⟨(qg_name (i := 0) (show List.Nodup (["_law_name", "_law_formula"] : List Str) by decide +kernel) rfl (by first | exact Or.inl rfl | exact Or.inr rfl)), (qif_one (qt_cmp (op_notInU hr.units) vr_in (qv 0) (qe_ix (qv 1) qe_int (fun _ _ => rfl)) (by with_unfolding_all rfl))), (qv 0)⟩)) qa_nil))))
    qss_nil)
    (qss_cons (qs_set (i := 1) sc_law_open.nd rfl (by first | exact Or.inl rfl | exact Or.inr rfl) (qe_catT (qe_call ih (hr.mono (by omega)) rfl T.g_law_open T.F_law_open.kp T.B_law_open (qa_cons (qe_ix (qv 0) qe_int (fun _ _ => rfl)) qa_nil)) (qe_call ih (hr.mono (by omega)) rfl T.g_law_open T.F_law_open.kp T.B_law_open (qa_cons (qe_ix (qv 0) qe_int (fun _ _ => rfl)) qa_nil))))
    (qss_one (qs_ret (qe_callTy call_tuple_of vc_tuple rfl T.b_tuple boot_tuple (qa_cons (qe_comp (N2 := ["_law_name", "_law_both"]) (nt := 1) (js := [1]) (cok (sc := defScope s_law_open) (by exact rfl) (by repeat (first | exact trivial | refine ⟨rfl, ?_⟩)) rfl (by rfl) (by decide +kernel) (by decide +kernel) (by rfl) (by decide +kernel) (by rfl) (by rfl)) rfl (qi_range1 rfl T.b_range (qa_cons qe_int qa_nil)) (fun s0 H0 fp ps => ⟨(qg_name (i := 0) (show List.Nodup (["_law_name", "_law_both"] : List Str) by decide +kernel) rfl (by first | exact Or.inl rfl | exact Or.inr rfl)), (qif_one (qt_cmp (op_inU hr.units) vr_in (qv 0) (qv 1) (by with_unfolding_all rfl))), (qv 0)⟩)) qa_nil)))))))), ?_⟩)
  intro vs H Q E h
  unfold sp_open at h
  split at h
  · rename_i v
    obtain ⟨f, rfl, hd, ok, h⟩ := h
    cases f with
    | one =>
      unfold fV
      walk_at "rd"
      exact cif_pos (by decide) ⟨small_size (by decide), H, Sub.refl _, h [] ⟨.nil, fun x => by simp [Op]⟩ (by simp)⟩
    | seen ns =>
      unfold fV
      walk_at "rd"
      exact cif_neg (by decide) (cif_pos (by decide) ⟨H, Sub.refl _, h ns ⟨ok.1, fun x => Iff.rfl⟩ ok.2⟩)
    | sum ns f =>
      unfold fV
      refine seq_abs fun R hR => ?_
      walk_at "rd"
      refine cif_neg (by decide) ?_
      subst hR
      refine seq_abs fun R hR => ?_
      walk_at "rd"
      refine cif_neg (by decide) ?_
      subst hR
      walk_at "rd"
      refine cif_pos (by decide) ?_
      have da := hd
      simp only [dp] at da
      refine ⟨f, rfl, by omega, ok.2, fun ms o1 l1 acc hacc => ?_⟩
      have n1 := isop_len o1 ok.2
      refine comp_pure (fun y => y) (onI fun u => !decide (u ∈ ns)) (fun σ => ∃ z, σ = [z, some (.tup [.str "sum", .tup (ns.map PV.int), fV f])]) (by rw [List.length_map]; omega) (fun _ => trivial) ?_ ?_ ⟨_, rfl⟩
      · rintro y hy l σ R ⟨z, rfl⟩ hl kT kF
        obtain ⟨u, hu, rfl⟩ := List.mem_map.mp hy
        dsimp only [onI] at kT kF
        walk_at "rd"
        rw [any_int]
        refine ⟨flat_ints, cif_by (fun q => ?_) (fun q => ?_)⟩
        · exact ⟨hl, by rw [put_put]; exact kT q _ ⟨_, rfl⟩⟩
        · exact kF q _ ⟨_, rfl⟩
      rw [ints_filter]
      refine ⟨_, put_same, H, Sub.put (Sub.refl _) hacc, h _ ⟨o1.1.filter _, fun x => ?_⟩ fun x hx => l1 x (List.mem_filter.mp hx).1⟩
      rw [List.mem_filter, o1.2]
      simp [Op]
    | times a b =>
      unfold fV
      refine seq_abs fun R hR => ?_
      walk_at "rd"
      refine cif_neg (by decide) ?_
      subst hR
      refine seq_abs fun R hR => ?_
      walk_at "rd"
      refine cif_neg (by decide) ?_
      subst hR
      refine seq_abs fun R hR => ?_
      walk_at "rd"
      refine cif_neg (by decide) ?_
      subst hR
      refine seq_abs fun R hR => ?_
      walk_at "rd"
      have da := hd
      simp only [dp] at da
      refine ⟨a, rfl, by omega, ok.1, fun ms1 o1 l1 => ⟨b, rfl, by omega, ok.2, fun ms2 o2 l2 => ?_⟩⟩
      have n1 := isop_len o1 ok.1
      have n2 := isop_len o2 ok.2
      try walk_at "rd"
      rw [List.length_map, List.length_map]
      refine ⟨small_size (by omega), ?_⟩
      rw [← List.map_append]
      subst hR
      walk_at "rd"
      refine ⟨⟨by decide, by decide⟩, fun acc hacc => ?_⟩
      rw [rng_ul]
      refine comp_pure (fun y => y) (onI fun u => decide (u ∈ ms1 ++ ms2)) (fun σ => ∃ z, σ = [z, some (.tup ((ms1 ++ ms2).map PV.int))]) (by rw [List.length_map, ul_len]; decide) (fun _ => trivial) ?_ ?_ ⟨_, rfl⟩
      · rintro y hy l σ R ⟨z, rfl⟩ hl kT kF
        obtain ⟨u, hu, rfl⟩ := List.mem_map.mp hy
        dsimp only [onI] at kT kF
        walk_at "rd"
        rw [any_int]
        refine ⟨flat_ints, cif_by (fun q => ?_) (fun q => ?_)⟩
        · exact ⟨hl, by rw [put_put]; exact kT q _ ⟨_, rfl⟩⟩
        · exact kF q _ ⟨_, rfl⟩
      rw [ints_filter]
      refine ⟨_, put_same, H, Sub.put (Sub.refl _) hacc, h _ ⟨(ul_up 6).filter _, fun x => ?_⟩ fun x hx => ?_⟩
      · rw [List.mem_filter, mem_ulN, decide_eq_true_eq, List.mem_append, o1.2, o2.2]
        exact ⟨fun q => q.2, fun q => ⟨op_lo (f := .times a b) ok q, q⟩⟩
      · have := mem_ulN.mp (List.mem_filter.mp hx).1
        omega
    | over a b =>
      unfold fV
      refine seq_abs fun R hR => ?_
      walk_at "rd"
      refine cif_neg (by decide) ?_
      subst hR
      refine seq_abs fun R hR => ?_
      walk_at "rd"
      refine cif_neg (by decide) ?_
      subst hR
      refine seq_abs fun R hR => ?_
      walk_at "rd"
      refine cif_neg (by decide) ?_
      subst hR
      refine seq_abs fun R hR => ?_
      walk_at "rd"
      have da := hd
      simp only [dp] at da
      refine ⟨a, rfl, by omega, ok.1, fun ms1 o1 l1 => ⟨b, rfl, by omega, ok.2, fun ms2 o2 l2 => ?_⟩⟩
      have n1 := isop_len o1 ok.1
      have n2 := isop_len o2 ok.2
      try walk_at "rd"
      rw [List.length_map, List.length_map]
      refine ⟨small_size (by omega), ?_⟩
      rw [← List.map_append]
      subst hR
      walk_at "rd"
      refine ⟨⟨by decide, by decide⟩, fun acc hacc => ?_⟩
      rw [rng_ul]
      refine comp_pure (fun y => y) (onI fun u => decide (u ∈ ms1 ++ ms2)) (fun σ => ∃ z, σ = [z, some (.tup ((ms1 ++ ms2).map PV.int))]) (by rw [List.length_map, ul_len]; decide) (fun _ => trivial) ?_ ?_ ⟨_, rfl⟩
      · rintro y hy l σ R ⟨z, rfl⟩ hl kT kF
        obtain ⟨u, hu, rfl⟩ := List.mem_map.mp hy
        dsimp only [onI] at kT kF
        walk_at "rd"
        rw [any_int]
        refine ⟨flat_ints, cif_by (fun q => ?_) (fun q => ?_)⟩
        · exact ⟨hl, by rw [put_put]; exact kT q _ ⟨_, rfl⟩⟩
        · exact kF q _ ⟨_, rfl⟩
      rw [ints_filter]
      refine ⟨_, put_same, H, Sub.put (Sub.refl _) hacc, h _ ⟨(ul_up 6).filter _, fun x => ?_⟩ fun x hx => ?_⟩
      · rw [List.mem_filter, mem_ulN, decide_eq_true_eq, List.mem_append, o1.2, o2.2]
        exact ⟨fun q => q.2, fun q => ⟨op_lo (f := .times a b) ok q, q⟩⟩
      · have := mem_ulN.mp (List.mem_filter.mp hx).1
        omega
  · exact h.elim
theorem G_law_open (T : Tx K mg t) : ∀ n, FnOk' P w K mg base CX0 (n + 1) t.a_law_open t.d_law_open ["_law_formula"] (sp_open n)
  | 0 => G_law_open0 T
  | n + 1 => G_law_openS T (G_law_open T n)

theorem G_law_laid (T : Tx K mg t) : FnOk' P w K mg base CX0 2 t.a_law_laid t.d_law_laid ["_law_formula", "_law_purse", "_law_count"] sp_ll := by
  refine okU (k := 1) T.F_law_laid sc_law_laid (fun vs H Q E h => by
    unfold sp_ll at h
    split at h
    · rfl
    · exact h.elim) (fun cdv A outer s H E B hr => ⟨_, (qss_cons (qs_for PassesOwn.never rfl (qi_range1 rfl T.b_range (qa_cons (qe_mod (qe_bm0 PySem.F.slot_list_pop PySem.F.type_list_pop mt_pop vm_pop hl_pop (qv 1)) qe_int) qa_nil)) (qg_name (i := 3) sc_law_laid.nd rfl (by first | exact Or.inl rfl | exact Or.inr rfl))
    (qss_cons (qs_set (i := 4) sc_law_laid.nd rfl (by first | exact Or.inl rfl | exact Or.inr rfl) (qe_bm0 PySem.F.slot_list_pop PySem.F.type_list_pop mt_pop vm_pop hl_pop (qv 1)))
      (qss_cons (qs_set (i := 5) sc_law_laid.nd rfl (by first | exact Or.inl rfl | exact Or.inr rfl) (qe_call (G_law_names_by T) (hr.mono (by decide)) rfl T.g_law_names_by T.F_law_names_by.kp T.B_law_names_by (qa_cons (qe_fdiv (qv 4) qe_int) (qa_cons (qv 2) qa_nil))))
      (qss_one (qs_if (qt_bool (qw_and (qt_cmp (op_eqU hr.units) vr_eq (qe_mod (qv 4) qe_int) qe_int (nomark _)) (qw_and1 (qt_cmp (op_neU hr.units) vr_eq (qv 5) (qe_tup qa_nil) (nomark _)))))
      (qss_one (qs_set (i := 0) sc_law_laid.nd rfl (by first | exact Or.inl rfl | exact Or.inr rfl) (qe_tup (qa_cons qe_str (qa_cons (qv 5) (qa_cons (qv 0) qa_nil))))))
      (qss_one (qs_if (qt_cmp (op_eqU hr.units) vr_eq (qe_mod (qv 4) qe_int) qe_int (nomark _))
        (qss_one (qs_set (i := 0) sc_law_laid.nd rfl (by first | exact Or.inl rfl | exact Or.inr rfl) (qe_tup (qa_cons qe_str (qa_cons (qe_tup (qa_cons qe_str (qa_cons (qv 5) qa_nil))) (qa_cons (qv 0) qa_nil))))))
        (qss_one (qs_if (qt_cmp (op_eqU hr.units) vr_eq (qe_mod (qv 4) qe_int) qe_int (nomark _))
          (qss_one (qs_set (i := 0) sc_law_laid.nd rfl (by first | exact Or.inl rfl | exact Or.inr rfl) (qe_tup (qa_cons qe_str (qa_cons (qv 0) (qa_cons (qe_tup (qa_cons qe_str (qa_cons (qv 5) qa_nil))) qa_nil))))))
          (qss_one (qs_set (i := 0) sc_law_laid.nd rfl (by first | exact Or.inl rfl | exact Or.inr rfl) (qe_tup (qa_cons qe_str (qa_cons (qv 0) (qa_cons (qe_tup (qa_cons qe_str qa_nil)) qa_nil)))))))))))))))
    (qss_one (qs_ret (qv 0)))), ?_⟩)
  intro vs H Q E h
  unfold sp_ll at h
  split at h
  · rename_i v p c
    obtain ⟨f, xs, rfl, hd, ok, hz, ⟨c1, c6⟩, hp, nn, hl, h⟩ := h
    obtain ⟨dg, e1, e2, e3, e4, e5⟩ := pop_int (xs := xs) (by omega)
    have nny : Nn xs.dropLast := fun z hz => nn z (e5 z hz)
    generalize xs.dropLast = ys at *
    walk_at "rd"
    refine ⟨_, _, hp, e1, by decide, ?_⟩
    rw [e3]
    have m41 := fm (a := dg) (b := 41) (by decide)
    generalize dg.fmod 41 = m at *
    refine ⟨⟨by omega, by omega⟩, ?_⟩
    refine for_rngD (fun i σ H2 => ∃ g zs z1 z2 z3, σ = [some (fV g), some (.ref p), some (.int c), z1, z2, z3] ∧ (∀ a u, a ≠ p → H a = some u → H2 a = some u) ∧ H2 p = some (.lst (zs.map PV.int)) ∧ Ok g ∧ dp g ≤ 4 + i ∧ sz g ≤ 31 + 2 * i ∧ Nn zs ∧ 40 ≤ zs.length + i) ?_ ?_ ⟨f, ys, none, none, none, rfl, fun a u ha hu => (put_ne ha).trans hu, put_same, ok, by omega, by omega, nny, by omega⟩
    · rintro σ H2 ⟨g, zs, z1, z2, z3, rfl, s2, hp2, og, dg, zg, nz, lz⟩
      refine ⟨trivial, ?_⟩
      walk_at "rd"
      exact ⟨_, sub_putx s2 hp2, h g zs og (by omega) (by omega)⟩
    · rintro D i σ H2 hi ⟨g, zs, z1, z2, z3, rfl, s2, hp2, og, dg, zg, nz, lz⟩ kk
      refine ⟨trivial, ?_⟩
      obtain ⟨dt, e1, e2, e3, e4, e5⟩ := pop_int (xs := zs) (by omega)
      have dt0 := nz dt e2
      have nny : Nn zs.dropLast := fun z hz => nz z (e5 z hz)
      generalize zs.dropLast = ws at *
      simp only [vName, List.set_cons_zero, List.set_cons_succ]
      have s3 : ∀ a u, a ≠ p → H a = some u → put H2 p (.lst (ws.map PV.int)) a = some u := fun a u ha hu => (put_ne ha).trans (s2 a u ha hu)
      have hp3 : put H2 p (.lst (ws.map PV.int)) p = some (.lst (ws.map PV.int)) := put_same
      refine seq_abs fun R hR => ?_
      walk_at "rd"
      refine ⟨_, _, hp2, e1, ?_⟩
      rw [e3]
      generalize put H2 p (.lst (ws.map PV.int)) = H3 at *
      subst hR
      refine seq_abs fun R hR => ?_
      walk_at "rd"
      refine ⟨cdvB (by decide) (by decide), ⟨fd dt0 (by decide), c1, c6⟩, fun L hL => ?_⟩
      subst hR
      have last : ∀ g' z1 z2 z3, Ok g' → dp g' ≤ dp g + 1 → sz g' ≤ sz g + 2 → D.nx [some (fV g'), some (.ref p), some (.int c), z1, z2, z3] H3 := fun g' z1 z2 z3 o' d' z' => kk _ _ ⟨g', ws, z1, z2, z3, rfl, s3, hp3, o', by omega, by omega, nny, by omega⟩
      have cS := last (.sum L g) (some (.int (0 + (i : Nat)))) (some (.int dt)) (some (.tup (L.map PV.int))) ⟨hL, og⟩ (by simp only [dp]; omega) (by simp only [sz]; omega)
      have cT := last (.times (.seen L) g) (some (.int (0 + (i : Nat)))) (some (.int dt)) (some (.tup (L.map PV.int))) ⟨hL, og⟩ (by simp only [dp]; omega) (by simp only [sz]; omega)
      have cO := last (.over g (.seen L)) (some (.int (0 + (i : Nat)))) (some (.int dt)) (some (.tup (L.map PV.int))) ⟨og, hL⟩ (by simp only [dp]; omega) (by simp only [sz]; omega)
      have cN := last (.times g .one) (some (.int (0 + (i : Nat)))) (some (.int dt)) (some (.tup (L.map PV.int))) ⟨og, trivial⟩ (by simp only [dp]; omega) (by simp only [sz]; omega)
      simp only [fV, Int.zero_add] at cS cT cO cN
      walk_at "rd"
      refine ⟨by decide, cif_by (fun _ => ⟨small_size (by decide), flat_ints, cif_by (fun _ => ⟨small_size (by decide), cS⟩) (fun _ => ?_)⟩) (fun _ => ?_)⟩
      all_goals exact ⟨by decide, cif_by (fun _ => ⟨small_size (by decide), small_size (by decide), cT⟩) (fun _ => ⟨by decide, cif_by (fun _ => ⟨small_size (by decide), small_size (by decide), cO⟩) (fun _ => ⟨small_size (by decide), small_size (by decide), cN⟩)⟩)⟩
  · exact h.elim

theorem G_law (T : Tx K mg t) : FnOk' P w K mg base CX0 49 t.a_law t.d_law ["_law_script"] spL := by
  refine okU (k := 48) T.F_law sc_law (fun vs H Q E h => by
    unfold spL at h
    split at h
    · rfl
    · exact h.elim) (fun cdv A outer s H E B hr => ⟨_, (qss_cons (qs_set (i := 1) sc_law.nd rfl (by first | exact Or.inl rfl | exact Or.inr rfl) (qe_add qe_int (qe_mod (qe_call (G_law_cell_at T) (hr.mono (by decide)) rfl T.g_law_cell_at T.F_law_cell_at.kp T.B_law_cell_at (qa_cons (qv 0) (qa_cons qe_int qa_nil))) qe_int)))
    (qss_cons (qs_for PassesOwn.never rfl (qi_range1 rfl T.b_range (qa_cons qe_int qa_nil)) (qg_name (i := 2) sc_law.nd rfl (by first | exact Or.inl rfl | exact Or.inr rfl))
    (qss_cons (qs_set (i := 3) sc_law.nd rfl (by first | exact Or.inl rfl | exact Or.inr rfl) (qe_call (G_law_digits T) (hr.mono (by decide)) rfl T.g_law_digits T.F_law_digits.kp T.B_law_digits (qa_cons (qv 0) (qa_cons (qv 2) (qa_cons qe_int qa_nil)))))
      (qss_cons (qs_set (i := 4) sc_law.nd rfl (by first | exact Or.inl rfl | exact Or.inr rfl) (qe_call (G_law_grown T 5) (hr.mono (by decide)) rfl T.g_law_grown T.F_law_grown.kp T.B_law_grown (qa_cons (qv 3) (qa_cons (qv 1) (qa_cons qe_int qa_nil)))))
      (qss_cons (qs_if (qt_cmp (op_eqU hr.units) vr_eq (qe_mod (qe_call (G_law_cell_at T) (hr.mono (by decide)) rfl T.g_law_cell_at T.F_law_cell_at.kp T.B_law_cell_at (qa_cons (qv 0) (qa_cons qe_int qa_nil))) qe_int) qe_int (nomark _))
      (qss_one (qs_set (i := 4) sc_law.nd rfl (by first | exact Or.inl rfl | exact Or.inr rfl) (qe_call (G_law_laid T) (hr.mono (by decide)) rfl T.g_law_laid T.F_law_laid.kp T.B_law_laid (qa_cons (qv 4) (qa_cons (qv 3) (qa_cons (qv 1) qa_nil))))))
      qss_nil)
      (qss_cons (qs_set (i := 5) sc_law.nd rfl (by first | exact Or.inl rfl | exact Or.inr rfl) (qe_call (G_open_names T) (hr.mono (by decide)) rfl T.g_open_names T.F_open_names.kp T.B_open_names (qa_cons (qv 4) qa_nil)))
      (qss_cons (qs_if (qt_bool (qw_or (qt_not (qt_val (qe_callB (call_isiB .tuple) (vc_isi .tuple) rfl T.b_isinstance boot_isinstance (qa_cons (qv 5) (qa_cons (qe_bty rfl T.b_tuple boot_tuple) qa_nil))))) (qw_or1 (qt_cmp (op_neU hr.units) vr_eq (qe_comp (N2 := ["_law_name"]) (nt := 1) (js := []) (cok (sc := defScope s_law) (by exact rfl) (by repeat (first | exact trivial | refine ⟨rfl, ?_⟩)) rfl (by rfl) (by decide +kernel) (by decide +kernel) (by rfl) (by decide +kernel) (by rfl) (by rfl)) rfl (qi_seq (qv 5)) (fun s0 H0 fp ps => ⟨(qg_name (i := 0) (show List.Nodup (["_law_name"] : List Str) by decide +kernel) rfl (by first | exact Or.inl rfl | exact Or.inr rfl)), (qif_one (qt_not (qt_val (qe_call (G_law_whole T) (hr.mono (by decide)) rfl T.g_law_whole T.F_law_whole.kp T.B_law_whole (qa_cons (qv 0) qa_nil))))), (qv 0)⟩)) (qe_lst qa_nil) (nomark _)))))
      (qss_one (qs_ret qe_bl))
      qss_nil)
      (qss_one (qs_if (qt_cmp (op_neU hr.units) vr_eq (qv 5) (qe_call (G_law_open T 45) (hr.mono (by decide)) rfl T.g_law_open T.F_law_open.kp T.B_law_open (qa_cons (qv 4) qa_nil)) (nomark _))
      (qss_one (qs_ret qe_bl))
      qss_nil))))))))
    (qss_one (qs_ret (qe_and (qe_cmp (op_eqU hr.units) vr_eq (qe_call (G_open_names T) (hr.mono (by decide)) rfl T.g_open_names T.F_open_names.kp T.B_open_names (qa_cons (qe_tup (qa_cons qe_str qa_nil)) qa_nil)) (qe_tup qa_nil) (nomark _)) (qe_one (qe_cmp (op_eqU hr.units) vr_eq (qe_call (G_open_names T) (hr.mono (by decide)) rfl T.g_open_names T.F_open_names.kp T.B_open_names (qa_cons (qe_tup (qa_cons qe_str (qa_cons (qe_tup (qa_cons qe_int (qa_cons qe_int qa_nil))) qa_nil))) qa_nil)) (qe_tup (qa_cons qe_int (qa_cons qe_int qa_nil))) (nomark _)))))))), ?_⟩)
  intro vs H Q E h
  unfold spL at h
  split at h
  · rename_i l
    obtain ⟨ns, rfl, hl, h⟩ := h
    refine seq_abs fun R hR => ?_
    walk_at "rd"
    refine ⟨⟨by decide, by decide⟩, ns, rfl, by decide, ?_⟩
    subst hR
    have hc := fm (a := ns.getD (0 : Int).toNat 0) (b := 6) (by decide)
    generalize hcc : 1 + (ns.getD (0 : Int).toNat 0).fmod 6 = c at *
    refine seq_abs fun R hR => ?_
    walk_at "rd"
    refine ⟨⟨by decide, by decide⟩, ?_⟩
    refine for_rngD (fun i σ H2 => ∃ z1 z2 z3 z4, σ = [some (.fls (ns.map PV.int)), some (.int c), z1, z2, z3, z4] ∧ U.Sub H H2) ?_ ?_ ⟨none, none, none, none, rfl, Sub.refl _⟩
    · rintro σ H2 ⟨z1, z2, z3, z4, rfl, s2⟩
      refine ⟨trivial, ?_⟩
      subst hR
      walk_at "rd"
      refine ⟨small_size (by decide), .one, rfl, by decide, trivial, by decide, fun ms op => ?_⟩
      rw [op_none op]
      try walk_at "rd"
      refine ⟨small_size (by decide), ?_⟩
      try walk_at "rd"
      refine ⟨small_size (by decide), small_size (by decide), .seen [0, 5], rfl, by decide, ok_two, by decide, fun ms2 op2 => ?_⟩
      rw [op_two op2]
      try walk_at "rd"
      exact ⟨small_size (by decide), _, s2, h⟩
    · rintro D i σ H2 hi ⟨z1, z2, z3, z4, rfl, s2⟩ kk
      refine ⟨trivial, ?_⟩
      simp only [vName, List.set_cons_zero, List.set_cons_succ]
      refine seq_abs fun R hR => ?_
      walk_at "rd"
      refine ⟨⟨by omega, by omega⟩, ns, rfl, fun p xs hp h90 nn => ?_⟩
      subst hR
      refine seq_abs fun R hR => ?_
      walk_at "rd"
      refine ⟨⟨by decide, by decide⟩, ⟨by omega, by omega⟩, xs, rfl, nn, by rw [h90]; decide, fun f ys of df zf nny ly => ?_⟩
      try rw [put_put]
      have hpH := s2.free hp
      have n5 : need 5 = 31 := rfl
      subst hR
      refine seq_abs fun R hR => ?_
      have go : ∀ g H4 z, Ok g → dp g ≤ 44 → sz g ≤ 111 → U.Sub H H4 → R D [some (.fls (ns.map PV.int)), some (.int c), some (.int (i : Nat)), some (.ref p), some (fV g), z] H4 := fun g H4 z og dg zg s4 => by
        subst hR
        refine seq_abs fun R hR => ?_
        walk_at "rd"
        refine ⟨g, rfl, dg, og, by omega, fun ms op => ?_⟩
        subst hR
        have l6 := isop_len op og
        refine seq_abs fun R hR => ?_
        walk_at "rd"
        intro acc hacc
        refine comp_pure (fun y => y) (fun _ => false) (fun σ => ∃ z, σ = [z]) (by rw [List.length_map]; omega) (fun _ => trivial) ?_ ?_ ⟨_, rfl⟩
        · rintro y hy l σ R ⟨z, rfl⟩ hl kT kF
          obtain ⟨u, hu, rfl⟩ := List.mem_map.mp hy
          walk_at "rd"
          exact kF rfl _ ⟨_, rfl⟩
        have ef : ((ms.map PV.int).filter fun _ => false).map (fun y => y) = [] := by simp
        rw [ef]
        walk_at "rd"
        refine ⟨small_size (by decide), fun r hr => ?_⟩
        try walk_at "rd"
        have nar : acc ≠ r := fun e => by subst e; rw [put_same] at hr; cases hr
        refine ⟨[], (put_ne nar).trans put_same, ?_⟩
        try walk_at "rd"
        have s5 := (s4.put (o := .lst []) (s4.free hacc))
        have s6 := s5.put (o := .lst []) (s5.free hr)
        generalize put (put H4 acc (.lst [])) r (.lst []) = H5 at *
        subst hR
        walk_at "rd"
        refine ⟨g, rfl, by omega, og, fun ms2 op2 l2 => ?_⟩
        rw [isop_one op2 op]
        try walk_at "rd"
        rw [deqs_ints]
        refine ⟨flat_ints, flat_ints, ?_⟩
        exact cif_neg rfl (kk _ _ ⟨_, _, _, _, rfl, s6⟩)
      walk_at "rd"
      refine ⟨⟨by decide, by decide⟩, ns, rfl, by decide, cif_by (fun _ => ?_) (fun _ => go f _ _ of (by omega) (by omega) (s2.put hpH))⟩
      refine ⟨f, ys, rfl, by omega, of, by omega, ⟨by omega, by omega⟩, rfl, nny, by omega, fun g zs og dg zg => ?_⟩
      try rw [put_put]
      exact go g _ _ og dg zg (s2.put hpH)
  · exact h.elim

end
theorem txt_mk {K : PySem.W.Frag} {h : Heap} {mg : Str → Option Value} {f_names_of f_parts_of f_lay f_laid_out f_opens_of f_open_names f_law_cell_at f_law_whole f_law_digits f_law_names_by f_law_grown f_law_open f_law_laid f_law  : Addr} (X : K.In h) (G : h.Ns mainGlobals mg)
    {od_names_of an_names_of od_parts_of an_parts_of od_lay an_lay od_laid_out an_laid_out od_opens_of an_opens_of od_open_names an_open_names od_law_cell_at an_law_cell_at od_law_whole an_law_whole od_law_digits an_law_digits od_law_names_by an_law_names_by od_law_grown an_law_grown od_law_open an_law_open od_law_laid an_law_laid od_law an_law : Option Addr} {sl_names_of sl_parts_of sl_lay sl_laid_out sl_opens_of sl_open_names sl_law_cell_at sl_law_whole sl_law_digits sl_law_names_by sl_law_grown sl_law_open sl_law_laid sl_law : Array (Option Value)} {oc_names_of kV_names_of dc_names_of pm_names_of cd_names_of ct_names_of oc_parts_of kV_parts_of dc_parts_of pm_parts_of cd_parts_of ct_parts_of oc_lay kV_lay dc_lay pm_lay cd_lay ct_lay oc_laid_out kV_laid_out dc_laid_out pm_laid_out cd_laid_out ct_laid_out oc_opens_of kV_opens_of dc_opens_of pm_opens_of cd_opens_of ct_opens_of oc_open_names kV_open_names dc_open_names pm_open_names cd_open_names ct_open_names oc_law_cell_at kV_law_cell_at dc_law_cell_at pm_law_cell_at cd_law_cell_at ct_law_cell_at oc_law_whole kV_law_whole dc_law_whole pm_law_whole cd_law_whole ct_law_whole oc_law_digits kV_law_digits dc_law_digits pm_law_digits cd_law_digits ct_law_digits oc_law_names_by kV_law_names_by dc_law_names_by pm_law_names_by cd_law_names_by ct_law_names_by oc_law_grown kV_law_grown dc_law_grown pm_law_grown cd_law_grown ct_law_grown oc_law_open kV_law_open dc_law_open pm_law_open cd_law_open ct_law_open oc_law_laid kV_law_laid dc_law_laid pm_law_laid cd_law_laid ct_law_laid oc_law kV_law dc_law pm_law cd_law ct_law : Value}
    (a_names_of : PySem.W.nsIn K mainGlobals "names_of" = some (some (.ref f_names_of)))
    (l_names_of : K.lookup f_names_of = some ⟨oc_names_of, od_names_of, .func (PySem.W.fnOf "names_of" "names_of" (defArgs s_names_of) (defBody s_names_of) (defScope s_names_of) .none kV_names_of dc_names_of pm_names_of an_names_of cd_names_of ct_names_of), sl_names_of⟩)
    (c_names_of : PySem.W.codeIn K cd_names_of "names_of" = true)
    (k_names_of : PySem.W.keepIn K (.ref f_names_of) = true)
    (a_parts_of : PySem.W.nsIn K mainGlobals "parts_of" = some (some (.ref f_parts_of)))
    (l_parts_of : K.lookup f_parts_of = some ⟨oc_parts_of, od_parts_of, .func (PySem.W.fnOf "parts_of" "parts_of" (defArgs s_parts_of) (defBody s_parts_of) (defScope s_parts_of) .none kV_parts_of dc_parts_of pm_parts_of an_parts_of cd_parts_of ct_parts_of), sl_parts_of⟩)
    (c_parts_of : PySem.W.codeIn K cd_parts_of "parts_of" = true)
    (k_parts_of : PySem.W.keepIn K (.ref f_parts_of) = true)
    (a_lay : PySem.W.nsIn K mainGlobals "lay" = some (some (.ref f_lay)))
    (l_lay : K.lookup f_lay = some ⟨oc_lay, od_lay, .func (PySem.W.fnOf "lay" "lay" (defArgs s_lay) (defBody s_lay) (defScope s_lay) .none kV_lay dc_lay pm_lay an_lay cd_lay ct_lay), sl_lay⟩)
    (c_lay : PySem.W.codeIn K cd_lay "lay" = true)
    (k_lay : PySem.W.keepIn K (.ref f_lay) = true)
    (a_laid_out : PySem.W.nsIn K mainGlobals "laid_out" = some (some (.ref f_laid_out)))
    (l_laid_out : K.lookup f_laid_out = some ⟨oc_laid_out, od_laid_out, .func (PySem.W.fnOf "laid_out" "laid_out" (defArgs s_laid_out) (defBody s_laid_out) (defScope s_laid_out) .none kV_laid_out dc_laid_out pm_laid_out an_laid_out cd_laid_out ct_laid_out), sl_laid_out⟩)
    (c_laid_out : PySem.W.codeIn K cd_laid_out "laid_out" = true)
    (k_laid_out : PySem.W.keepIn K (.ref f_laid_out) = true)
    (a_opens_of : PySem.W.nsIn K mainGlobals "opens_of" = some (some (.ref f_opens_of)))
    (l_opens_of : K.lookup f_opens_of = some ⟨oc_opens_of, od_opens_of, .func (PySem.W.fnOf "opens_of" "opens_of" (defArgs s_opens_of) (defBody s_opens_of) (defScope s_opens_of) .none kV_opens_of dc_opens_of pm_opens_of an_opens_of cd_opens_of ct_opens_of), sl_opens_of⟩)
    (c_opens_of : PySem.W.codeIn K cd_opens_of "opens_of" = true)
    (k_opens_of : PySem.W.keepIn K (.ref f_opens_of) = true)
    (a_open_names : PySem.W.nsIn K mainGlobals "open_names" = some (some (.ref f_open_names)))
    (l_open_names : K.lookup f_open_names = some ⟨oc_open_names, od_open_names, .func (PySem.W.fnOf "open_names" "open_names" (defArgs s_open_names) (defBody s_open_names) (defScope s_open_names) .none kV_open_names dc_open_names pm_open_names an_open_names cd_open_names ct_open_names), sl_open_names⟩)
    (c_open_names : PySem.W.codeIn K cd_open_names "open_names" = true)
    (k_open_names : PySem.W.keepIn K (.ref f_open_names) = true)
    (a_law_cell_at : PySem.W.nsIn K mainGlobals "_law_cell_at" = some (some (.ref f_law_cell_at)))
    (l_law_cell_at : K.lookup f_law_cell_at = some ⟨oc_law_cell_at, od_law_cell_at, .func (PySem.W.fnOf "_law_cell_at" "_law_cell_at" (defArgs s_law_cell_at) (defBody s_law_cell_at) (defScope s_law_cell_at) .none kV_law_cell_at dc_law_cell_at pm_law_cell_at an_law_cell_at cd_law_cell_at ct_law_cell_at), sl_law_cell_at⟩)
    (c_law_cell_at : PySem.W.codeIn K cd_law_cell_at "_law_cell_at" = true)
    (k_law_cell_at : PySem.W.keepIn K (.ref f_law_cell_at) = true)
    (a_law_whole : PySem.W.nsIn K mainGlobals "_law_whole" = some (some (.ref f_law_whole)))
    (l_law_whole : K.lookup f_law_whole = some ⟨oc_law_whole, od_law_whole, .func (PySem.W.fnOf "_law_whole" "_law_whole" (defArgs s_law_whole) (defBody s_law_whole) (defScope s_law_whole) .none kV_law_whole dc_law_whole pm_law_whole an_law_whole cd_law_whole ct_law_whole), sl_law_whole⟩)
    (c_law_whole : PySem.W.codeIn K cd_law_whole "_law_whole" = true)
    (k_law_whole : PySem.W.keepIn K (.ref f_law_whole) = true)
    (a_law_digits : PySem.W.nsIn K mainGlobals "_law_digits" = some (some (.ref f_law_digits)))
    (l_law_digits : K.lookup f_law_digits = some ⟨oc_law_digits, od_law_digits, .func (PySem.W.fnOf "_law_digits" "_law_digits" (defArgs s_law_digits) (defBody s_law_digits) (defScope s_law_digits) .none kV_law_digits dc_law_digits pm_law_digits an_law_digits cd_law_digits ct_law_digits), sl_law_digits⟩)
    (c_law_digits : PySem.W.codeIn K cd_law_digits "_law_digits" = true)
    (k_law_digits : PySem.W.keepIn K (.ref f_law_digits) = true)
    (a_law_names_by : PySem.W.nsIn K mainGlobals "_law_names_by" = some (some (.ref f_law_names_by)))
    (l_law_names_by : K.lookup f_law_names_by = some ⟨oc_law_names_by, od_law_names_by, .func (PySem.W.fnOf "_law_names_by" "_law_names_by" (defArgs s_law_names_by) (defBody s_law_names_by) (defScope s_law_names_by) .none kV_law_names_by dc_law_names_by pm_law_names_by an_law_names_by cd_law_names_by ct_law_names_by), sl_law_names_by⟩)
    (c_law_names_by : PySem.W.codeIn K cd_law_names_by "_law_names_by" = true)
    (k_law_names_by : PySem.W.keepIn K (.ref f_law_names_by) = true)
    (a_law_grown : PySem.W.nsIn K mainGlobals "_law_grown" = some (some (.ref f_law_grown)))
    (l_law_grown : K.lookup f_law_grown = some ⟨oc_law_grown, od_law_grown, .func (PySem.W.fnOf "_law_grown" "_law_grown" (defArgs s_law_grown) (defBody s_law_grown) (defScope s_law_grown) .none kV_law_grown dc_law_grown pm_law_grown an_law_grown cd_law_grown ct_law_grown), sl_law_grown⟩)
    (c_law_grown : PySem.W.codeIn K cd_law_grown "_law_grown" = true)
    (k_law_grown : PySem.W.keepIn K (.ref f_law_grown) = true)
    (a_law_open : PySem.W.nsIn K mainGlobals "_law_open" = some (some (.ref f_law_open)))
    (l_law_open : K.lookup f_law_open = some ⟨oc_law_open, od_law_open, .func (PySem.W.fnOf "_law_open" "_law_open" (defArgs s_law_open) (defBody s_law_open) (defScope s_law_open) .none kV_law_open dc_law_open pm_law_open an_law_open cd_law_open ct_law_open), sl_law_open⟩)
    (c_law_open : PySem.W.codeIn K cd_law_open "_law_open" = true)
    (k_law_open : PySem.W.keepIn K (.ref f_law_open) = true)
    (a_law_laid : PySem.W.nsIn K mainGlobals "_law_laid" = some (some (.ref f_law_laid)))
    (l_law_laid : K.lookup f_law_laid = some ⟨oc_law_laid, od_law_laid, .func (PySem.W.fnOf "_law_laid" "_law_laid" (defArgs s_law_laid) (defBody s_law_laid) (defScope s_law_laid) .none kV_law_laid dc_law_laid pm_law_laid an_law_laid cd_law_laid ct_law_laid), sl_law_laid⟩)
    (c_law_laid : PySem.W.codeIn K cd_law_laid "_law_laid" = true)
    (k_law_laid : PySem.W.keepIn K (.ref f_law_laid) = true)
    (a_law : PySem.W.nsIn K mainGlobals "law" = some (some (.ref f_law)))
    (l_law : K.lookup f_law = some ⟨oc_law, od_law, .func (PySem.W.fnOf "law" "law" (defArgs s_law) (defBody s_law) (defScope s_law) .none kV_law dc_law pm_law an_law cd_law ct_law), sl_law⟩)
    (c_law : PySem.W.codeIn K cd_law "law" = true)
    (k_law : PySem.W.keepIn K (.ref f_law) = true)
    (z_bool : PySem.W.nsIn K mainGlobals "bool" = some none)
    (z_int : PySem.W.nsIn K mainGlobals "int" = some none)
    (z_isinstance : PySem.W.nsIn K mainGlobals "isinstance" = some none)
    (z_len : PySem.W.nsIn K mainGlobals "len" = some none)
    (z_list : PySem.W.nsIn K mainGlobals "list" = some none)
    (z_min : PySem.W.nsIn K mainGlobals "min" = some none)
    (z_range : PySem.W.nsIn K mainGlobals "range" = some none)
    (z_reversed : PySem.W.nsIn K mainGlobals "reversed" = some none)
    (z_set : PySem.W.nsIn K mainGlobals "set" = some none)
    (z_sorted : PySem.W.nsIn K mainGlobals "sorted" = some none)
    (z_sum : PySem.W.nsIn K mainGlobals "sum" = some none)
    (z_tuple : PySem.W.nsIn K mainGlobals "tuple" = some none) :
    ∃ t : Ad, Tx K mg t ∧ t.a_law = f_law ∧ ∀ (s : Shared) (v : Value), BindsTo s t.d_law ⟨[v], []⟩ [("_law_script", v)] := by
  have F_names_of := fun_mk (st := s_names_of) l_names_of c_names_of k_names_of
  have B_names_of := F_names_of.binds (ps := ["formula"]) fun _ _ _ _ _ _ us hl => len1 (P := fun us => bindArgs _ ⟨us, []⟩ = pure (List.zip _ us)) (fun _ => rfl) us hl
  have F_parts_of := fun_mk (st := s_parts_of) l_parts_of c_parts_of k_parts_of
  have B_parts_of := F_parts_of.binds (ps := ["formula"]) fun _ _ _ _ _ _ us hl => len1 (P := fun us => bindArgs _ ⟨us, []⟩ = pure (List.zip _ us)) (fun _ => rfl) us hl
  have F_lay := fun_mk (st := s_lay) l_lay c_lay k_lay
  have B_lay := F_lay.binds (ps := ["formula", "places"]) fun _ _ _ _ _ _ us hl => len2 (P := fun us => bindArgs _ ⟨us, []⟩ = pure (List.zip _ us)) (fun _ _ => rfl) us hl
  have F_laid_out := fun_mk (st := s_laid_out) l_laid_out c_laid_out k_laid_out
  have B_laid_out := F_laid_out.binds (ps := ["formula"]) fun _ _ _ _ _ _ us hl => len1 (P := fun us => bindArgs _ ⟨us, []⟩ = pure (List.zip _ us)) (fun _ => rfl) us hl
  have F_opens_of := fun_mk (st := s_opens_of) l_opens_of c_opens_of k_opens_of
  have B_opens_of := F_opens_of.binds (ps := ["nodes"]) fun _ _ _ _ _ _ us hl => len1 (P := fun us => bindArgs _ ⟨us, []⟩ = pure (List.zip _ us)) (fun _ => rfl) us hl
  have F_open_names := fun_mk (st := s_open_names) l_open_names c_open_names k_open_names
  have B_open_names := F_open_names.binds (ps := ["formula"]) fun _ _ _ _ _ _ us hl => len1 (P := fun us => bindArgs _ ⟨us, []⟩ = pure (List.zip _ us)) (fun _ => rfl) us hl
  have F_law_cell_at := fun_mk (st := s_law_cell_at) l_law_cell_at c_law_cell_at k_law_cell_at
  have B_law_cell_at := F_law_cell_at.binds (ps := ["_law_script", "_law_k"]) fun _ _ _ _ _ _ us hl => len2 (P := fun us => bindArgs _ ⟨us, []⟩ = pure (List.zip _ us)) (fun _ _ => rfl) us hl
  have F_law_whole := fun_mk (st := s_law_whole) l_law_whole c_law_whole k_law_whole
  have B_law_whole := F_law_whole.binds (ps := ["_law_found"]) fun _ _ _ _ _ _ us hl => len1 (P := fun us => bindArgs _ ⟨us, []⟩ = pure (List.zip _ us)) (fun _ => rfl) us hl
  have F_law_digits := fun_mk (st := s_law_digits) l_law_digits c_law_digits k_law_digits
  have B_law_digits := F_law_digits.binds (ps := ["_law_script", "_law_at", "_law_parts"]) fun _ _ _ _ _ _ us hl => len3 (P := fun us => bindArgs _ ⟨us, []⟩ = pure (List.zip _ us)) (fun _ _ _ => rfl) us hl
  have F_law_names_by := fun_mk (st := s_law_names_by) l_law_names_by c_law_names_by k_law_names_by
  have B_law_names_by := F_law_names_by.binds (ps := ["_law_digit", "_law_count"]) fun _ _ _ _ _ _ us hl => len2 (P := fun us => bindArgs _ ⟨us, []⟩ = pure (List.zip _ us)) (fun _ _ => rfl) us hl
  have F_law_grown := fun_mk (st := s_law_grown) l_law_grown c_law_grown k_law_grown
  have B_law_grown := F_law_grown.binds (ps := ["_law_purse", "_law_count", "_law_down"]) fun _ _ _ _ _ _ us hl => len3 (P := fun us => bindArgs _ ⟨us, []⟩ = pure (List.zip _ us)) (fun _ _ _ => rfl) us hl
  have F_law_open := fun_mk (st := s_law_open) l_law_open c_law_open k_law_open
  have B_law_open := F_law_open.binds (ps := ["_law_formula"]) fun _ _ _ _ _ _ us hl => len1 (P := fun us => bindArgs _ ⟨us, []⟩ = pure (List.zip _ us)) (fun _ => rfl) us hl
  have F_law_laid := fun_mk (st := s_law_laid) l_law_laid c_law_laid k_law_laid
  have B_law_laid := F_law_laid.binds (ps := ["_law_formula", "_law_purse", "_law_count"]) fun _ _ _ _ _ _ us hl => len3 (P := fun us => bindArgs _ ⟨us, []⟩ = pure (List.zip _ us)) (fun _ _ _ => rfl) us hl
  have F_law := fun_mk (st := s_law) l_law c_law k_law
  have B_law := F_law.binds (ps := ["_law_script"]) fun _ _ _ _ _ _ us hl => len1 (P := fun us => bindArgs _ ⟨us, []⟩ = pure (List.zip _ us)) (fun _ => rfl) us hl
  exact ⟨⟨f_names_of, _, f_parts_of, _, f_lay, _, f_laid_out, _, f_opens_of, _, f_open_names, _, f_law_cell_at, _, f_law_whole, _, f_law_digits, _, f_law_names_by, _, f_law_grown, _, f_law_open, _, f_law_laid, _, f_law, _⟩, ⟨F_names_of,
    B_names_of,
    PySem.W.mg_of X G a_names_of,
    F_parts_of,
    B_parts_of,
    PySem.W.mg_of X G a_parts_of,
    F_lay,
    B_lay,
    PySem.W.mg_of X G a_lay,
    F_laid_out,
    B_laid_out,
    PySem.W.mg_of X G a_laid_out,
    F_opens_of,
    B_opens_of,
    PySem.W.mg_of X G a_opens_of,
    F_open_names,
    B_open_names,
    PySem.W.mg_of X G a_open_names,
    F_law_cell_at,
    B_law_cell_at,
    PySem.W.mg_of X G a_law_cell_at,
    F_law_whole,
    B_law_whole,
    PySem.W.mg_of X G a_law_whole,
    F_law_digits,
    B_law_digits,
    PySem.W.mg_of X G a_law_digits,
    F_law_names_by,
    B_law_names_by,
    PySem.W.mg_of X G a_law_names_by,
    F_law_grown,
    B_law_grown,
    PySem.W.mg_of X G a_law_grown,
    F_law_open,
    B_law_open,
    PySem.W.mg_of X G a_law_open,
    F_law_laid,
    B_law_laid,
    PySem.W.mg_of X G a_law_laid,
    F_law,
    B_law,
    PySem.W.mg_of X G a_law,
    PySem.W.mg_none_of X G z_bool,
    PySem.W.mg_none_of X G z_int,
    PySem.W.mg_none_of X G z_isinstance,
    PySem.W.mg_none_of X G z_len,
    PySem.W.mg_none_of X G z_list,
    PySem.W.mg_none_of X G z_min,
    PySem.W.mg_none_of X G z_range,
    PySem.W.mg_none_of X G z_reversed,
    PySem.W.mg_none_of X G z_set,
    PySem.W.mg_none_of X G z_sorted,
    PySem.W.mg_none_of X G z_sum,
    PySem.W.mg_none_of X G z_tuple⟩, rfl, fun s v => .of_eq rfl⟩
theorem tx_of {K : PySem.W.Frag} {mg : Str → Option Value} {f : Addr} {x : Str} (h : ∃ t : Ad, Tx K mg t ∧ t.a_law = f ∧ ∀ (s : Shared) (v : Value), BindsTo s t.d_law ⟨[v], []⟩ [(x, v)]) (e : mg "law" = some (.ref f)) :
    ∃ t : Ad, Tx K mg t ∧ mg "law" = some (.ref t.a_law) ∧ ∀ (s : Shared) (v : Value), BindsTo s t.d_law ⟨[v], []⟩ [(x, v)] := by
  obtain ⟨t, T, rfl, b⟩ := h
  exact ⟨t, T, e, b⟩
end Lw
open PySem PySem.W PyProof.Rows
set_option maxRecDepth 100000 in
set_option maxHeartbeats 0 in
theorem PySem.Challenge.cw_doingbook_k31_open_names_holds : PySem.Challenge.rw_doingbook_k31_open_names.Holds := by
  w_on; o_law; k_head; (case hw => w_witness2)
  k_fill
  refine L2.walk_ofK (l := PySem.Challenge.rw_doingbook_k31_open_names) (n := 63) (k := 49) (x := "_law_script") (CX := L2.CX0) (sp := fun K => U.lowSp K U.spL) rfl (by decide) rfl ⟨rfl, by decide, by decide⟩ (fun w h Y => PySem.W.kIn_of Y) ?F (fun K H a ns hl hO hS => U.spL_start hl hO hS) (fun _ _ _ _ z => z)
  case F =>
    intro w mg fa h KX G hmg
    have T : ∃ t : Lw.Ad, Lw.Tx (L2.KOf KX) mg t ∧ mg "law" = some (.ref t.a_law) ∧ ∀ (s : Shared) (v : Value), BindsTo s t.d_law ⟨[v], []⟩ [("_law_script", v)] := by
      dsimp only [L2.KOf]
      refine' Lw.tx_of (Lw.txt_mk KX G ?a_names_of ?l_names_of ?c_names_of ?k_names_of ?a_parts_of ?l_parts_of ?c_parts_of ?k_parts_of ?a_lay ?l_lay ?c_lay ?k_lay ?a_laid_out ?l_laid_out ?c_laid_out ?k_laid_out ?a_opens_of ?l_opens_of ?c_opens_of ?k_opens_of ?a_open_names ?l_open_names ?c_open_names ?k_open_names ?a_law_cell_at ?l_law_cell_at ?c_law_cell_at ?k_law_cell_at ?a_law_whole ?l_law_whole ?c_law_whole ?k_law_whole ?a_law_digits ?l_law_digits ?c_law_digits ?k_law_digits ?a_law_names_by ?l_law_names_by ?c_law_names_by ?k_law_names_by ?a_law_grown ?l_law_grown ?c_law_grown ?k_law_grown ?a_law_open ?l_law_open ?c_law_open ?k_law_open ?a_law_laid ?l_law_laid ?c_law_laid ?k_law_laid ?a_law ?l_law ?c_law ?k_law ?z_bool ?z_int ?z_isinstance ?z_len ?z_list ?z_min ?z_range ?z_reversed ?z_set ?z_sorted ?z_sum ?z_tuple) ?tl
      (case a_names_of => k_is)
      (case l_names_of => k_is)
      (case c_names_of => k_is)
      (case k_names_of => k_is)
      (case a_parts_of => k_is)
      (case l_parts_of => k_is)
      (case c_parts_of => k_is)
      (case k_parts_of => k_is)
      (case a_lay => k_is)
      (case l_lay => k_is)
      (case c_lay => k_is)
      (case k_lay => k_is)
      (case a_laid_out => k_is)
      (case l_laid_out => k_is)
      (case c_laid_out => k_is)
      (case k_laid_out => k_is)
      (case a_opens_of => k_is)
      (case l_opens_of => k_is)
      (case c_opens_of => k_is)
      (case k_opens_of => k_is)
      (case a_open_names => k_is)
      (case l_open_names => k_is)
      (case c_open_names => k_is)
      (case k_open_names => k_is)
      (case a_law_cell_at => k_is)
      (case l_law_cell_at => k_is)
      (case c_law_cell_at => k_is)
      (case k_law_cell_at => k_is)
      (case a_law_whole => k_is)
      (case l_law_whole => k_is)
      (case c_law_whole => k_is)
      (case k_law_whole => k_is)
      (case a_law_digits => k_is)
      (case l_law_digits => k_is)
      (case c_law_digits => k_is)
      (case k_law_digits => k_is)
      (case a_law_names_by => k_is)
      (case l_law_names_by => k_is)
      (case c_law_names_by => k_is)
      (case k_law_names_by => k_is)
      (case a_law_grown => k_is)
      (case l_law_grown => k_is)
      (case c_law_grown => k_is)
      (case k_law_grown => k_is)
      (case a_law_open => k_is)
      (case l_law_open => k_is)
      (case c_law_open => k_is)
      (case k_law_open => k_is)
      (case a_law_laid => k_is)
      (case l_law_laid => k_is)
      (case c_law_laid => k_is)
      (case k_law_laid => k_is)
      (case a_law => k_is)
      (case l_law => k_is)
      (case c_law => k_is)
      (case k_law => k_is)
      (case z_bool => k_is)
      (case z_int => k_is)
      (case z_isinstance => k_is)
      (case z_len => k_is)
      (case z_list => k_is)
      (case z_min => k_is)
      (case z_range => k_is)
      (case z_reversed => k_is)
      (case z_set => k_is)
      (case z_sorted => k_is)
      (case z_sum => k_is)
      (case z_tuple => k_is)
      (case tl => exact PySem.W.mg_of KX G (by k_is))
    obtain ⟨t, T, e, hb⟩ := T
    have e0 := hmg.symm.trans e
    cases e0
    exact ⟨t.d_law, hb, fun base kb nb => Lw.G_law T⟩
