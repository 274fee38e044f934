import PyProof.Rows.All
import Wide.All
import OpenK.AllK
import Wide.FinOn
import Lean
import PyProof.EqAt
import PyProof.EqKinds
import PyProof.TupleCall
import PyProof.NeKinds
import PyProof.StationsW
import PyProof.RulesAs
import PyProof.ExcClass2
import PyProof.IsiH_tuple
import PyProof.NsDelKeeps
import PyProof.ConsumeWalk
import PyProof.Rows.SortWalk
import PySem.SetOps
import PySem.Builtin.Tuple.Common
import PyProof.Rows.SetFrom
import PyProof.TupleKey
import PyProof.SetRoads
import KE.KSortTup
import PyProof.DictWalks
import PyProof.FactsAll.set
import PyProof.CollectWalk
import KE.KDictList
import PyProof.Rows.Range3
import PyProof.Rows.StrWeight2
import PyProof.StrBlock
import PyProof.ListStr
import PyProof.SliceStr2
import PyProof.StrBlockI
import KE.KRevSl
import PyProof.StrLawsTight
import PyProof.StrLawsIn
import PyProof.Rows.StrNews
import PyProof.SumAny
import PyProof.StrLaws
import PyProof.StrLawsIdx
import PyProof.StrLawsChain
import PySem.Challenge.RW_doingbook_k81_texts_of_drawings
set_option Elab.async false
set_option genSizeOf false
-- CHANGE: your row's module here, as the last of these rows
set_option Elab.async false
set_option linter.all false
set_option maxRecDepth 100000
namespace L2
open PySem PySem.Spec PyProof.Rows

abbrev Key := Sum Int Str
def keyIs : Key → Value → Bool
  | .inl k, v => Value.isInt k v
  | .inr x, v => Value.isStrOf x v
def keyH (w : World) : Key → Int
  | .inl k => hashInt k
  | .inr x => hashStr w x
theorem keyIs_shape : ∀ {k : Key} {v : Value}, keyIs k v = true → (∃ i t, k = Sum.inl i ∧ v = Value.int i t) ∨ (∃ x t, k = Sum.inr x ∧ v = Value.str x t)
  | .inl i, v, h => by
    obtain ⟨t, e⟩ := Value.isInt_shape (k := i) (v := v) h
    exact .inl ⟨i, t, rfl, e⟩
  | .inr x, v, h => by
    obtain ⟨t, e⟩ := Value.isStrOf_shape (x := x) (v := v) h
    exact .inr ⟨x, t, rfl, e⟩
theorem key_ll (a b : Int) : decide ((Sum.inl a : Key) = Sum.inl b) = (a == b) := by
  by_cases e : a = b
  · subst e; simp
  · have h : ¬ (Sum.inl a : Key) = Sum.inl b := fun q => e (Sum.inl.inj q)
    rw [decide_eq_false h]
    exact (beq_eq_false_iff_ne.mpr e).symm
theorem key_rr (a b : Str) : decide ((Sum.inr a : Key) = Sum.inr b) = decide (a = b) := by
  by_cases e : a = b
  · subst e; simp
  · have h : ¬ (Sum.inr a : Key) = Sum.inr b := fun q => e (Sum.inr.inj q)
    rw [decide_eq_false h, decide_eq_false e]
theorem key_lr (a : Int) (b : Str) : decide ((Sum.inl a : Key) = Sum.inr b) = false := decide_eq_false (fun q => nomatch q)
theorem key_rl (a : Str) (b : Int) : decide ((Sum.inr a : Key) = Sum.inl b) = false := decide_eq_false (fun q => nomatch q)

def mixKind (prog : Program) (w : World) : PySem.KeyKind prog w Key where
  is := keyIs
  hash := keyH w
  inj := fun v a b ha hb => by
    rcases keyIs_shape ha with ⟨i, t, rfl, rfl⟩ | ⟨x, t, rfl, rfl⟩
    · rcases keyIs_shape hb with ⟨j, u, rfl, e⟩ | ⟨y, u, rfl, e⟩
      · injection e with e1 _; rw [e1]
      · exact nomatch e
    · rcases keyIs_shape hb with ⟨j, u, rfl, e⟩ | ⟨y, u, rfl, e⟩
      · exact nomatch e
      · injection e with e1 _; rw [e1]
  byValue := fun k v h => by
    rcases keyIs_shape h with ⟨i, t, rfl, rfl⟩ | ⟨x, t, rfl, rfl⟩ <;> rfl
  pyHash := fun hv h => by
    rcases keyIs_shape hv with ⟨i, t, rfl, rfl⟩ | ⟨x, t, rfl, rfl⟩
    · exact wpAny_pyHash_int h
    · exact wpAny_pyHash_str h
  eqBool := fun hu hv h => by
    rcases keyIs_shape hu with ⟨i, t, rfl, rfl⟩ | ⟨x, t, rfl, rfl⟩
    · rcases keyIs_shape hv with ⟨j, u, rfl, rfl⟩ | ⟨y, u, rfl, rfl⟩
      · rw [key_ll] at h; exact wpAny_eqBool_int h
      · rw [key_lr] at h; exact SeqAt.EqAt.int_str i t y u _ _ _ _ h
    · rcases keyIs_shape hv with ⟨j, u, rfl, rfl⟩ | ⟨y, u, rfl, rfl⟩
      · rw [key_rl] at h; exact SeqAt.EqAt.str_int x t j u _ _ _ _ h
      · rw [key_rr] at h; exact wpAny_eqBool_str h
  «strs» := fun k x t v h => by
    rcases keyIs_shape h with ⟨i, u, rfl, e⟩ | ⟨y, u, rfl, e⟩
    · exact nomatch e
    · injection e with e1 _
      subst e1
      cases v <;> rfl

end L2

namespace L2
open PySem PySem.Spec PyProof.Rows

inductive V where
  | non | bl (b : Bool) | int (i : Int) | str (x : Str) | byt (b : Array UInt8) | flt (b : UInt64) | ref (a : Addr) | ty (n : String)
  deriving DecidableEq

def RelV : V → Value → Prop
  | .non, u => u = Value.none
  | .bl b, u => u = Value.bool b
  | .int i, u => ∃ t, u = Value.int i t
  | .str x, u => ∃ t, u = Value.str x t
  | .byt b, u => ∃ t, u = Value.bytes b t
  | .flt b, u => ∃ t, u = Value.float b t
  | .ref a, u => u = Value.ref a
  | .ty n, u => u = Value.type n

abbrev Vals : List V → List Value → Prop := Paired RelV
theorem Vals.length {xs : List V} {us : List Value} (r : Vals xs us) : xs.length = us.length := Paired.length r
theorem Vals.get : ∀ {xs : List V} {us : List Value} {i : Nat} {x : V}, Vals xs us → xs[i]? = some x → ∃ u, us[i]? = some u ∧ RelV x u
  | _, _, _, _, .nil, e => by simp at e
  | _, _, 0, _, .cons r _, e => by simp at e; subst e; exact ⟨_, rfl, r⟩
  | _, _, i + 1, x, .cons _ t, e => by
    obtain ⟨u, h1, h2⟩ := Vals.get (i := i) (x := x) t (by simpa using e)
    exact ⟨u, by simpa using h1, h2⟩
theorem Vals.append : ∀ {xs ys : List V} {us ws : List Value}, Vals xs us → Vals ys ws → Vals (xs ++ ys) (us ++ ws)
  | _, _, _, _, .nil, s => s
  | _, _, _, _, .cons r t, s => .cons r (Vals.append t s)
theorem Vals.take : ∀ {xs : List V} {us : List Value} (n : Nat), Vals xs us → Vals (xs.take n) (us.take n)
  | _, _, 0, _ => .nil
  | _, _, _ + 1, .nil => .nil
  | _, _, n + 1, .cons r t => .cons r (Vals.take n t)
theorem Vals.drop : ∀ {xs : List V} {us : List Value} (n : Nat), Vals xs us → Vals (xs.drop n) (us.drop n)
  | _, _, 0, r => r
  | _, _, _ + 1, .nil => .nil
  | _, _, n + 1, .cons _ t => Vals.drop n t
def RelO : Option V → Option Value → Prop
  | some v, some u => RelV v u
  | none, none => True
  | _, _ => False
def KV {κ : Type} : List (κ × V) → List (κ × Value) → Prop := Paired fun (p : κ × V) (q : κ × Value) => p.1 = q.1 ∧ RelV p.2 q.2

def kV : Key → V
  | .inl i => .int i
  | .inr x => .str x

inductive HO where
    | lst (xs : List V)
    | tup (xs : List V)
    | dK (kvs : List (Key × V)) | dT (kvs : List (List Key × V))
    | set (S : Int → Bool) (n : Nat)
    | ins (C dx : Addr) (fs : List (Str × V))
    | own (x : Addr)
    | xd (fs : List (Str × V))
    | met (f x : Addr)
    | rng (lo hi : Int)
    | frz (o : Obj) (u : HO)
    | tbl (ps : Array Value)
    | ext (φ : Heap → Prop)

abbrev Hp := Addr → Option HO
def upd (H : Hp) (a : Addr) (o : HO) : Hp := fun b => if b = a then some o else H b
theorem upd_same {H : Hp} {a : Addr} {o : HO} : upd H a o a = some o := by unfold upd; rw [if_pos rfl]
theorem upd_ne {H : Hp} {a b : Addr} {o : HO} (h : b ≠ a) : upd H a o b = H b := by unfold upd; rw [if_neg h]
theorem ne_of {H : Hp} {a b : Addr} {o u : HO} (h : H a = some o) (h' : H b = some u) (d : o ≠ u) : a ≠ b := by
  intro e; subst e; rw [h] at h'; exact d (Option.some.inj h')
theorem ne_of_none {H : Hp} {a b : Addr} {o : HO} (h : H a = some o) (h' : H b = none) : a ≠ b := by
  intro e; subst e; rw [h] at h'; cases h'

section
variable (P : Program) (w : World)
def ObjOk (H : Hp) (h : Heap) (a : Addr) : HO → Prop
  | .lst xs => xs.length ≤ sizeLine ∧ ∃ (its : List Value) (n : Nat), Vals xs its ∧ h.get? a = some { cls := .type "list", data := .seq its.toArray n }
  | .tup xs => xs.length ≤ sizeLine ∧ ∃ its : List Value, Vals xs its ∧ IsTup h a its.toArray
  | .dK kvs => kvs.length ≤ sizeLine ∧ (a == sysModules) = false ∧ ∃ vs, KV kvs vs ∧ h.DictOf (mixKind P w) a vs
  | .dT kvs => kvs.length ≤ sizeLine ∧ (a == sysModules) = false ∧ ∃ xs : List (List Key × Addr × Value),
      Paired (fun (p : List Key × V) (q : List Key × Addr × Value) => p.1 = q.1 ∧ H q.2.1 = some (.tup (p.1.map kV)) ∧ RelV p.2 q.2.2) kvs xs ∧
      ∃ o es ep, h.get? a = some o ∧ o.ExactDict ∧ o.data = .dict es ep ∧ es.toList = xs.map (entryOfKey (tupleKind (mixKind P w))) ∧ (xs.map (·.1)).Nodup
  | .set S n => h.SetOf (intKind P w) a S n
  | .ins C dx fs => H dx = some (.own a) ∧ fs.length ≤ 1000 ∧ dx ≠ a ∧ h.get? a = some (PySem.W.instObj C dx) ∧
      ∃ mA, h.Ns1 dx mA ∧ (∀ f, RelO (fs.lookup f) (mA f)) ∧ PySem.Within mA (fs.map (·.1))
  | .own _ => ∃ o, h.get? a = some o
  | .xd fs => ∃ mA, h.Ns1 a mA ∧ ∀ f, RelO (fs.lookup f) (mA f)
  | .rng lo hi => ∃ t u v, h.get? a = some { cls := .type "range", data := .fields #[.int lo t, .int hi u, .int 1 v] }
  | .frz o u => h.get? a = some o ∧ ObjOk H h a u
  | .tbl ps => h.get? a = some { cls := .none, data := .fields ps }
  | .met f x => h.get? a = some (PySem.W.methodObj (.ref f) (.ref x))
  | .ext φ => φ h ∧ (∃ o, h.get? a = some o) ∧ ∀ h1 h2 : Heap, φ h1 → (∀ o, h1.get? a = some o → h2.get? a = some o) → φ h2
def HOk (H : Hp) (h : Heap) : Prop := ∀ a o, H a = some o → ObjOk P w H h a o
end

section
variable {P : Program} {w : World} {H H' : Hp} {h h' : Heap} {a : Addr} {o : HO}
theorem ObjOk.lt (x : ObjOk P w H h a o) : a < h.objs.size := by
  cases o with
  | lst xs => obtain ⟨_, _, _, _, e⟩ := x; exact Heap.lt_size e
  | tup xs => obtain ⟨_, _, _, p⟩ := x; exact p.lt
  | dK kvs => obtain ⟨_, _, _, _, o, _, _, e, _⟩ := x; exact Heap.lt_size e
  | dT kvs => obtain ⟨_, _, _, _, o, _, _, e, _⟩ := x; exact Heap.lt_size e
  | set S n => obtain ⟨o, _, _, _, e, _⟩ := x; exact Heap.lt_size e
  | ins C dx fs => obtain ⟨_, _, _, e, _⟩ := x; exact Heap.lt_size e
  | own y => obtain ⟨_, e⟩ := x; exact Heap.lt_size e
  | xd fs => obtain ⟨_, ⟨_, _, _, e, _⟩, _⟩ := x; exact Heap.lt_size e
  | rng lo hi => obtain ⟨_, _, _, e⟩ := x; exact Heap.lt_size e
  | frz ob u => obtain ⟨e, _⟩ := x; exact Heap.lt_size e
  | tbl ps => exact Heap.lt_size (show h.get? a = some _ from x)
  | met f y => exact Heap.lt_size (show h.get? a = some _ from x)
  | ext φ => obtain ⟨_, ⟨_, e⟩, _⟩ := x; exact Heap.lt_size e
theorem Paired.mapP {α β : Type} {F G : α → β → Prop} : ∀ {l₁ : List α} {l₂ : List β}, Paired F l₁ l₂ → (∀ a b, F a b → G a b) → Paired G l₁ l₂
  | _, _, .nil, _ => .nil
  | _, _, .cons r t, f => .cons (f _ _ r) (Paired.mapP t f)
theorem ObjOk.stay (x : ObjOk P w H h a o) (k : ∀ b u, (b = a ∨ H b = some (.own a)) → h.get? b = some u → h'.get? b = some u)
    (ho : ∀ b, H b = some (.own a) → H' b = some (.own a)) (ht : ∀ b xs, H b = some (.tup xs) → H' b = some (.tup xs)) : ObjOk P w H' h' a o := by
  induction o with
  | lst xs => obtain ⟨z, its, n, r, e⟩ := x; exact ⟨z, its, n, r, k _ _ (.inl rfl) e⟩
  | tup xs => obtain ⟨z, its, r, ob, e, c⟩ := x; exact ⟨z, its, r, ob, k _ _ (.inl rfl) e, c⟩
  | dK kvs => obtain ⟨z, y, vs, r, ob, es, ep, e, c⟩ := x; exact ⟨z, y, vs, r, ob, es, ep, k _ _ (.inl rfl) e, c⟩
  | dT kvs =>
    obtain ⟨z, y, xs, r, ob, es, ep, e, c⟩ := x
    exact ⟨z, y, xs, Paired.mapP r fun p q z => ⟨z.1, ht _ _ z.2.1, z.2.2⟩, ob, es, ep, k _ _ (.inl rfl) e, c⟩
  | set S n => obtain ⟨ob, es, ep, t, e, c⟩ := x; exact ⟨ob, es, ep, t, k _ _ (.inl rfl) e, c⟩
  | ins C dx fs =>
    obtain ⟨d, z, ne, e, mA, ⟨od, es, ep, e2, c⟩, r⟩ := x
    exact ⟨ho _ d, z, ne, k _ _ (.inl rfl) e, mA, ⟨od, es, ep, k _ _ (.inr d) e2, c⟩, r⟩
  | own y => obtain ⟨ob, e⟩ := x; exact ⟨ob, k _ _ (.inl rfl) e⟩
  | xd fs => obtain ⟨mA, ⟨od, es, ep, e, c⟩, r⟩ := x; exact ⟨mA, ⟨od, es, ep, k _ _ (.inl rfl) e, c⟩, r⟩
  | rng lo hi => obtain ⟨t, u, v, e⟩ := x; exact ⟨t, u, v, k _ _ (.inl rfl) e⟩
  | frz ob u ih => obtain ⟨e, q⟩ := x; exact ⟨k _ _ (.inl rfl) e, ih q⟩
  | tbl ps =>
    have e : h.get? a = some { cls := .none, data := .fields ps } := x
    show h'.get? a = some { cls := .none, data := .fields ps }
    exact k a _ (.inl rfl) e
  | met f y =>
    have e : h.get? a = some (PySem.W.methodObj (.ref f) (.ref y)) := x
    show h'.get? a = some (PySem.W.methodObj (.ref f) (.ref y))
    exact k a _ (.inl rfl) e
  | ext φ => obtain ⟨p, ⟨o, e⟩, st⟩ := x; exact ⟨st _ _ p fun o q => k _ _ (.inl rfl) q, ⟨o, k _ _ (.inl rfl) e⟩, st⟩
theorem HOk.lt (x : HOk P w H h) (e : H a = some o) : a < h.objs.size := (x a o e).lt
theorem HOk.fresh (x : HOk P w H h) (e : h.objs.size ≤ a) : H a = none := by
  cases q : H a with
  | none => rfl
  | some u => exact absurd (Nat.lt_of_lt_of_le (x.lt q) e) (Nat.lt_irrefl _)
theorem HOk.kept (x : HOk P w H h) (k : ∀ b u, h.get? b = some u → h'.get? b = some u) : HOk P w H h' := fun a o e =>
  (x a o e).stay (fun b u _ q => k b u q) (fun _ q => q) fun _ _ q => q
theorem HOk.laid (x : HOk P w H h) (k : ∀ b u, h.get? b = some u → h'.get? b = some u) (hp : h.objs.size ≤ a) (new : ObjOk P w (upd H a o) h' a o) : HOk P w (upd H a o) h' := fun b u e => by
  have hn := x.fresh hp
  by_cases hb : b = a
  · subst hb; rw [upd_same] at e; cases e; exact new
  · rw [upd_ne hb] at e
    exact (x b u e).stay (fun c v _ q => k c v q) (fun c q => by rw [upd_ne (ne_of_none q hn)]; exact q) fun c xs q => by rw [upd_ne (ne_of_none q hn)]; exact q
end

def Rd (H : Hp) (a : Addr) (u : HO) : Prop := H a = some u ∨ ∃ o, H a = some (.frz o u)
theorem Rd.ok {P : Program} {w : World} {H : Hp} {h : Heap} {a : Addr} {u : HO} (r : Rd H a u) (x : HOk P w H h) : ObjOk P w H h a u := by
  rcases r with r | ⟨o, r⟩
  · exact x a u r
  · obtain ⟨_, q⟩ := x a _ r
    exact q
def Mut : Option HO → Prop
  | some (.lst _) => True
  | some (.dK _) => True
  | some (.dT _) => True
  | some (.set _ _) => True
  | some (.ins _ _ _) => True
  | some (.ext _) => True
  | _ => False
section
variable {P : Program} {w : World} {H : Hp} {h h' : Heap} {x e : Addr} {o' : HO}
theorem HOk.write (ok : HOk P w H h) (mu : Mut (H x)) (he : e = x ∨ H e = some (.own x)) (k : ∀ b u, b ≠ e → h.get? b = some u → h'.get? b = some u) (heo : ∃ u, h'.get? e = some u)
    (new : ObjOk P w (upd H x o') h' x o') : HOk P w (upd H x o') h' := fun b u q => by
  have nown : ∀ c y, H c = some (.own y) → c ≠ x := fun c y r z => by subst z; rw [r] at mu; exact mu
  have ntup : ∀ c xs, H c = some (.tup xs) → c ≠ x := fun c xs r z => by subst z; rw [r] at mu; exact mu
  by_cases hb : b = x
  · subst hb; rw [upd_same] at q; cases q; exact new
  · rw [upd_ne hb] at q
    by_cases hbe : b = e
    · have q' : H b = some (.own x) := by
        rcases he with z | z
        · exact absurd (hbe.trans z) hb
        · rw [hbe]; exact z
      rw [q] at q'; cases q'
      obtain ⟨v, hv⟩ := heo
      exact ⟨v, by rw [hbe]; exact hv⟩
    · refine (ok b u q).stay (fun c v hc r => k c v ?_ r) (fun c r => by rw [upd_ne (nown c b r)]; exact r) fun c xs r => by rw [upd_ne (ntup c xs r)]; exact r
      rcases hc with rfl | hc
      · exact hbe
      · rintro rfl
        rcases he with z | z
        · exact nown c b hc z
        · rw [hc] at z; cases z; exact hb rfl
end

structure Un (fs ex : List Addr) (H H' : Hp) (h h' : Heap) : Prop where
  keep : ∀ b o, h.get? b = some o → H b = none → b ∉ fs → b ∉ ex → h'.get? b = some o
  slot : ∀ b o, h.get? b = some o → H b = none → b ∈ fs → b ∉ ex → ∃ sl, h'.get? b = some { o with slots := sl }
  free : ∀ b o, h.get? b = some o → H b = none → b ∉ ex → H' b = none
  there : ∀ b o, h.get? b = some o → b ∉ ex → ∃ o', h'.get? b = some o'
  tups : ∀ b xs, H b = some (.tup xs) → H' b = some (.tup xs)
  frzs : ∀ b o u, H b = some (.frz o u) → H' b = some (.frz o u)
  tbls : ∀ b ps, H b = some (.tbl ps) → ∃ more, H' b = some (.tbl (ps ++ more))
section
variable {fs fs' ex ex' : List Addr} {H H1 H2 : Hp} {h h1 h2 h' : Heap} {a x e : Addr} {o : HO}
theorem Un.any (u : Un fs ex H H1 h h1) {b : Addr} {ob : Obj} (q : h.get? b = some ob) (n : H b = none) (hx : b ∉ ex) : ∃ sl, h1.get? b = some { ob with slots := sl } := by
  by_cases hb : b ∈ fs
  · exact u.slot b ob q n hb hx
  · exact ⟨ob.slots, u.keep b ob q n hb hx⟩
theorem Un.kept (k : ∀ b u, h.get? b = some u → h'.get? b = some u) : Un fs ex H H h h' :=
  ⟨fun b ob q _ _ _ => k b ob q, fun b ob q _ _ _ => ⟨ob.slots, k b ob q⟩, fun _ _ _ n _ => n, fun b ob q _ => ⟨ob, k b ob q⟩, fun _ _ q => q, fun _ _ _ q => q, fun _ ps q => ⟨#[], by rw [q]; simp⟩⟩
theorem Un.refl : Un fs ex H H h h := Un.kept fun _ _ q => q
theorem Un.laid (k : ∀ b u, h.get? b = some u → h'.get? b = some u) (hp : h.objs.size ≤ a) (hn : H a = none) : Un fs ex H (upd H a o) h h' where
  keep := fun b u q _ _ _ => k b u q
  slot := fun b u q _ _ _ => ⟨u.slots, k b u q⟩
  free := fun b u q n _ => by rw [upd_ne (Nat.ne_of_lt (Nat.lt_of_lt_of_le (Heap.lt_size q) hp))]; exact n
  there := fun b u q _ => ⟨u, k b u q⟩
  tups := fun b xs q => by rw [upd_ne (ne_of_none q hn)]; exact q
  frzs := fun b u xs q => by rw [upd_ne (ne_of_none q hn)]; exact q
  tbls := fun b ps q => ⟨#[], by rw [upd_ne (ne_of_none q hn), q]; simp⟩
theorem Un.write (mu : Mut (H x)) (he : e = x ∨ H e = some (.own x)) (k : ∀ b u, b ≠ e → h.get? b = some u → h'.get? b = some u) (heo : ∃ u, h'.get? e = some u) : Un fs ex H (upd H x o) h h' := by
  have hx : ∀ b, H b = none → b ≠ x := fun b n z => by subst z; rw [n] at mu; exact mu
  have hb : ∀ b, H b = none → b ≠ e := fun b n z => by
    subst z
    rcases he with r | r
    · exact hx b n r
    · rw [n] at r; cases r
  have hm : ∀ b u, H b = some u → ¬ Mut (some u) → b ≠ x := fun b u q nm z => by subst z; rw [q] at mu; exact nm mu
  refine ⟨fun b u q n _ _ => k b u (hb b n) q, fun b u q n _ _ => ⟨u.slots, k b u (hb b n) q⟩, fun b u q n _ => by rw [upd_ne (hx b n)]; exact n, fun b u q _ => ?_,
    fun b xs q => by rw [upd_ne (hm b _ q fun z => z)]; exact q, fun b u xs q => by rw [upd_ne (hm b _ q fun z => z)]; exact q, fun b ps q => ⟨#[], by rw [upd_ne (hm b _ q fun z => z), q]; simp⟩⟩
  by_cases hbe : b = e
  · subst hbe; exact heo
  · exact ⟨u, k b u hbe q⟩
end

def trk (h : Heap) (H : Hp) : List Addr := (List.range h.objs.size).filter fun a => (H a).isSome
def hidT (h : Heap) (H : Hp) : Heap := PySem.W.hideAll h (trk h H)
theorem hidT_size (h : Heap) (H : Hp) : (hidT h H).objs.size = h.objs.size := PySem.W.hideAll_size _ _
theorem hidT_get {h : Heap} {H : Hp} {b : Addr} {o : Obj} (e : h.get? b = some o) (n : H b = none) : (hidT h H).get? b = some o :=
  PySem.W.hideAll_get _ e fun hm => by
    have q : (H b).isSome = true := (List.mem_filter.mp hm).2
    rw [n] at q; simp at q
theorem of_hidT {h : Heap} {H : Hp} {b : Addr} {o : Obj} (e : (hidT h H).get? b = some o) : h.get? b = some o ∧ H b = none := by
  have e' : h.get? b = some o := PySem.W.of_hideAll (trk h H) e
  refine ⟨e', ?_⟩
  cases q : H b with
  | none => rfl
  | some x =>
    have hm : b ∈ trk h H := List.mem_filter.mpr ⟨List.mem_range.mpr (Heap.lt_size e'), by simp [q]⟩
    have z : (hidT h H).get? b = none := PySem.W.hideAll_none (trk h H) hm
    rw [z] at e; cases e

def allNews (g h : Heap) (L : Addr) : List (Addr × Obj) := (List.range h.objs.size).filterMap fun a => if a = L ∨ (g.get? a).isSome = true then none else (h.get? a).map fun o => (a, o)
def rest (g h : Heap) (L d : Addr) : List (Addr × Obj) := (allNews g h L).filter fun p => decide (p.1 ≠ d)
end L2

namespace L2
open PySem PySem.Spec PyProof.Rows

structure Mod (K : PySem.W.Frag) (mg : Str → Option Value) (base : Heap) : Prop where
  kin : K.In base
  glob : base.Ns mainGlobals mg
  blt : ∃ mb, base.Ns builtinsNs mb ∧ ∀ x : Str, x ≠ "__name__" → mb x = bootBuiltins x
  nolimit : base.NoLimit

structure Cx where
  prog : Program
  w : World
  K : PySem.W.Frag
  mg : Str → Option Value
  base : Heap
  A : Around
  N : List Str
  s₀ : Shared
  H₀ : Hp
  env : Env
  outer : List Env
  stack : List Env
  ex : List Addr
  fn : Str → Bool
  calm : Bool
  pn : List (Addr × Obj)
  xe : Value → Shared → Prop
def frs (l : List Env) : List Addr := l.filterMap (·.frame)
abbrev Cx.fs (X : Cx) : List Addr := frs X.outer

def Vis (sc : Scope) (x : Str) : Prop := sc.names.lookup x = some .local ∨ sc.names.lookup x = some .cell ∨ sc.names.lookup x = some .free
def Loc (sc : Scope) (x : Str) : Prop := sc.names.lookup x = some .local ∨ sc.names.lookup x = some .cell
def Look (env : Env) (h : Heap) (m : Str → Option Value) (x : Str) (u : Value) : Prop :=
  (env.kindOf x = some .local ∧ m x = some u) ∨ ((env.kindOf x = some .cell ∨ env.kindOf x = some .free) ∧ ∃ c, env.cells.lookup x = some c ∧ h.IsCell c (some u))

structure Cx.Ok (X : Cx) : Prop where
  mod : Mod X.K X.mg X.base
  kind : X.env.scope.kind = .function
  glob : X.env.globals = mainGlobals
  blt : X.env.builtins = builtinsNs
  above : X.s₀.heap.objs.size ≤ X.env.locals
  inj : ∀ x y c, X.env.cells.lookup x = some c → X.env.cells.lookup y = some c → x = y
  has : ∀ x, (X.env.kindOf x = some .cell ∨ X.env.kindOf x = some .free) → ∃ c, X.env.cells.lookup x = some c
  cab : ∀ x c, X.fn x = true → X.env.cells.lookup x = some c → X.s₀.heap.objs.size ≤ c
  hd : X.calm = true → X.A.handled = none
  frames : X.A.frames = some X.stack
  stk : X.stack = X.outer ∨ (X.stack = X.env :: X.outer ∧ X.env.frame = some X.env.locals)
  exf : ∀ b ∈ X.ex, b ≠ X.env.locals ∧ ∀ x c, X.env.cells.lookup x = some c → c ≠ b
  bs : ∀ b o, X.base.get? b = some o → X.s₀.heap.get? b = some o ∧ X.H₀ b = none
  bsz : X.base.objs.size ≤ X.s₀.heap.objs.size
  noex : ∀ b o, X.base.get? b = some o → b ∉ X.ex
  exfs : ∀ b ∈ X.ex, b ∉ X.fs
  funs : X.s₀.heap.FunFrames X.base X.outer
  frf : ∀ b ∈ X.fs, X.H₀ b = none

structure Inv (X : Cx) (pins : List (Addr × Obj)) (σ : List (Option V)) (H : Hp) (s : Shared) : Prop where
  ok : X.Ok
  os : s.os = X.s₀.os
  bare : AllBare s.gens
  base : Un X.fs X.ex X.H₀ H X.s₀.heap s.heap
  loc : ∃ m, s.heap.Ns X.env.locals m ∧ ∀ (i : Nat) (x : Str) (v : V), X.N[i]? = some x → σ[i]? = some (some v) → Vis X.env.scope x → ∃ u, RelV v u ∧ Look X.env s.heap m x u
  cell : ∀ x c, X.env.cells.lookup x = some c → ∃ v, s.heap.IsCell c v
  free : H X.env.locals = none
  freeC : ∀ x c, X.env.cells.lookup x = some c → H c = none
  pin : ∀ p ∈ X.pn ++ pins, s.heap.get? p.1 = some p.2 ∧ H p.1 = none ∧ p.1 ≠ X.env.locals ∧ p.1 ∉ X.fs ∧ ∀ v, p.2.data ≠ .cell v
  hok : HOk X.prog X.w H s.heap
  len : σ.length = X.N.length

section
variable {X : Cx} {pins : List (Addr × Obj)} {σ : List (Option V)} {H H' : Hp} {s : Shared} {h' : Heap}

theorem Cx.Ok.nofr (ok : X.Ok) {b : Addr} {o : Obj} (e : X.base.get? b = some o) : b ∉ X.fs := fun hb => by
  have := (ok.funs.mem hb).1
  rw [e] at this; cases this
theorem Inv.bs (I : Inv X pins σ H s) : ∀ b o, X.base.get? b = some o → s.heap.get? b = some o ∧ H b = none := fun b o e =>
  ⟨I.base.keep b o (I.ok.bs b o e).1 (I.ok.bs b o e).2 (I.ok.nofr e) (I.ok.noex b o e), I.base.free b o (I.ok.bs b o e).1 (I.ok.bs b o e).2 (I.ok.noex b o e)⟩
theorem Inv.bk (I : Inv X pins σ H s) : ∀ b o, X.base.get? b = some o → s.heap.get? b = some o := fun b o e => (I.bs b o e).1
theorem Inv.mod (I : Inv X pins σ H s) : Mod X.K X.mg X.base := I.ok.mod
theorem Inv.kIn (I : Inv X pins σ H s) : X.K.In s.heap := I.ok.mod.kin.keeps I.bk
theorem Inv.lt (I : Inv X pins σ H s) : X.env.locals < s.heap.objs.size := let ⟨_, hn, _⟩ := I.loc; hn.lt
theorem Inv.sz (I : Inv X pins σ H s) : X.s₀.heap.objs.size ≤ s.heap.objs.size := Nat.le_trans I.ok.above (Nat.le_of_lt I.lt)
theorem Inv.nofs (I : Inv X pins σ H s) {a : Addr} (h : s.heap.objs.size ≤ a) : a ∉ X.fs := fun hb => by
  obtain ⟨_, o, ho, _⟩ := I.ok.funs.mem hb
  exact absurd (Nat.lt_of_lt_of_le (Heap.lt_size ho) (Nat.le_trans I.sz h)) (Nat.lt_irrefl _)
theorem Inv.cne (I : Inv X pins σ H s) : ∀ x c, X.env.cells.lookup x = some c → c ≠ X.env.locals := fun x c e z => by
  obtain ⟨v, o, ho, hd⟩ := I.cell x c e
  obtain ⟨m, ⟨o', es, ep, ho', hd', _⟩, _⟩ := I.loc
  rw [z, ho'] at ho; cases ho; rw [hd'] at hd; cases hd
theorem Inv.funs (I : Inv X pins σ H s) : s.heap.FunFrames X.base X.outer := by
  have all : ∀ (l : List Env), (∀ b ∈ frs l, b ∈ X.fs) → X.s₀.heap.FunFrames X.base l → s.heap.FunFrames X.base l := by
    intro l
    induction l with
    | nil => intro _ _; trivial
    | cons env r ih =>
      intro hs hl
      obtain ⟨hk, ⟨L, o, hf, hn, ho, hd⟩, hr⟩ := hl
      have hL : L ∈ X.fs := hs L (by unfold frs; rw [List.filterMap_cons, hf]; exact List.mem_cons_self)
      obtain ⟨sl, e⟩ := I.base.slot L o ho (I.ok.frf L hL) hL fun z => I.ok.exfs L z hL
      exact ⟨hk, ⟨L, _, hf, hn, e, hd⟩, ih (fun b hb => hs b (by unfold frs; rw [List.filterMap_cons, hf]; exact List.mem_cons_of_mem _ hb)) hr⟩
  exact all X.outer (fun _ hb => hb) I.ok.funs

theorem Inv.stack (I : Inv X pins σ H s) : s.heap.FunFrames X.base X.stack := by
  rcases I.ok.stk with e | ⟨e, hf⟩
  · rw [e]; exact I.funs
  · rw [e]
    obtain ⟨m, hn, _⟩ := I.loc
    refine .cons (by rw [I.ok.kind]; decide) hf hn ?_ I.funs
    exact Heap.get?_none_of_le (Nat.le_trans I.ok.bsz I.ok.above)
theorem Inv.stkSub (I : Inv X pins σ H s) : ∀ b ∈ frs X.stack, b ∈ X.env.locals :: X.fs := fun b hb => by
  rcases I.ok.stk with e | ⟨e, hf⟩
  · rw [e] at hb; exact List.mem_cons_of_mem _ hb
  · rw [e] at hb
    unfold frs at hb
    rw [List.filterMap_cons, hf] at hb
    exact hb
theorem Inv.stkFree (I : Inv X pins σ H s) : ∀ b ∈ frs X.stack, H b = none := fun b hb => by
  rcases List.mem_cons.mp (I.stkSub b hb) with e | hb
  · rw [e]; exact I.free
  · obtain ⟨_, o, ho, _⟩ := I.ok.funs.mem hb
    exact I.base.free b o ho (I.ok.frf b hb) fun z => I.ok.exfs b z hb

theorem Inv.step {g' : Array GenState} {t' : Nat} {d' : Drawn} {ch : List Addr} (I : Inv X pins σ H s)
    (hch : ∀ b ∈ ch, (b ∈ X.ex ∨ X.s₀.heap.objs.size ≤ b) ∧ b ≠ X.env.locals ∧ (∀ x c, X.env.cells.lookup x = some c → c ≠ b) ∧ ∀ p ∈ X.pn ++ pins, p.1 ≠ b)
    (keep : ∀ b o, b ≠ X.env.locals → b ∉ X.fs → b ∉ ch → s.heap.get? b = some o → H b = none → h'.get? b = some o)
    (slot : ∀ b o, b ≠ X.env.locals → b ∈ X.fs → b ∉ ch → s.heap.get? b = some o → H b = none → ∃ sl, h'.get? b = some { o with slots := sl }) (free : ∀ b o, b ∉ ch → s.heap.get? b = some o → H b = none → H' b = none)
    (there : ∀ b o, b ∉ ch → s.heap.get? b = some o → ∃ o', h'.get? b = some o')
    (tups : ∀ b xs, H b = some (.tup xs) → H' b = some (.tup xs)) (frzs : ∀ b o u, H b = some (.frz o u) → H' b = some (.frz o u)) (tbls : ∀ b ps, H b = some (.tbl ps) → ∃ more, H' b = some (.tbl (ps ++ more)))
    (ns : ∀ m, s.heap.Ns X.env.locals m → h'.Ns X.env.locals m) (hok : HOk X.prog X.w H' h') (hg : AllBare g') :
    Inv X pins σ H' { s with heap := h', gens := g', drawn := d', toks := t' } := by
  have neL : ∀ b o, X.s₀.heap.get? b = some o → b ≠ X.env.locals := fun b o e => Nat.ne_of_lt (Nat.lt_of_lt_of_le (Heap.lt_size e) I.ok.above)
  have neC : ∀ b o, X.s₀.heap.get? b = some o → b ∉ X.ex → b ∉ ch := fun b o e hx hb => by
    rcases (hch b hb).1 with z | z
    · exact hx z
    · exact absurd (Nat.lt_of_lt_of_le (Heap.lt_size e) z) (Nat.lt_irrefl _)
  have cellK : ∀ x c, X.env.cells.lookup x = some c → ∀ v, s.heap.IsCell c v → h'.IsCell c v := fun x c e v ⟨o, ho, hd⟩ => by
    have nch : c ∉ ch := fun z => (hch c z).2.2.1 x c e rfl
    by_cases hc : c ∈ X.fs
    · obtain ⟨sl, q⟩ := slot c o (I.cne x c e) hc nch ho (I.freeC x c e)
      exact ⟨_, q, hd⟩
    · exact ⟨o, keep c o (I.cne x c e) hc nch ho (I.freeC x c e), hd⟩
  refine ⟨I.ok, I.os, hg, ⟨fun b o e n hb hx => ?_, fun b o e n hb hx => ?_, fun b o e n hx => ?_, fun b o e hx => ?_, fun b xs e => tups b xs (I.base.tups b xs e), fun b o xs e => frzs b o xs (I.base.frzs b o xs e), fun b ps e => ?_⟩, ?_, fun x c e => ?_, ?_, fun x c e => ?_, fun p hp => ?_, hok, I.len⟩
  · exact keep b o (neL b o e) hb (neC b o e hx) (I.base.keep b o e n hb hx) (I.base.free b o e n hx)
  · obtain ⟨sl, e1⟩ := I.base.slot b o e n hb hx
    obtain ⟨sl', e2⟩ := slot b _ (neL b o e) hb (neC b o e hx) e1 (I.base.free b o e n hx)
    exact ⟨sl', e2⟩
  · obtain ⟨o', e1⟩ := I.base.there b o e hx
    exact free b o' (neC b o e hx) e1 (I.base.free b o e n hx)
  · obtain ⟨o', e1⟩ := I.base.there b o e hx
    exact there b o' (neC b o e hx) e1
  · obtain ⟨m1, e1⟩ := I.base.tbls b ps e
    obtain ⟨m2, e2⟩ := tbls b _ e1
    exact ⟨m1 ++ m2, by rw [e2, Array.append_assoc]⟩
  · obtain ⟨m, hn, hl⟩ := I.loc
    refine ⟨m, ns m hn, fun i x v e1 e2 e3 => ?_⟩
    obtain ⟨u, r, l⟩ := hl i x v e1 e2 e3
    refine ⟨u, r, ?_⟩
    rcases l with l | ⟨k, c, e, z⟩
    · exact .inl l
    · exact .inr ⟨k, c, e, cellK x c e _ z⟩
  · obtain ⟨v, z⟩ := I.cell x c e
    exact ⟨v, cellK x c e v z⟩
  · obtain ⟨m, ⟨o, _, _, ho, _⟩, _⟩ := I.loc
    exact free _ o (fun z => (hch _ z).2.1 rfl) ho I.free
  · obtain ⟨v, o, ho, hd⟩ := I.cell x c e
    exact free c o (fun z => (hch c z).2.2.1 x c e rfl) ho (I.freeC x c e)
  · obtain ⟨e, n, ne, nf, d⟩ := I.pin p hp
    have nch : p.1 ∉ ch := fun z => (hch p.1 z).2.2.2 p hp rfl
    exact ⟨keep p.1 p.2 ne nf nch e n, free p.1 p.2 nch e n, ne, nf, d⟩
theorem Inv.un {t' : Nat} (I : Inv X pins σ H s) (u : Un X.fs [] H H' s.heap h') (hok : HOk X.prog X.w H' h') : Inv X pins σ H' { s with heap := h', toks := t' } := by
  obtain ⟨m, ⟨o, es, ep, ho, r⟩, _⟩ := id I.loc
  obtain ⟨sl, hL⟩ := u.any ho I.free (by simp)
  exact I.step (g' := s.gens) (d' := s.drawn) (ch := []) (fun _ z => nomatch z) (fun b o _ hb _ e n => u.keep b o e n hb (by simp)) (fun b o _ hb _ e n => u.slot b o e n hb (by simp)) (fun b o _ e n => u.free b o e n (by simp)) (fun b o _ e => u.there b o e (by simp)) u.tups u.frzs u.tbls (fun m' hm => by
    obtain ⟨o', es', ep', ho', r'⟩ := hm
    rw [ho] at ho'; cases ho'
    exact ⟨_, es', ep', hL, r'⟩) hok I.bare
theorem Inv.call {g' : Array GenState} {t' : Nat} {d' : Drawn} {ch : List Addr} (I : Inv X pins σ H s) (u : Un (frs X.stack) ch H H' s.heap h') (hok : HOk X.prog X.w H' h') (hg : AllBare g')
    (hch : ∀ b ∈ ch, (b ∈ X.ex ∨ X.s₀.heap.objs.size ≤ b) ∧ b ≠ X.env.locals ∧ (∀ x c, X.env.cells.lookup x = some c → c ≠ b) ∧ ∀ p ∈ X.pn ++ pins, p.1 ≠ b) :
    Inv X pins σ H' { s with heap := h', gens := g', drawn := d', toks := t' } := by
  obtain ⟨m, ⟨o, es, ep, ho, r⟩, _⟩ := id I.loc
  obtain ⟨sl, hL⟩ := u.any ho I.free fun z => (hch _ z).2.1 rfl
  exact I.step (ch := ch) hch (fun b o hL hb hc e n => u.keep b o e n (fun z => (List.mem_cons.mp (I.stkSub b z)).elim hL hb) hc) (fun b o _ _ hc e n => u.any e n hc) (fun b o hc e n => u.free b o e n hc) (fun b o hc e => u.there b o e hc) u.tups u.frzs u.tbls (fun m' hm => by
    obtain ⟨o', es', ep', ho', r'⟩ := hm
    rw [ho] at ho'; cases ho'
    exact ⟨_, es', ep', hL, r'⟩) hok hg
theorem Inv.turned {t' : Nat} {it : Addr} (I : Inv X pins σ H s) (k : ∀ b o, b ≠ it → s.heap.get? b = some o → h'.get? b = some o) (hn : H it = none) (hL : it ≠ X.env.locals)
    (h1 : it ∈ X.ex ∨ X.s₀.heap.objs.size ≤ it) (h2 : ∀ x c, X.env.cells.lookup x = some c → c ≠ it) (h3 : ∀ p ∈ X.pn ++ pins, p.1 ≠ it) : Inv X pins σ H { s with heap := h', toks := t' } := by
  have nit : ∀ b u, H b = some u → b ≠ it := fun b u e z => by rw [z, hn] at e; cases e
  refine I.step (g' := s.gens) (d' := s.drawn) (ch := [it]) (fun b hb => ?_) (fun b o _ _ hc e _ => k b o (fun z => hc (by simp [z])) e) (fun b o _ _ hc e _ => ⟨o.slots, k b o (fun z => hc (by simp [z])) e⟩) (fun _ _ _ _ n => n)
    (fun b o hc e => ⟨o, k b o (fun z => hc (by simp [z])) e⟩) (fun _ _ e => e) (fun _ _ _ e => e) (fun b ps e => ⟨#[], by rw [e]; simp⟩) (fun m hm => ?_) (fun b u e => ?_) I.bare
  · have e : b = it := by simpa using hb
    subst e
    exact ⟨h1, hL, h2, h3⟩
  · obtain ⟨o, es, ep, ho, r⟩ := hm
    exact ⟨o, es, ep, k _ o (Ne.symm hL) ho, r⟩
  · refine (I.hok b u e).stay (fun c v hc q => k c v ?_ q) (fun _ q => q) fun _ _ q => q
    rcases hc with z | z
    · rw [z]; exact nit b u e
    · exact nit c _ z
theorem Inv.tok (I : Inv X pins σ H s) (t : Nat) : Inv X pins σ H { s with toks := t } := I.un (h' := s.heap) (t' := t) Un.refl I.hok
theorem Inv.kept {t' : Nat} (I : Inv X pins σ H s) (k : ∀ b u, s.heap.get? b = some u → h'.get? b = some u) : Inv X pins σ H { s with heap := h', toks := t' } := I.un (Un.kept k) (I.hok.kept k)
theorem Inv.laid {a : Addr} {o : HO} {t' : Nat} (I : Inv X pins σ H s) (k : ∀ b u, s.heap.get? b = some u → h'.get? b = some u) (hp : s.heap.objs.size ≤ a) (new : ObjOk X.prog X.w (upd H a o) h' a o) :
    Inv X pins σ (upd H a o) { s with heap := h', toks := t' } := I.un (Un.laid k hp (I.hok.fresh hp)) (I.hok.laid k hp new)
theorem Inv.write {x e : Addr} {o : HO} {t' : Nat} (I : Inv X pins σ H s) (mu : Mut (H x)) (he : e = x ∨ H e = some (.own x)) (k : ∀ b u, b ≠ e → s.heap.get? b = some u → h'.get? b = some u) (heo : ∃ u, h'.get? e = some u)
    (new : ObjOk X.prog X.w (upd H x o) h' x o) : Inv X pins σ (upd H x o) { s with heap := h', toks := t' } := I.un (Un.write mu he k heo) (I.hok.write mu he k heo new)
theorem Inv.pins_of {pins' : List (Addr × Obj)} (I : Inv X pins σ H s) (h : ∀ p ∈ pins', s.heap.get? p.1 = some p.2 ∧ H p.1 = none ∧ p.1 ≠ X.env.locals ∧ p.1 ∉ X.fs ∧ ∀ v, p.2.data ≠ .cell v) : Inv X pins' σ H s :=
  ⟨I.ok, I.os, I.bare, I.base, I.loc, I.cell, I.free, I.freeC, fun p hp => (List.mem_append.mp hp).elim (fun z => I.pin p (List.mem_append_left _ z)) (h p), I.hok, I.len⟩

theorem nodup_ix {N : List Str} (hN : N.Nodup) {i j : Nat} {x : Str} (a : N[i]? = some x) (b : N[j]? = some x) : i = j := by
  obtain ⟨h1, e1⟩ := List.getElem?_eq_some_iff.mp a
  obtain ⟨h2, e2⟩ := List.getElem?_eq_some_iff.mp b
  exact (List.getElem_inj hN).mp (e1.trans e2.symm)

theorem store_ok2 {M : Model} {A : Around} {E : Value → Shared → Prop} {i : Nat} {x : Str} {v : V} {u : Value} {Q : Unit → Shared → Prop} (I : Inv X pins σ H s) (hN : X.N.Nodup) (hi : X.N[i]? = some x) (hx : Loc X.env.scope x) (r : RelV v u)
    (h : ∀ s', Inv X pins (σ.set i (some v)) H s' → (∃ a, Heap.SameBut a s.heap s'.heap ∧ (a = X.env.locals ∨ X.env.cells.lookup x = some a)) → Q () s') (hf : X.fn x = true ∨ X.env.scope.names.lookup x = some .local := by first | exact .inl rfl | exact .inr rfl | assumption) : wpAny M A (storeName X.env x u) Q E s := by
  obtain ⟨m, hn, hl⟩ := id I.loc
  have hcls : (X.env.scope.kind == .class || (X.env.scope.kind == .module && X.env.locals != X.env.globals)) = false := by rw [I.ok.kind]; rfl
  have hiσ : i < σ.length := by rw [I.len]; exact (List.getElem?_eq_some_iff.mp hi).1
  have cne := I.cne
  have tracked : ∀ {a : Addr} {h' : Heap}, (∃ o, s.heap.get? a = some o ∧ H a = none) → Heap.SameBut a s.heap h' → HOk X.prog X.w H h' := fun {a h'} ha hs b ob e => by
    obtain ⟨_, _, hfree⟩ := ha
    refine (I.hok b ob e).stay (fun c w' hc q => (hs.2 c ?_).trans q) (fun _ q => q) fun _ _ q => q
    rintro rfl
    rcases hc with rfl | hc
    · rw [hfree] at e; cases e
    · rw [hfree] at hc; cases hc
  rcases hx with hk | hk
  · refine wpAny_storeName_local hk hn (fun h' hn' hs => ?_) hcls
    obtain ⟨oL, _, _, hoL, _⟩ := id hn
    refine h _ ⟨I.ok, I.os, I.bare, ⟨fun b o e n hb hx => ?_, fun b o e n hb hx => ?_, I.base.free, fun b o e hx => ?_, I.base.tups, I.base.frzs, I.base.tbls⟩, ⟨_, hn', fun j y v' e1 e2 e3 => ?_⟩, fun y c e => ?_, I.free, I.freeC, fun p hp => ?_, tracked ⟨oL, hoL, I.free⟩ hs, by simpa using I.len⟩ ⟨_, hs, .inl rfl⟩
    · exact (hs.2 b (Nat.ne_of_lt (Nat.lt_of_lt_of_le (Heap.lt_size e) I.ok.above))).trans (I.base.keep b o e n hb hx)
    · obtain ⟨sl, e1⟩ := I.base.slot b o e n hb hx
      exact ⟨sl, (hs.2 b (Nat.ne_of_lt (Nat.lt_of_lt_of_le (Heap.lt_size e) I.ok.above))).trans e1⟩
    · obtain ⟨o', e1⟩ := I.base.there b o e hx
      exact ⟨o', (hs.2 b (Nat.ne_of_lt (Nat.lt_of_lt_of_le (Heap.lt_size e) I.ok.above))).trans e1⟩
    · by_cases hj : j = i
      · subst hj
        rw [hi] at e1; cases e1
        rw [List.getElem?_set_self hiσ] at e2
        cases e2
        exact ⟨u, r, .inl ⟨hk, by simp⟩⟩
      · rw [List.getElem?_set_ne (Ne.symm hj)] at e2
        obtain ⟨u', r', q⟩ := hl j y v' e1 e2 e3
        refine ⟨u', r', ?_⟩
        rcases q with ⟨k, e⟩ | ⟨k, c, e, z⟩
        · refine .inl ⟨k, ?_⟩
          have : y ≠ x := fun e => hj (nodup_ix hN e1 (e ▸ hi))
          simp [this, e]
        · exact .inr ⟨k, c, e, z.sameBut hs (cne y c e)⟩
    · obtain ⟨w', z⟩ := I.cell y c e
      exact ⟨w', z.sameBut hs (cne y c e)⟩
    · obtain ⟨e, n, ne, nf, d⟩ := I.pin p hp
      exact ⟨(hs.2 p.1 ne).trans e, n, ne, nf, d⟩
  · have hfn : X.fn x = true := by
      rcases hf with z | z
      · exact z
      · rw [z] at hk; cases hk
    obtain ⟨c, hc⟩ := I.ok.has x (.inl hk)
    obtain ⟨w', z⟩ := I.cell x c hc
    refine wpAny_storeName_cell I.ok.kind hk hc z (fun h' hc' hs => ?_)
    obtain ⟨oc, hoc, hocd⟩ := id z
    refine h { s with heap := h' } ⟨I.ok, I.os, I.bare, ⟨fun b o e n hb hx => ?_, fun b o e n hb hx => ?_, I.base.free, fun b o e hx => ?_, I.base.tups, I.base.frzs, I.base.tbls⟩, ⟨m, hn.sameBut hs (Ne.symm (cne x c hc)), fun j y v' e1 e2 e3 => ?_⟩, fun y c' e => ?_, I.free, I.freeC, fun p hp => ?_, tracked ⟨oc, hoc, I.freeC x c hc⟩ hs, by simpa using I.len⟩ ⟨c, hs, .inr hc⟩
    · exact (hs.2 b (Nat.ne_of_lt (Nat.lt_of_lt_of_le (Heap.lt_size e) (I.ok.cab x c hfn hc)))).trans (I.base.keep b o e n hb hx)
    · obtain ⟨sl, e1⟩ := I.base.slot b o e n hb hx
      exact ⟨sl, (hs.2 b (Nat.ne_of_lt (Nat.lt_of_lt_of_le (Heap.lt_size e) (I.ok.cab x c hfn hc)))).trans e1⟩
    · obtain ⟨o', e1⟩ := I.base.there b o e hx
      exact ⟨o', (hs.2 b (Nat.ne_of_lt (Nat.lt_of_lt_of_le (Heap.lt_size e) (I.ok.cab x c hfn hc)))).trans e1⟩
    · by_cases hj : j = i
      · subst hj
        rw [hi] at e1; cases e1
        rw [List.getElem?_set_self hiσ] at e2
        cases e2
        exact ⟨u, r, .inr ⟨.inl hk, c, hc, hc'⟩⟩
      · rw [List.getElem?_set_ne (Ne.symm hj)] at e2
        obtain ⟨u', r', q⟩ := hl j y v' e1 e2 e3
        refine ⟨u', r', ?_⟩
        rcases q with q | ⟨k, c', e, z'⟩
        · exact .inl q
        · refine .inr ⟨k, c', e, z'.sameBut hs ?_⟩
          rintro rfl
          exact hj (nodup_ix hN e1 (I.ok.inj _ _ _ e hc ▸ hi))
    · by_cases hcc : c' = c
      · subst hcc; exact ⟨_, hc'⟩
      · obtain ⟨w2, z2⟩ := I.cell y c' e
        exact ⟨w2, z2.sameBut hs hcc⟩
    · obtain ⟨e, n, ne, nf, d⟩ := I.pin p hp
      refine ⟨(hs.2 p.1 ?_).trans e, n, ne, nf, d⟩
      intro q
      rw [q, hoc] at e
      have q' : oc = p.2 := Option.some.inj e
      exact d w' (by rw [← q']; exact hocd)
theorem store_ok {M : Model} {A : Around} {E : Value → Shared → Prop} {i : Nat} {x : Str} {v : V} {u : Value} {Q : Unit → Shared → Prop} (I : Inv X pins σ H s) (hN : X.N.Nodup) (hi : X.N[i]? = some x) (hx : Loc X.env.scope x) (r : RelV v u)
    (h : ∀ s', Inv X pins (σ.set i (some v)) H s' → Q () s') (hf : X.fn x = true ∨ X.env.scope.names.lookup x = some .local := by first | exact .inl rfl | exact .inr rfl | assumption) : wpAny M A (storeName X.env x u) Q E s :=
  store_ok2 I hN hi hx r (fun s' I' _ => h s' I') hf
theorem Inv.call' {s' : Shared} {ch : List Addr} (I : Inv X pins σ H s) (ho : s'.os = s.os) (u : Un (frs X.stack) ch H H' s.heap s'.heap) (hok : HOk X.prog X.w H' s'.heap) (hg : AllBare s'.gens)
    (hch : ∀ b ∈ ch, (b ∈ X.ex ∨ X.s₀.heap.objs.size ≤ b) ∧ b ≠ X.env.locals ∧ (∀ x c, X.env.cells.lookup x = some c → c ≠ b) ∧ ∀ p ∈ X.pn ++ pins, p.1 ≠ b) : Inv X pins σ H' s' := by
  obtain ⟨h', g', d', t', o'⟩ := s'
  have e : o' = s.os := ho
  subst e
  exact I.call (g' := g') (t' := t') (d' := d') u hok hg hch
end

abbrev XK := Value → Option Addr → Hp → Prop
abbrev St := List (Option V)
abbrev VK := V → Hp → Prop
abbrev TE := St → Hp → VK → Prop
abbrev TT := St → Hp → (Bool → Hp → Prop) → Prop
abbrev TA := St → Hp → (List V → Hp → Prop) → Prop
structure Ends where
  nx : St → Hp → Prop
  rt : VK
  bk : St → Hp → Prop := fun _ _ => False
  ct : St → Hp → Prop := fun _ _ => False
abbrev TS := Ends → St → Hp → Prop

def EP (X : Cx) (pins : List (Addr × Obj)) (σ : St) (Q : VK) (u : Value) (s' : Shared) : Prop := ∃ v H', Inv X pins σ H' s' ∧ RelV v u ∧ Q v H'
def TP (X : Cx) (pins : List (Addr × Obj)) (σ : St) (Q : Bool → Hp → Prop) (b : Bool) (s' : Shared) : Prop := ∃ H', Inv X pins σ H' s' ∧ Q b H'
def AP (X : Cx) (pins : List (Addr × Obj)) (σ : St) (Q : List V → Hp → Prop) (us : List Value) (s' : Shared) : Prop := ∃ vs H', Inv X pins σ H' s' ∧ Vals vs us ∧ Q vs H'
def SP (X : Cx) (pins : List (Addr × Obj)) (D : Ends) (f : Flow) (s' : Shared) : Prop :=
  match f with
  | .next => ∃ σ' H', Inv X pins σ' H' s' ∧ D.nx σ' H'
  | .brk => ∃ σ' H', Inv X pins σ' H' s' ∧ D.bk σ' H'
  | .cont => ∃ σ' H', Inv X pins σ' H' s' ∧ D.ct σ' H'
  | .ret u => ∃ v σ' H', Inv X pins σ' H' s' ∧ RelV v u ∧ D.rt v H'

def PE (X : Cx) (e : Expr) (t : TE) : Prop :=
  ∀ (pins : List (Addr × Obj)) (s : Shared) (σ : St) (H : Hp) (Q : VK), Inv X pins σ H s → t σ H Q → wpAny (model X.prog X.w) X.A (eval e X.env) (EP X pins σ Q) X.xe s
def PT (X : Cx) (e : Expr) (t : TT) : Prop :=
  ∀ (pins : List (Addr × Obj)) (s : Shared) (σ : St) (H : Hp) (Q : Bool → Hp → Prop), Inv X pins σ H s → t σ H Q → wpAny (model X.prog X.w) X.A (isTrue e X.env (eval e X.env)) (TP X pins σ Q) X.xe s
def PW (X : Cx) (e : Expr) (t : TT) : Prop :=
  ∀ (whole : Sem Value) (pins : List (Addr × Obj)) (s : Shared) (σ : St) (H : Hp) (Q : Bool → Hp → Prop), Inv X pins σ H s → t σ H Q → wpAny (model X.prog X.w) X.A (isTrue e X.env whole) (TP X pins σ Q) X.xe s
theorem PW.pt {X : Cx} {e : Expr} {t : TT} (h : PW X e t) : PT X e t := h _
def PA (X : Cx) (es : List Expr) (t : TA) : Prop :=
  ∀ (pos : Pos) (pins : List (Addr × Obj)) (s : Shared) (σ : St) (H : Hp) (Q : List V → Hp → Prop), Inv X pins σ H s → t σ H Q → wpAny (model X.prog X.w) X.A (spliced (backTo pos (starEach es X.env))) (AP X pins σ Q) X.xe s
def PS (X : Cx) (st : Stmt) (t : TS) : Prop :=
  ∀ (pins : List (Addr × Obj)) (s : Shared) (σ : St) (H : Hp) (D : Ends), Inv X pins σ H s → t D σ H → wpAny (model X.prog X.w) X.A (exec st X.env) (SP X pins D) X.xe s
def PSs (X : Cx) (st : List Stmt) (t : TS) : Prop :=
  ∀ (pins : List (Addr × Obj)) (s : Shared) (σ : St) (H : Hp) (D : Ends), Inv X pins σ H s → t D σ H → wpAny (model X.prog X.w) X.A (execs st X.env) (SP X pins D) X.xe s
theorem thn {α : Type} {t : Sem α} {Q Q' : α → Shared → Prop} {M : Model} {A : Around} {E : Value → Shared → Prop} {s : Shared} (h : wpAny M A t Q E s) (hQ : ∀ a s, Q a s → Q' a s) : wpAny M A t Q' E s := wpAny_mono h hQ fun _ _ x => x
end L2

namespace L2
open PySem PySem.Spec PyProof.Rows
section
variable {X : Cx}

theorem bin {a b : Expr} {ta tb : TE} (ha : PE X a ta) (hb : PE X b tb) {pins : List (Addr × Obj)} {s : Shared} {σ : St} {H : Hp} {R : V → V → Hp → Prop} (I : Inv X pins σ H s) (h : ta σ H fun x H1 => tb σ H1 fun y H2 => R x y H2)
    {α : Type} {Q : α → Shared → Prop} {f : Value → Value → Sem α}
    (hf : ∀ v u s2 x y H2, Inv X pins σ H2 s2 → RelV x v → RelV y u → R x y H2 → wpAny (model X.prog X.w) X.A (f v u) Q X.xe s2) :
    wpAny (model X.prog X.w) X.A (eval a X.env) (fun v s₁ => wpAny (model X.prog X.w) X.A (eval b X.env) (fun u s₂ => wpAny (model X.prog X.w) X.A (f v u) Q X.xe s₂) X.xe s₁) X.xe s := by
  refine thn (ha pins s σ H _ I h) fun v s1 ⟨x, H1, I1, r1, q1⟩ => ?_
  refine thn (hb pins s1 σ H1 _ I1 q1) fun u s2 ⟨y, H2, I2, r2, q2⟩ => ?_
  exact hf v u s2 x y H2 I2 r1 r2 q2

def tVar (i : Nat) : TE := fun σ H Q => ∃ v, σ[i]? = some (some v) ∧ Q v H
def tC (v : V) : TE := fun _ H Q => Q v H
theorem pe_var {i : Nat} {x : Str} {pos : Pos} (hN : X.N[i]? = some x) (hv : Vis X.env.scope x) (hd : (x == ("__debug__" : Str)) = false := by decide) (hcd : (x == ("__classdict__" : Str)) = false := by decide) : PE X (.Name x pos) (tVar i) := by
  intro pins s σ H Q I h
  obtain ⟨v, e, h⟩ := h
  obtain ⟨m, hn, hl⟩ := I.loc
  obtain ⟨u, r, l⟩ := hl i x v hN e hv
  have fin : EP X pins σ Q u s := ⟨v, H, I, r, h⟩
  rcases l with ⟨hk, hm⟩ | ⟨hk, c, hc, hcell⟩
  · exact wpAny_Name (wpAny_loadName_local I.ok.kind hk hn hm fin) hd
  · rcases hk with hk | hk
    · exact wpAny_Name (wpAny_loadName_cell I.ok.kind hk hc hcell fin) hd
    · exact wpAny_Name (wpAny_loadName_free I.ok.kind hk hc hcell fin hcd) hd
theorem pe_int {i j pos} : PE X (.Constant (.int i) j pos) (tC (.int i)) := fun _ _ _ H _ I h => wpAny_Constant_int ⟨.int i, H, I.tok _, ⟨_, rfl⟩, h⟩
theorem pe_bl {b j pos} : PE X (.Constant (.bool b) j pos) (tC (.bl b)) := fun _ _ _ H _ I h => Constant_bool ⟨.bl b, H, I, rfl, h⟩
theorem pe_non {j pos} : PE X (.Constant .none j pos) (tC .non) := fun _ _ _ H _ I h => Constant_none ⟨.non, H, I, rfl, h⟩
theorem pe_str {x j pos} : PE X (.Constant (.str x) j pos) (tC (.str x)) := fun _ _ _ H _ I h => Calls.Constant_str ⟨.str x, H, I.tok _, ⟨_, rfl⟩, h⟩

def Gl (X : Cx) (x : Str) : Prop := X.env.kindOf x = some .globalImplicit
theorem ld_glob {E : Value → Shared → Prop} {pins : List (Addr × Obj)} {s : Shared} {σ : St} {H : Hp} {x : Str} {u : Value} {pos : Pos} {Q : Value → Shared → Prop} (I : Inv X pins σ H s) (hg : Gl X x) (hm : X.mg x = some u) (h : Q u s)
    (hd : (x == ("__debug__" : Str)) = false := by decide) : wpAny (model X.prog X.w) X.A (eval (.Name x pos) X.env) Q E s :=
  Calls.Name_function_global I.ok.kind hg (Calls.loadGlobal_global (by rw [I.ok.glob]; exact I.mod.glob.keeps I.bk) hm h) hd
theorem ld_blt {E : Value → Shared → Prop} {pins : List (Addr × Obj)} {s : Shared} {σ : St} {H : Hp} {x : Str} {u : Value} {pos : Pos} {Q : Value → Shared → Prop} (I : Inv X pins σ H s) (hg : Gl X x) (hm : X.mg x = none) (hv : bootBuiltins x = some u) (h : Q u s)
    (hn : x ≠ "__name__" := by decide) (hd : (x == ("__debug__" : Str)) = false := by decide) : wpAny (model X.prog X.w) X.A (eval (.Name x pos) X.env) Q E s := by
  obtain ⟨mb, h1, h2⟩ := I.mod.blt
  exact Calls.Name_function_global I.ok.kind hg (Calls.loadGlobal_builtin (by rw [I.ok.glob]; exact I.mod.glob.keeps I.bk) hm (by rw [I.ok.blt]; exact h1.keeps I.bk) ((h2 x hn).trans hv) h) hd
theorem pe_glob {x : Str} {v : V} {u : Value} {pos : Pos} (hg : Gl X x) (hm : X.mg x = some u) (r : RelV v u) (hd : (x == ("__debug__" : Str)) = false := by decide) : PE X (.Name x pos) (tC v) :=
  fun _ _ _ H _ I h => ld_glob I hg hm ⟨v, H, I, r, h⟩ hd
theorem pe_bltn {x : Str} {v : V} {u : Value} {pos : Pos} (hg : Gl X x) (hm : X.mg x = none) (hv : bootBuiltins x = some u) (r : RelV v u) (hn : x ≠ "__name__" := by decide) (hd : (x == ("__debug__" : Str)) = false := by decide) : PE X (.Name x pos) (tC v) :=
  fun _ _ _ H _ I h => ld_blt I hg hm hv ⟨v, H, I, r, h⟩ hn hd

variable {a b : Expr} {ta tb : TE} {pos : Pos}
def PC (X : Cx) (op : CmpOp) (a b : Expr) (t : TE) : Prop :=
  ∀ (pins : List (Addr × Obj)) (s : Shared) (σ : St) (H : Hp) (Q : VK), Inv X pins σ H s → t σ H Q →
    wpAny (model X.prog X.w) X.A (eval a X.env) (fun v s₁ => wpAny (model X.prog X.w) X.A (eval b X.env) (fun u s₂ => wpAny (model X.prog X.w) X.A (compareOp op v u) (EP X pins σ Q) X.xe s₂) X.xe s₁) X.xe s
theorem nobehind (b : Expr) {op : CmpOp} (h : op ≠ .In) (h2 : op ≠ .NotIn) : behindInMarks op b = false := by
  have e1 : (op == CmpOp.In) = false := by cases op <;> first | rfl | exact absurd rfl h
  have e2 : (op == CmpOp.NotIn) = false := by cases op <;> first | rfl | exact absurd rfl h2
  cases b <;> simp [behindInMarks, e1, e2]
def tB (t : TE) : TT := fun σ H Q => t σ H fun x H1 => ∃ c, x = .bl c ∧ Q c H1
theorem pt_cmp {op : CmpOp} {t : TE} (h : PC X op a b t) (h1 : behindInMarks op b = false := by first | exact nobehind _ (by decide) (by decide) | rfl) : PT X (.Compare a [op] [b] pos) (tB t) := by
  intro pins s σ H Q I hw
  refine wpAny_isTrue_Compare1 (thn (h pins s σ H _ I hw) fun v s1 h1 => thn h1 fun u s2 h2 => thn h2 fun c s3 ⟨x, H1, I1, r1, q1⟩ => ?_) h1
  obtain ⟨d, rfl, q⟩ := q1
  cases r1
  exact wpAny_truthy_bool ⟨H1, I1, q⟩
theorem pt_val {e : Expr} {t : TE} (h : PE X e t) (he : ∀ whole, isTrue e X.env whole = (do let v ← whole; standAt e.pos; holding [v] (truthy v)) := by intro _; rfl) : PT X e (tB t) := by
  intro pins s σ H Q I hw
  refine isTrue_plain (thn (h pins s σ H _ I hw) fun v s1 ⟨x, H1, I1, r1, q1⟩ => ?_) (he _)
  obtain ⟨d, rfl, q⟩ := q1
  cases r1
  exact wpAny_truthy_bool ⟨H1, I1, q⟩

variable {tA tB' : TT} {rest : List Expr}
def tAnd (t u : TT) : TT := fun σ H Q => t σ H fun c H1 => if c = true then u σ H1 Q else Q false H1
def tOr (t u : TT) : TT := fun σ H Q => t σ H fun c H1 => if c = true then Q true H1 else u σ H1 Q
def tNot (t : TT) : TT := fun σ H Q => t σ H fun c H1 => Q (!c) H1
theorem pw_and1 (ha : PT X a tA) : PW X (.BoolOp .And [a] pos) tA := by
  intro wh pins s σ H Q I h
  refine isTrue_and (thn (ha pins s σ H Q I h) fun c s1 e => ?_)
  cases c with
  | true => exact isTrue_and_nil e
  | false => exact e
theorem pw_or1 (ha : PT X a tA) : PW X (.BoolOp .Or [a] pos) tA := by
  intro wh pins s σ H Q I h
  refine isTrue_or (thn (ha pins s σ H Q I h) fun c s1 e => ?_)
  cases c with
  | false => exact isTrue_or_nil e
  | true => exact e
theorem pw_and (ha : PT X a tA) (hb : PW X (.BoolOp .And (b :: rest) pos) tB') : PW X (.BoolOp .And (a :: b :: rest) pos) (tAnd tA tB') := by
  intro wh pins s σ H Q I h
  refine isTrue_and (thn (ha pins s σ H _ I h) fun c s1 ⟨H1, I1, q1⟩ => ?_)
  cases c with
  | true => exact hb wh pins s1 σ H1 Q I1 q1
  | false => exact ⟨H1, I1, q1⟩
theorem pw_or (ha : PT X a tA) (hb : PW X (.BoolOp .Or (b :: rest) pos) tB') : PW X (.BoolOp .Or (a :: b :: rest) pos) (tOr tA tB') := by
  intro wh pins s σ H Q I h
  refine isTrue_or (thn (ha pins s σ H _ I h) fun c s1 ⟨H1, I1, q1⟩ => ?_)
  cases c with
  | true => exact ⟨H1, I1, q1⟩
  | false => exact hb wh pins s1 σ H1 Q I1 q1
theorem pt_not (ha : PT X a tA) : PT X (.UnaryOp .Not a pos) (tNot tA) := by
  intro pins s σ H Q I h
  exact isTrue_not (ha pins s σ H (fun c H1 => Q (!c) H1) I h)
def tAndV (ta tb : TE) : TE := fun σ H Q => ta σ H fun x H1 => ∃ c, x = .bl c ∧ if c = true then tb σ H1 Q else Q (.bl false) H1
def tNotV (ta : TE) : TE := fun σ H Q => ta σ H fun x H1 => ∃ c, x = .bl c ∧ Q (.bl (!c)) H1
theorem pe_one {op} {t : TE} (h : PE X a t) : PE X (.BoolOp op [a] pos) t := fun pins s σ H Q I hw => BoolOp_one (h pins s σ H Q I hw)
theorem pe_and (ha : PE X a ta) (hb : PE X (.BoolOp .And (b :: rest) pos) tb) : PE X (.BoolOp .And (a :: b :: rest) pos) (tAndV ta tb) := by
  intro pins s σ H Q I h
  refine BoolOp_and (thn (ha pins s σ H _ I h) fun v s1 ⟨x, H1, I1, r1, q1⟩ => ?_)
  obtain ⟨c, rfl, q1⟩ := q1
  cases r1
  refine wpAny_truthy_bool ?_
  cases c with
  | true => exact hb pins s1 σ H1 Q I1 q1
  | false => exact ⟨.bl false, H1, I1, rfl, q1⟩
theorem pe_not (ha : PE X a ta) : PE X (.UnaryOp .Not a pos) (tNotV ta) := by
  intro pins s σ H Q I h
  refine UnaryOp_ (thn (ha pins s σ H _ I h) fun v s1 ⟨x, H1, I1, r1, q1⟩ => ?_)
  obtain ⟨c, rfl, q1⟩ := q1
  cases r1
  exact not_of (wpAny_truthy_bool ⟨.bl (!c), H1, I1, rfl, q1⟩)
end
end L2

namespace L2
open PySem PySem.Spec PyProof.Rows

def SqL (K : PySem.W.Frag) (H : Hp) (a : Addr) (xs : List V) : Prop :=
  Rd H a (.lst xs) ∨
    ∃ (o : Obj) (its : Array Value) (n : Nat), K.lookup a = some o ∧ o.cls = .type "list" ∧ o.dict = none ∧ o.data = .seq its n ∧ its.size ≤ sizeLine ∧ Vals xs its.toList
def SqT (K : PySem.W.Frag) (H : Hp) (a : Addr) (xs : List V) : Prop :=
  Rd H a (.tup xs) ∨
    ∃ (o : Obj) (its : Array Value) (n : Nat), K.lookup a = some o ∧ o.cls = .type "tuple" ∧ o.data = .seq its n ∧ its.size ≤ sizeLine ∧ Vals xs its.toList
def absV : Value → Option V
  | .none => some .non
  | .bool b => some (.bl b)
  | .int i _ => some (.int i)
  | .str x _ => some (.str x)
  | .bytes b _ => some (.byt b)
  | .float b _ => some (.flt b)
  | .ref a => some (.ref a)
  | .type n => some (.ty n)
  | _ => none
theorem RelV.abs {x : V} {u : Value} (r : RelV x u) : absV u = some x := by
  cases x with
  | non => cases r; rfl
  | bl _ => cases r; rfl
  | int _ => obtain ⟨t, rfl⟩ := r; rfl
  | str _ => obtain ⟨t, rfl⟩ := r; rfl
  | byt _ => obtain ⟨t, rfl⟩ := r; rfl
  | flt _ => obtain ⟨t, rfl⟩ := r; rfl
  | ref _ => cases r; rfl
  | ty _ => cases r; rfl
theorem RelV.inj {x y : V} {u : Value} (r : RelV x u) (q : RelV y u) : x = y := Option.some.inj (r.abs.symm.trans q.abs)
theorem Vals.inj : ∀ {xs ys : List V} {us : List Value}, Vals xs us → Vals ys us → xs = ys
  | _, _, _, .nil, .nil => rfl
  | _, _, _, .cons r t, .cons r' t' => by rw [r.inj r', Vals.inj t t']
section
variable {X : Cx} {pins : List (Addr × Obj)} {σ : St} {H : Hp} {s : Shared} {a : Addr} {xs ys : List V}
theorem SqL.of {K : PySem.W.Frag} (h : H a = some (.lst xs)) : SqL K H a xs := .inl (.inl h)
theorem SqT.of {K : PySem.W.Frag} (h : H a = some (.tup xs)) : SqT K H a xs := .inl (.inl h)
theorem Inv.list (I : Inv X pins σ H s) (h : SqL X.K H a xs) : ∃ its : List Value, Vals xs its ∧ PlainL s.heap a its.toArray ∧ xs.length ≤ sizeLine := by
  rcases h with h | ⟨o, its, n, hk, hc, hd, hs, hz, r⟩
  · obtain ⟨z, its, n, r, e⟩ := h.ok I.hok
    exact ⟨its, r, ⟨_, n, e, rfl, rfl, rfl⟩, z⟩
  · refine ⟨its.toList, r, ⟨o, n, I.kIn a o hk, hc, hd, by simpa using hs⟩, ?_⟩
    have e := r.length
    simp only [Array.length_toList] at e
    omega
theorem Inv.tuple (I : Inv X pins σ H s) (h : SqT X.K H a xs) : ∃ its : List Value, Vals xs its ∧ IsTup s.heap a its.toArray ∧ xs.length ≤ sizeLine := by
  rcases h with h | ⟨o, its, n, hk, hc, hs, hz, r⟩
  · obtain ⟨z, its, r, p⟩ := h.ok I.hok
    exact ⟨its, r, p, z⟩
  · refine ⟨its.toList, r, ⟨o, I.kIn a o hk, hc, n, by simpa using hs⟩, ?_⟩
    have e := r.length
    simp only [Array.length_toList] at e
    omega
theorem Inv.list_inj (I : Inv X pins σ H s) (h : SqL X.K H a xs) (h' : SqL X.K H a ys) : xs = ys := by
  obtain ⟨its, r, ⟨o, n, e, _, _, d⟩, _⟩ := I.list h
  obtain ⟨its', r', ⟨o', n', e', _, _, d'⟩, _⟩ := I.list h'
  rw [e] at e'; cases e'
  rw [d] at d'
  injection d' with d1 _
  have : its = its' := by simpa using congrArg Array.toList d1
  subst this
  exact r.inj r'
theorem Inv.tuple_inj (I : Inv X pins σ H s) (h : SqT X.K H a xs) (h' : SqT X.K H a ys) : xs = ys := by
  obtain ⟨its, r, ⟨o, e, _, n, d⟩, _⟩ := I.tuple h
  obtain ⟨its', r', ⟨o', e', _, n', d'⟩, _⟩ := I.tuple h'
  rw [e] at e'; cases e'
  rw [d] at d'
  injection d' with d1 _
  have : its = its' := by simpa using congrArg Array.toList d1
  subst this
  exact r.inj r'
end

abbrev Cx.wish (X : Cx) (E : Value → Shared → Prop) : Cx := { X with xe := E }
abbrev Cx.nox (X : Cx) : Cx := X.wish fun _ _ => False
theorem Cx.Ok.wish {X : Cx} (ok : X.Ok) (E : Value → Shared → Prop) : (X.wish E).Ok :=
  ⟨ok.mod, ok.kind, ok.glob, ok.blt, ok.above, ok.inj, ok.has, ok.cab, ok.hd, ok.frames, ok.stk, ok.exf, ok.bs, ok.bsz, ok.noex, ok.exfs, ok.funs, ok.frf⟩
theorem Cx.Ok.unwish {X : Cx} {E : Value → Shared → Prop} (ok : (X.wish E).Ok) : X.Ok :=
  ⟨ok.mod, ok.kind, ok.glob, ok.blt, ok.above, ok.inj, ok.has, ok.cab, ok.hd, ok.frames, ok.stk, ok.exf, ok.bs, ok.bsz, ok.noex, ok.exfs, ok.funs, ok.frf⟩
section
variable {X : Cx} {pins : List (Addr × Obj)} {σ : St} {H : Hp} {s : Shared} {E : Value → Shared → Prop}
theorem Inv.wish (I : Inv X pins σ H s) (E : Value → Shared → Prop) : Inv (X.wish E) pins σ H s := ⟨I.ok.wish E, I.os, I.bare, I.base, I.loc, I.cell, I.free, I.freeC, I.pin, I.hok, I.len⟩
theorem Inv.unwish (I : Inv (X.wish E) pins σ H s) : Inv X pins σ H s := ⟨I.ok.unwish, I.os, I.bare, I.base, I.loc, I.cell, I.free, I.freeC, I.pin, I.hok, I.len⟩
theorem SP.unwish {D : Ends} {f : Flow} {s' : Shared} (h : SP (X.wish E) pins D f s') : SP X pins D f s' := by
  cases f with
  | next => obtain ⟨σ', H', I, q⟩ := h; exact ⟨σ', H', I.unwish, q⟩
  | brk => obtain ⟨σ', H', I, q⟩ := h; exact ⟨σ', H', I.unwish, q⟩
  | cont => obtain ⟨σ', H', I, q⟩ := h; exact ⟨σ', H', I.unwish, q⟩
  | ret u => obtain ⟨v, σ', H', I, r, q⟩ := h; exact ⟨v, σ', H', I.unwish, r, q⟩
theorem PSs.nox {st : List Stmt} {t : TS} (h : PSs X.nox st t) : PSs X st t := fun pins s σ H D I hw =>
  wpAny_mono (h pins s σ H D (I.wish _) hw) (fun _ _ q => q.unwish) fun _ _ z => False.elim z
end

section
variable {X : Cx} {st : Stmt} {rest : List Stmt} {t u : TS} {e : Expr} {te : TE} {pos : Pos}
def tNext : TS := fun D σ H => D.nx σ H
def tSeq (t u : TS) : TS := fun D σ H => t { D with nx := u D } σ H
theorem pss_nil : PSs X [] tNext := fun _ _ σ H _ I h => wpAny_execs_nil ⟨σ, H, I, h⟩
theorem pss_cons (h1 : PS X st t) (h2 : PSs X rest u) : PSs X (st :: rest) (tSeq t u) := by
  intro pins s σ H D I h
  refine wpAny_execs_cons (thn (h1 pins s σ H { D with nx := u D } I h) fun f s1 q => ?_)
  cases f with
  | next =>
    obtain ⟨σ', H', I', q⟩ := q
    exact h2 pins s1 σ' H' D I' q
  | ret v => exact q
  | brk => exact q
  | cont => exact q
theorem pss_one (h1 : PS X st t) : PSs X [st] t := by
  intro pins s σ H D I h
  refine wpAny_execs_cons (thn (h1 pins s σ H D I h) fun f s1 q => ?_)
  cases f with
  | next => exact wpAny_execs_nil q
  | ret v => exact q
  | brk => exact q
  | cont => exact q
theorem Inv.quiet {pins : List (Addr × Obj)} {σ : St} {H : Hp} {s : Shared} (I : Inv X pins σ H s) : interactive X.env = false := by simp [interactive, I.ok.kind]
def tDrop (te : TE) : TS := fun D σ H => te σ H fun _ H1 => D.nx σ H1
theorem ps_expr (he : PE X e te) (hs : swapsWith e none pos.line X.env = pure false := by rfl) : PS X (.Expr e pos) (tDrop te) := by
  intro pins s σ H D I h
  exact wpAny_Expr_any (thn (he pins s σ H _ I h) fun v s1 ⟨x, H1, I1, r1, q1⟩ => ⟨σ, H1, I1, q1⟩) I.quiet hs
def tRet (te : TE) : TS := fun D σ H => te σ H D.rt
theorem ps_ret (he : PE X e te) : PS X (.Return (some e) pos) (tRet te) := by
  intro pins s σ H D I h
  exact wpAny_Return_some (thn (he pins s σ H _ I h) fun v s1 ⟨x, H1, I1, r1, q1⟩ => ⟨x, σ, H1, I1, r1, q1⟩)
def tIfS (c : TT) (t u : TS) : TS := fun D σ H => c σ H fun b H1 => if b = true then t D σ H1 else u D σ H1
theorem ps_if {c : Expr} {a b : List Stmt} {tc : TT} (hc : PT X c tc) (ha : PSs X a t) (hb : PSs X b u) : PS X (.If c a b pos) (tIfS tc t u) := by
  intro pins s σ H D I h
  refine wpAny_If (thn (hc pins s σ H _ I h) fun d s1 ⟨H1, I1, q1⟩ => ?_)
  cases d with
  | true => exact ha pins s1 σ H1 D I1 q1
  | false => exact hb pins s1 σ H1 D I1 q1
end

abbrev TG := V → St → Hp → (St → Hp → Prop) → Prop
abbrev TGs := List V → St → Hp → (St → Hp → Prop) → Prop
def PG (X : Cx) (target : Expr) (t : TG) : Prop :=
  ∀ (pins : List (Addr × Obj)) (s : Shared) (σ : St) (H : Hp) (v : V) (u : Value) (Q : St → Hp → Prop), Inv X pins σ H s → RelV v u → t v σ H Q →
    wpAny (model X.prog X.w) X.A (assign target X.env u) (fun _ s' => ∃ σ' H', Inv X pins σ' H' s' ∧ Q σ' H') X.xe s
def PGs (X : Cx) (ts : List Expr) (t : TGs) : Prop :=
  ∀ (pins : List (Addr × Obj)) (s : Shared) (σ : St) (H : Hp) (vs : List V) (us : List Value) (Q : St → Hp → Prop), Inv X pins σ H s → Vals vs us → t vs σ H Q →
    wpAny (model X.prog X.w) X.A (assignInOrder ((assignEach ts X.env).map (·.2)) us) (fun _ s' => ∃ σ' H', Inv X pins σ' H' s' ∧ Q σ' H') X.xe s
abbrev TSet := V → V → V → Hp → (Hp → Prop) → Prop
def PSet (X : Cx) (t : TSet) : Prop :=
  ∀ (pins : List (Addr × Obj)) (s : Shared) (σ : St) (H : Hp) (o i v : V) (ov iv u : Value) (Q : Hp → Prop), Inv X pins σ H s → RelV o ov → RelV i iv → RelV v u → t o i v H Q →
    wpAny (model X.prog X.w) X.A (setItem ov iv u) (fun _ s' => ∃ H', Inv X pins σ H' s' ∧ Q H') X.xe s
section
variable {X : Cx} {pos : Pos}
def gName (i : Nat) : TG := fun v σ H Q => Q (σ.set i (some v)) H
theorem pg_name {i : Nat} {x : Str} (hN : X.N.Nodup) (hi : X.N[i]? = some x) (hx : Loc X.env.scope x) (hf : X.fn x = true ∨ X.env.scope.names.lookup x = some .local := by first | exact .inl rfl | exact .inr rfl | assumption) : PG X (.Name x pos) (gName i) := by
  intro pins s σ H v u Q I r h
  exact wpAny_assign_Name (store_ok I hN hi hx r (fun s' I' => ⟨_, H, I', h⟩) hf)
def gNil : TGs := fun vs σ H Q => vs = [] ∧ Q σ H
def gCons (t : TG) (u : TGs) : TGs := fun vs σ H Q => ∃ v r, vs = v :: r ∧ t v σ H fun σ' H' => u r σ' H' Q
theorem pgs_nil : PGs X [] gNil := by
  intro pins s σ H vs us Q I r h
  obtain ⟨e, h⟩ := h
  subst e
  cases r
  exact assignInOrder_nil ⟨σ, H, I, h⟩
theorem pgs_cons {e : Expr} {es : List Expr} {t : TG} {u : TGs} (h1 : PG X e t) (h2 : PGs X es u)
    (hs : (assignEach (e :: es) X.env).map (·.2) = assign e X.env :: (assignEach es X.env).map (·.2) := by rfl) : PGs X (e :: es) (gCons t u) := by
  intro pins s σ H vs us Q I r h
  obtain ⟨v, vr, e1, h⟩ := h
  subst e1
  cases r with
  | cons r rr =>
    rw [hs]
    refine assignInOrder_cons (thn (h1 pins s σ H _ _ _ I r h) fun _ s1 ⟨σ1, H1, I1, q1⟩ => ?_)
    exact h2 pins s1 σ1 H1 _ _ Q I1 rr q1
def gTup (K : PySem.W.Frag) (n : Nat) (t : TGs) : TG := fun v σ H Q => ∃ a xs, v = .ref a ∧ SqT K H a xs ∧ xs.length = n ∧ t xs σ H Q
theorem pg_tup {es : List Expr} {k : Nat} {t : TGs} {n : Nat} (hc : X.calm = true) (h : PGs X es t)
    (hn : (assignEach es X.env).length = n := by rfl) (hst : (assignEach es X.env).findIdx? (·.1) = none := by rfl) : PG X (.Tuple es k pos) (gTup X.K n t) := by
  intro pins s σ H v u Q I r hw
  obtain ⟨a, xs, e1, hq, hl, hw⟩ := hw
  subst e1
  cases r
  obtain ⟨its, rv, ht, hz⟩ := I.tuple hq
  refine assign_Tuple_tuple (I.ok.hd hc) ht (by simp [hn, ← hl, rv.length]) hst fun h' hx => ?_
  have I1 : Inv X pins σ H { s with heap := h' } := I.kept (t' := s.toks) fun b o e => hx b o (Nat.ne_of_lt (Heap.lt_size e)) e
  exact h pins _ σ H xs _ Q I1 (by simpa using rv) hw
def tAsg (te : TE) (g : TG) : TS := fun D σ H => te σ H fun x H1 => g x σ H1 D.nx
theorem ps_asg {tg e : Expr} {te : TE} {g : TG} (he : PE X e te) (hg : PG X tg g) (hs : swapsWithSole [tg] e pos.line X.env = pure false := by rfl) (hw : swappedStores [tg] e X.env = pure none := by rfl)
    (h1 : (assignEach [tg] X.env).map (·.2) = [assign tg X.env] := by rfl) : PS X (.Assign [tg] e pos) (tAsg te g) := by
  intro pins s σ H D I h
  refine wpAny_Assign_stores (thn (he pins s σ H _ I h) fun v s1 ⟨x, H1, I1, r1, q1⟩ => ?_) hs hw
  rw [h1]
  exact thn (hg pins s1 σ H1 x v _ I1 r1 q1) fun _ s2 q => q
theorem ps_set {i : Nat} {x : Str} {e : Expr} {te : TE} {pos' : Pos} (hN : X.N.Nodup) (hi : X.N[i]? = some x) (hx : Loc X.env.scope x) (he : PE X e te) (hs : swapsWith e (some (.Name x pos')) pos.line X.env = pure false := by rfl) (hf : X.fn x = true ∨ X.env.scope.names.lookup x = some .local := by first | exact .inl rfl | exact .inr rfl | assumption) :
    PS X (.Assign [.Name x pos'] e pos) (tAsg te (gName i)) := by
  intro pins s σ H D I h
  refine wpAny_Assign_Name (thn (he pins s σ H _ I h) fun v s1 ⟨y, H1, I1, r1, q1⟩ => ?_) hs
  exact store_ok I1 hN hi hx r1 (fun s2 I2 => ⟨_, H1, I2, q1⟩) hf
end

section
variable {X : Cx} {pos : Pos}
end

structure It where
  go : Nat → Hp → Prop
  yld : Nat → Hp → V → Hp → Prop
  stop : Nat → Hp → Prop
def FpOk (X : Cx) (pins : List (Addr × Obj)) (H : Hp) (b : Addr) : Prop :=
  H b = none ∧ b ≠ X.env.locals ∧ b ∉ X.fs ∧ (b ∈ X.ex ∨ X.s₀.heap.objs.size ≤ b) ∧ (∀ x c, X.env.cells.lookup x = some c → c ≠ b) ∧ ∀ p ∈ X.pn ++ pins, p.1 ≠ b
theorem Inv.fpOk {X : Cx} {pins : List (Addr × Obj)} {σ : St} {H H' : Hp} {s : Shared} {b : Addr} (I : Inv X pins σ H s) (hb : s.heap.objs.size ≤ b) (hn : H' b = none) : FpOk X pins H' b := by
  refine ⟨hn, Nat.ne_of_gt (Nat.lt_of_lt_of_le I.lt hb), I.nofs hb, .inr (Nat.le_trans I.sz hb), fun x c e z => ?_, fun p hp z => ?_⟩
  · obtain ⟨v, q⟩ := I.cell x c e
    exact absurd (Nat.lt_of_lt_of_le q.lt (by rw [z]; exact hb)) (Nat.lt_irrefl _)
  · exact absurd (Nat.lt_of_lt_of_le (Heap.lt_size (I.pin p hp).1) (by rw [z]; exact hb)) (Nat.lt_irrefl _)
structure Turn (P : Program) (w : World) (K : PySem.W.Frag) (tg : Expr) (J : It) (fp : List Addr) (it : Addr) (tn : Nat → Heap → Prop) : Prop where
  mem : it ∈ fp
  obj : ∀ i h, tn i h → ∀ b ∈ fp, ∃ o, h.get? b = some o ∧ ∀ v, o.data ≠ .cell v
  keep : ∀ i h h', tn i h → (∀ b ∈ fp, ∀ o, h.get? b = some o → h'.get? b = some o) → tn i h'
  item : ∀ (X : Cx), X.prog = P → X.w = w → X.K = K → X.calm = true → ∀ (i : Nat) (pins : List (Addr × Obj)) (s : Shared) (σ : St) (H : Hp) (E : Value → Shared → Prop), Inv X pins σ H s → (∀ b ∈ fp, FpOk X pins H b) → tn i s.heap → J.go i H →
    wpAny (model P w) X.A (pyNext (.ref it)) (fun r s1 => ∃ u, r = some u ∧
      wpAny (model P w) X.A (letOwnedTupleGo tg (.ref it) u) (fun _ s2 => ∃ x H', Inv X pins σ H' s2 ∧ RelV x u ∧ J.yld i H x H' ∧ tn (i + 1) s2.heap ∧ ∀ b ∈ fp, H' b = none) E s1) E s
  done : ∀ (X : Cx), X.prog = P → X.w = w → X.K = K → X.calm = true → ∀ (i : Nat) (pins : List (Addr × Obj)) (s : Shared) (σ : St) (H : Hp) (E : Value → Shared → Prop), Inv X pins σ H s → (∀ b ∈ fp, FpOk X pins H b) → tn i s.heap → J.stop i H →
    wpAny (model P w) X.A (pyNext (.ref it)) (fun r s1 => r = none ∧ Inv X pins σ H s1) E s
  self : ∀ (A : Around) (i : Nat) (s : Shared) (Q : Value → Shared → Prop) (E : Value → Shared → Prop), tn i s.heap → Q (.ref it) s → wpAny (model P w) A (pyIter (.ref it)) Q E s
abbrev TI := St → Hp → (It → Hp → Prop) → Prop
def PIE (X : Cx) (pins : List (Addr × Obj)) (σ : St) (tg : Expr) (R : It → Hp → Prop) (itv : Value) (s2 : Shared) : Prop :=
  ∃ (it : Addr) (fp : List Addr) (tn : Nat → Heap → Prop) (J : It) (H' : Hp), itv = .ref it ∧ Inv X pins σ H' s2 ∧ Turn X.prog X.w X.K tg J fp it tn ∧ tn 0 s2.heap ∧ (∀ b ∈ fp, FpOk X pins H' b) ∧ R J H'
def PI (X : Cx) (tg iter : Expr) (wi : TI) : Prop :=
  ∀ (pins : List (Addr × Obj)) (s : Shared) (σ : St) (H : Hp) (R : It → Hp → Prop), Inv X pins σ H s → wi σ H R →
    wpAny (model X.prog X.w) X.A (eval iter X.env) (fun v s1 => wpAny (model X.prog X.w) X.A (pyIter v) (PIE X pins σ tg R) X.xe s1) X.xe s

theorem go_of {M : Model} {A : Around} {E : Value → Shared → Prop} {s : Shared} {tg : Expr} {it : Addr} {u : Value} {o : Obj} {n : String} {vs : Array Value} {Q : Unit → Shared → Prop} (ho : s.heap.get? it = some o) (hc : o.cls = .type n) (hd : o.data = .fields vs)
    (hn : ["enumerate", "zip", "dict_itemiterator", "dict_reverseitemiterator", "odict_iterator", "itertools.zip_longest", "itertools.pairwise"].contains n = false) (hQ : Q () s) : wpAny M A (letOwnedTupleGo tg (.ref it) u) Q E s := by
  unfold letOwnedTupleGo
  cases tg <;> first
    | exact wpAny_pure hQ
    | (cases u <;> first
        | exact wpAny_pure hQ
        | (refine wpAny_bind (wpAny_load ho ?_)
           rw [hc, hd]
           show wpAny M A (if (["enumerate", "zip", "dict_itemiterator", "dict_reverseitemiterator", "odict_iterator", "itertools.zip_longest", "itertools.pairwise"].contains n && vs[0]? == some (rawInt _)) = true then _ else _) Q E s
           rw [if_neg (by intro h; rw [hn, Bool.false_and] at h; cases h)]
           exact wpAny_pure hQ))

def Itl (K : PySem.W.Frag) (a : Addr) : It :=
  ⟨fun i H => ∃ xs x, SqL K H a xs ∧ xs[i]? = some x, fun i H x H' => H' = H ∧ ∀ xs, SqL K H a xs → xs[i]? = some x, fun i H => ∃ xs, SqL K H a xs ∧ xs.length ≤ i⟩
def Itt (K : PySem.W.Frag) (a : Addr) : It :=
  ⟨fun i H => ∃ xs x, SqT K H a xs ∧ xs[i]? = some x, fun i H x H' => H' = H ∧ ∀ xs, SqT K H a xs → xs[i]? = some x, fun i H => ∃ xs, SqT K H a xs ∧ xs.length ≤ i⟩
def Itr (lo : Int) (n : Nat) : It := ⟨fun i _ => i < n, fun i H x H' => H' = H ∧ x = .int (lo + i), fun i _ => n ≤ i⟩
theorem turn_list {P : Program} {w : World} {K : PySem.W.Frag} {tg : Expr} (a it : Addr) : Turn P w K tg (Itl K a) [it] it (fun i h => h.IsListIter it a i) where
  mem := by simp
  obj := fun i h st b hb => by
    have e : b = it := by simpa using hb
    subst e
    obtain ⟨o, e, c, d⟩ := st
    exact ⟨o, e, fun v z => by rw [d] at z; cases z⟩
  keep := fun i h h' st k => st.at fun o e => k it (by simp) o e
  item := by
    intro X hP hw hK hc i pins s σ H E I hf st hg
    subst hP hw hK
    obtain ⟨xs, x, hq, hx⟩ := hg
    obtain ⟨its, rv, p, hz⟩ := I.list hq
    obtain ⟨u, hu, ru⟩ := rv.get hx
    obtain ⟨f0, f1, f2, f3, f4, f5⟩ := hf it (by simp)
    refine wpAny_pyNext_list_item st p.isList (x := u) (by simpa using hu) fun h' st' sb => ?_
    have I1 : Inv X pins σ H { s with heap := h' } := I.turned (t' := s.toks) (fun b o hb e => (sb.2 b hb).trans e) f0 f1 f3 f4 f5
    obtain ⟨o, e, c, d⟩ := id st'
    exact ⟨u, rfl, go_of (s := { s with heap := h' }) e c d (by decide) ⟨x, H, I1, ru, ⟨rfl, fun ys hy => by rw [I.list_inj hy hq]; exact hx⟩, st', fun b hb => (hf b hb).1⟩⟩
  done := by
    intro X hP hw hK hc i pins s σ H E I hf st hg
    subst hP hw hK
    obtain ⟨xs, hq, hx⟩ := hg
    obtain ⟨its, rv, p, hz⟩ := I.list hq
    obtain ⟨f0, f1, f2, f3, f4, f5⟩ := hf it (by simp)
    have hl := rv.length
    exact wpAny_pyNext_list_end (I.ok.hd hc) st p.isList (by simp; omega) fun h' eb => ⟨rfl, I.turned (t' := s.toks) (fun b o hb e => eb b o hb e) f0 f1 f3 f4 f5⟩
  self := fun _ _ _ _ _ st h => wpAny_pyIter_listiter st h
theorem turn_tuple {P : Program} {w : World} {K : PySem.W.Frag} {tg : Expr} (a it : Addr) : Turn P w K tg (Itt K a) [it] it (fun i h => h.IsTupleIter it a i) where
  mem := by simp
  obj := fun i h st b hb => by
    have e : b = it := by simpa using hb
    subst e
    obtain ⟨o, e, c, d⟩ := st
    exact ⟨o, e, fun v z => by rw [d] at z; cases z⟩
  keep := fun i h h' st k => st.at fun o e => k it (by simp) o e
  item := by
    intro X hP hw hK hc i pins s σ H E I hf st hg
    subst hP hw hK
    obtain ⟨xs, x, hq, hx⟩ := hg
    obtain ⟨its, rv, p, hz⟩ := I.tuple hq
    obtain ⟨u, hu, ru⟩ := rv.get hx
    obtain ⟨f0, f1, f2, f3, f4, f5⟩ := hf it (by simp)
    refine wpAny_pyNext_tuple_item st (show s.heap.IsTuple a its.toArray from p) (x := u) (by simpa using hu) fun h' st' sb => ?_
    have I1 : Inv X pins σ H { s with heap := h' } := I.turned (t' := s.toks) (fun b o hb e => (sb.2 b hb).trans e) f0 f1 f3 f4 f5
    obtain ⟨o, e, c, d⟩ := id st'
    exact ⟨u, rfl, go_of (s := { s with heap := h' }) e c d (by decide) ⟨x, H, I1, ru, ⟨rfl, fun ys hy => by rw [I.tuple_inj hy hq]; exact hx⟩, st', fun b hb => (hf b hb).1⟩⟩
  done := by
    intro X hP hw hK hc i pins s σ H E I hf st hg
    subst hP hw hK
    obtain ⟨xs, hq, hx⟩ := hg
    obtain ⟨its, rv, p, hz⟩ := I.tuple hq
    obtain ⟨f0, f1, f2, f3, f4, f5⟩ := hf it (by simp)
    have hl := rv.length
    exact wpAny_pyNext_tuple_end (I.ok.hd hc) st (show s.heap.IsTuple a its.toArray from p) (by simp; omega) fun h' eb => ⟨rfl, I.turned (t' := s.toks) (fun b o hb e => eb b o hb e) f0 f1 f3 f4 f5⟩
  self := fun _ _ _ _ _ st h => wpAny_pyIter_tupleiter st h
theorem turn_range {P : Program} {w : World} {K : PySem.W.Frag} {tg : Expr} (it : Addr) (lo : Int) (n : Nat) : Turn P w K tg (Itr lo n) [it] it (fun i h => IsRangeIter h it (lo + (i : Nat) * 1) ((n : Int) - (i : Nat)) 1) where
  mem := by simp
  obj := fun i h st b hb => by
    have e : b = it := by simpa using hb
    subst e
    exact ⟨_, st, fun v z => by
      have z' : Data.fields _ = Data.cell v := z
      cases z'⟩
  keep := fun i h h' st k => k it (by simp) _ st
  item := by
    intro X hP hw hK hc i pins s σ H E I hf st hg
    subst hP hw hK
    obtain ⟨f0, f1, f2, f3, f4, f5⟩ := hf it (by simp)
    have W := Walks.range (prog := X.prog) (w := X.w) (I.ok.hd hc) it lo 1 n
    refine W.item i s _ _ hg st fun v h' tk hv st' kk => ?_
    obtain ⟨t, rfl⟩ := hv
    have I1 : Inv X pins σ H { s with heap := h', toks := tk } := I.turned (fun b o hb e => kk b o (by simpa using hb) e) f0 f1 f3 f4 f5
    refine ⟨_, rfl, go_of (s := { s with heap := h', toks := tk }) (n := "range_iterator") st' rfl rfl (by decide) ⟨.int (lo + i), H, I1, ⟨t, ?_⟩, ⟨rfl, rfl⟩, st', fun b hb => (hf b hb).1⟩⟩
    rw [Int.mul_one]
  done := by
    intro X hP hw hK hc i pins s σ H E I hf st hg
    subst hP hw hK
    obtain ⟨f0, f1, f2, f3, f4, f5⟩ := hf it (by simp)
    exact wpAny_pyNext_range_end (I.ok.hd hc) st (by have : n ≤ i := hg; omega) fun h' eb => ⟨rfl, I.turned (t' := s.toks) (fun b o hb e => eb b o hb e) f0 f1 f3 f4 f5⟩
  self := fun _ _ _ _ _ st h => wpAny_pyIter_rangeiter st h
end L2

namespace L2
open PySem PySem.Spec PyProof.Rows
section
variable {X : Cx} {tg : Expr}
theorem range_it {pins : List (Addr × Obj)} {σ : St} {H : Hp} {s : Shared} {R : It → Hp → Prop} {E : Value → Shared → Prop} {lo hi : Int} {t u v : Tok} {tk : Nat} (I : Inv X pins σ H s) (h1 : -(2 ^ 62) ≤ lo) (h2 : lo < 2 ^ 62) (h3 : -(2 ^ 62) ≤ hi) (h4 : hi < 2 ^ 62)
    (q : R (Itr lo (hi - lo).toNat) H) : wpAny (model X.prog X.w) X.A (pyIter (.ref s.heap.objs.size)) (PIE X pins σ tg R) E { s with heap := s.heap.push { cls := .type "range", data := .fields #[.int lo t, .int hi u, .int 1 v] }, toks := tk } := by
  refine wpAny_pyIter_range (IsRange.new ..) (small_one h1 h2 h3 h4) ?_
  have I1 : Inv X pins σ H { s with heap := s.heap.push { cls := .type "range", data := .fields #[.int lo t, .int hi u, .int 1 v] }, toks := tk } := I.kept fun b o e => Heap.get?_push_of_some _ e
  refine ⟨(s.heap.push { cls := .type "range", data := .fields #[.int lo t, .int hi u, .int 1 v] }).objs.size, [(s.heap.push { cls := .type "range", data := .fields #[.int lo t, .int hi u, .int 1 v] }).objs.size], _, _, H, rfl,
    I1.kept (t' := tk) fun b o e => Heap.get?_push_of_some _ e, turn_range _ lo (hi - lo).toNat, ?_, fun b hb => ?_, q⟩
  · have e1 : lo + ((0 : Nat) : Int) * 1 = lo := by simp
    have e2 : (((hi - lo).toNat : Nat) : Int) - ((0 : Nat) : Int) = Builtin.Range.rangeSize lo hi 1 := by rw [rangeSize_one]; split <;> omega
    show IsRangeIter _ _ (lo + ((0 : Nat) : Int) * 1) ((((hi - lo).toNat : Nat) : Int) - ((0 : Nat) : Int)) 1
    rw [e1, e2]
    exact Heap.get?_push_size _ rfl
  · have e : b = (s.heap.push { cls := .type "range", data := .fields #[.int lo t, .int hi u, .int 1 v] }).objs.size := by simpa using hb
    subst e
    exact I1.fpOk (Nat.le_refl _) (I1.hok.fresh (Nat.le_refl _))
def iRng1 (ta : TA) : TI := fun σ H R => ta σ H fun vs H1 => ∃ j : Int, vs = [.int j] ∧ -(2 ^ 62) ≤ j ∧ j < 2 ^ 62 ∧ R (Itr 0 j.toNat) H1
theorem pi_range1 {a : Expr} {ta : TA} {p pos : Pos} (hg : Gl X "range") (hm : X.mg "range" = none) (ha : PA X [a] ta) (hs : starEach [a] X.env = [(false, eval a X.env)] := by rfl) : PI X tg (.Call (.Name "range" p) [a] [] pos) (iRng1 ta) := by
  intro pins s σ H R I h
  refine Call_ (ld_blt I hg hm boot_range (PyProof.Rows.callWith_type1 (thn (ha pos pins s σ H _ I h) fun us s1 ⟨vs, H1, I1, r1, q1⟩ => ?_) hs rfl))
  obtain ⟨j, e, q1, q2, q⟩ := q1
  subst e
  cases r1 with
  | cons r rr =>
    cases rr
    obtain ⟨t, rfl⟩ := r
    exact call_range_1 (range_it I1 (by omega) (by omega) q1 q2 (by simpa using q))
def tFor (wi : TI) (g : TG) (tb : TS) : TS := fun D σ H => wi σ H fun J H1 => ∃ W : Nat → Nat → St → Hp → Prop, (∃ m, W 0 m σ H1) ∧ ∀ i m σ H, W i m σ H →
  (J.stop i H ∧ D.nx σ H) ∨ (J.go i H ∧ ∃ N : St → Hp → Prop, (∀ σ' H', N σ' H' → ∃ m', m' < m ∧ W (i + 1) m' σ' H') ∧ ∀ x H', J.yld i H x H' → g x σ H' fun σ2 H2 => tb { D with nx := N, ct := N, bk := D.nx } σ2 H2)
def pinsAt (fp : List Addr) (h : Heap) : List (Addr × Obj) := fp.filterMap fun b => (h.get? b).map fun o => (b, o)
theorem mem_pinsAt {fp : List Addr} {h : Heap} {b : Addr} {o : Obj} (hb : b ∈ fp) (e : h.get? b = some o) : (b, o) ∈ pinsAt fp h := List.mem_filterMap.mpr ⟨b, hb, by rw [e]; rfl⟩
theorem of_pinsAt {fp : List Addr} {h : Heap} {p : Addr × Obj} (hp : p ∈ pinsAt fp h) : p.1 ∈ fp ∧ h.get? p.1 = some p.2 := by
  obtain ⟨b, hb, e⟩ := List.mem_filterMap.mp hp
  cases q : h.get? b with
  | none => rw [q] at e; cases e
  | some o =>
    rw [q] at e
    have e' : (b, o) = p := Option.some.inj e
    subst e'
    exact ⟨hb, q⟩
theorem Inv.pinned {pins : List (Addr × Obj)} {σ : St} {H : Hp} {s : Shared} {fp : List Addr} (I : Inv X pins σ H s) (hf : ∀ b ∈ fp, FpOk X pins H b) (ho : ∀ b ∈ fp, ∃ o, s.heap.get? b = some o ∧ ∀ v, o.data ≠ .cell v) : Inv X (pins ++ pinsAt fp s.heap) σ H s :=
  I.pins_of fun p hp => (List.mem_append.mp hp).elim (fun z => I.pin p (List.mem_append_right _ z)) fun z => by
    obtain ⟨hb, e⟩ := of_pinsAt z
    obtain ⟨f0, f1, f2, _⟩ := hf p.1 hb
    obtain ⟨o, e', d⟩ := ho p.1 hb
    rw [e] at e'; cases e'
    exact ⟨e, f0, f1, f2, d⟩
theorem Inv.unpinned {pins pl : List (Addr × Obj)} {σ : St} {H : Hp} {s : Shared} (I : Inv X (pins ++ pl) σ H s) : Inv X pins σ H s := I.pins_of fun p hp => I.pin p (List.mem_append_right _ (List.mem_append_left _ hp))
theorem ps_for {iter : Expr} {body : List Stmt} {wi : TI} {g : TG} {tb : TS} {pos : Pos} (hp : PassesOwn (model X.prog X.w) X.A X.env X.xe) (hc : X.calm = true) (hi : PI X tg iter wi) (hg : PG X tg g) (hb : PSs X body tb)
    (hs : ∀ x, foldedSetIterable iter X.env x = pure x := by intro _; rfl) : PS X (.For tg iter body [] pos) (tFor wi g tb) := by
  intro pins s σ H D I h
  refine wpAny_For (thn (hi pins s σ H _ I h) fun v s1 h1 => thn h1 fun itv s2 h2 => ?_) hs
  obtain ⟨it, fp, tn, J, H2, e, I2, T, st2, f2, W, ⟨m0, w0⟩, turn⟩ := h2
  subst e
  -- what stays true of the iterator's objects through the loop
  have stat : ∀ {H' : Hp}, (∀ b ∈ fp, H' b = none) → ∀ b ∈ fp, FpOk X pins H' b := fun hn b hb => ⟨hn b hb, (f2 b hb).2⟩
  refine codeAny_forLoop_any (fun n s' => ∃ i σ' H', Inv X pins σ' H' s' ∧ tn i s'.heap ∧ (∀ b ∈ fp, H' b = none) ∧ W i n σ' H') ?_ m0 ⟨0, σ, H2, I2, st2, fun b hb => (f2 b hb).1, w0⟩
  rintro n s3 ⟨i, σ3, H3, I3, st3, fr3, w3⟩
  rcases turn i n σ3 H3 w3 with ⟨stop, qn⟩ | ⟨go, N, hN, step⟩
  · refine wpAny_passesOwn hp (thn (T.done X rfl rfl rfl hc i pins s3 σ3 H3 X.xe I3 (stat fr3) st3 stop) fun r s4 ⟨hr, I4⟩ => ?_)
    subst hr
    exact wpAny_execs_nil ⟨σ3, H3, I4, qn⟩
  · refine wpAny_passesOwn hp (thn (T.item X rfl rfl rfl hc i pins s3 σ3 H3 X.xe I3 (stat fr3) st3 go) fun r s4 ⟨u, hr, h4⟩ => ?_)
    subst hr
    refine wpAny_passesOwn hp (thn h4 fun _ s5 ⟨x, H5, I5, r5, y5, st5, fr5⟩ => ?_)
    have I5' := I5.pinned (stat fr5) (T.obj _ _ st5)
    refine wpAny_passesOwn hp (thn (hg _ s5 σ3 H5 x u _ I5' r5 (step x H5 y5)) fun _ s6 ⟨σ6, H6, I6, q6⟩ => ?_)
    refine wpAny_passesOwn hp (thn (hb _ s6 σ6 H6 _ I6 q6) fun f s7 q7 => ?_)
    have again : ∀ {σ7 : St} {H7 : Hp}, Inv X (pins ++ pinsAt fp s5.heap) σ7 H7 s7 → N σ7 H7 → ∃ m, m < n ∧ ∃ i σ' H', Inv X pins σ' H' s7 ∧ tn i s7.heap ∧ (∀ b ∈ fp, H' b = none) ∧ W i m σ' H' := fun {σ7 H7} I7 n7 => by
      obtain ⟨m', hm, w7⟩ := hN σ7 H7 n7
      refine ⟨m', hm, i + 1, σ7, H7, I7.unpinned, T.keep _ _ _ st5 fun b hb o e => (I7.pin (b, o) (List.mem_append_right _ (List.mem_append_right _ (mem_pinsAt hb e)))).1, fun b hb => ?_, w7⟩
      obtain ⟨o, e, d⟩ := T.obj _ _ st5 b hb
      exact (I7.pin (b, o) (List.mem_append_right _ (List.mem_append_right _ (mem_pinsAt hb e)))).2.1
    cases f with
    | next => obtain ⟨σ7, H7, I7, n7⟩ := q7; exact again I7 n7
    | cont => obtain ⟨σ7, H7, I7, n7⟩ := q7; exact again I7 n7
    | brk => obtain ⟨σ7, H7, I7, q7⟩ := q7; exact ⟨σ7, H7, I7.unpinned, q7⟩
    | ret v => obtain ⟨x7, σ7, H7, I7, r7, q7⟩ := q7; exact ⟨x7, σ7, H7, I7.unpinned, r7, q7⟩
end

end L2

namespace L2
open PySem PySem.Spec PyProof.Rows

abbrev R2 := V → V → Hp → VK → Prop
def OpR (X : Cx) (f : Value → Value → Sem Value) (r : R2) : Prop :=
  ∀ (pins : List (Addr × Obj)) (s : Shared) (σ : St) (H : Hp) (x y : V) (v u : Value) (Q : VK), Inv X pins σ H s → RelV x v → RelV y u → r x y H Q →
    wpAny (model X.prog X.w) X.A (f v u) (EP X pins σ Q) X.xe s
def UnR (X : Cx) (f : Value → Sem Value) (r : V → Hp → VK → Prop) : Prop :=
  ∀ (pins : List (Addr × Obj)) (s : Shared) (σ : St) (H : Hp) (x : V) (v : Value) (Q : VK), Inv X pins σ H s → RelV x v → r x H Q →
    wpAny (model X.prog X.w) X.A (f v) (EP X pins σ Q) X.xe s
def CallR (X : Cx) (f : Value) (r : List V → Hp → VK → Prop) : Prop :=
  ∀ (pins : List (Addr × Obj)) (s : Shared) (σ : St) (H : Hp) (xs : List V) (us : List Value) (Q : VK), Inv X pins σ H s → Vals xs us → r xs H Q →
    wpAny (model X.prog X.w) X.A (call f us) (EP X pins σ Q) X.xe s
def tOp (r : R2) (ta tb : TE) : TE := fun σ H Q => ta σ H fun x H1 => tb σ H1 fun y H2 => r x y H2 Q
def tUn (r : V → Hp → VK → Prop) (ta : TE) : TE := fun σ H Q => ta σ H fun x H1 => r x H1 Q
def rI (C : Int → Int → Prop) (g : Int → Int → V) : R2 := fun x y H Q => ∃ i j, x = .int i ∧ y = .int j ∧ C i j ∧ Q (g i j) H
def rI0 (g : Int → Int → V) : R2 := fun x y H Q => ∃ i j, x = .int i ∧ y = .int j ∧ Q (g i j) H
def rU (g : Int → V) : V → Hp → VK → Prop := fun x H Q => ∃ i, x = .int i ∧ Q (g i) H

section
variable {X : Cx} {a b c : Expr} {ta tb tc : TE} {pos : Pos}

theorem binT (ha : PE X a ta) (hb : PE X b tb) {pins : List (Addr × Obj)} {s : Shared} {σ : St} {H : Hp} {R : V → V → Hp → Prop} (I : Inv X pins σ H s)
    (h : ta σ H fun x H1 => tb σ H1 fun y H2 => R x y H2) {Q : Value → Shared → Prop} {f : Value → Value → Sem Value}
    (hf : ∀ v u s2 x y H2, Inv X pins σ H2 s2 → RelV x v → RelV y u → R x y H2 → wpAny (model X.prog X.w) X.A (f v u) Q X.xe s2) :
    wpAny (model X.prog X.w) X.A (eval a X.env) (fun v s₁ => wpAny (model X.prog X.w) X.A (eval b X.env) (fun u s₂ => wpAny (model X.prog X.w) X.A (f v u) Q X.xe s₂) X.xe s₁) X.xe s := by
  refine thn (ha pins s σ H _ I h) fun v s1 ⟨x, H1, I1, r1, q1⟩ => ?_
  refine thn (hb pins s1 σ H1 _ I1 q1) fun u s2 ⟨y, H2, I2, r2, q2⟩ => ?_
  exact hf v u s2 x y H2 I2 r1 r2 q2

theorem pe_op {op : Operator} {r : R2} (ho : OpR X (binaryOp op) r) (ha : PE X a ta) (hb : PE X b tb) : PE X (.BinOp a op b pos) (tOp r ta tb) := by
  intro pins s σ H Q I h
  exact wpAny_BinOp (binT ha hb I h fun v u s2 x y H2 I2 rx ry q => ho pins s2 σ H2 x y v u Q I2 rx ry q)
theorem pe_un {op : UnaryOp} {r : V → Hp → VK → Prop} (ho : UnR X (unaryOp op) r) (ha : PE X a ta) : PE X (.UnaryOp op a pos) (tUn r ta) := by
  intro pins s σ H Q I h
  exact UnaryOp_ (thn (ha pins s σ H _ I h) fun v s1 ⟨x, H1, I1, r1, q1⟩ => ho pins s1 σ H1 x v Q I1 r1 q1)
theorem opI {f : Value → Value → Sem Value} {C : Int → Int → Prop} {g : Int → Int → Int}
    (rule : ∀ (i j : Int) (t u : Tok) (s : Shared) (Q : Value → Shared → Prop) (E : Value → Shared → Prop), C i j → Q (.int (g i j) s.toks) { s with toks := s.toks + 1 } → wpAny (model X.prog X.w) X.A (f (.int i t) (.int j u)) Q E s) :
    OpR X f (rI C fun i j => .int (g i j)) := by
  intro pins s σ H x y v u Q I rx ry h
  obtain ⟨i, j, rfl, rfl, hc, q⟩ := h
  obtain ⟨t, rfl⟩ := rx
  obtain ⟨t', rfl⟩ := ry
  exact rule i j t t' s _ _ hc ⟨.int (g i j), H, I.tok _, ⟨_, rfl⟩, q⟩
theorem opI0 {f : Value → Value → Sem Value} {g : Int → Int → Int}
    (rule : ∀ (i j : Int) (t u : Tok) (s : Shared) (Q : Value → Shared → Prop) (E : Value → Shared → Prop), Q (.int (g i j) s.toks) { s with toks := s.toks + 1 } → wpAny (model X.prog X.w) X.A (f (.int i t) (.int j u)) Q E s) :
    OpR X f (rI0 fun i j => .int (g i j)) := by
  intro pins s σ H x y v u Q I rx ry h
  obtain ⟨i, j, rfl, rfl, q⟩ := h
  obtain ⟨t, rfl⟩ := rx
  obtain ⟨t', rfl⟩ := ry
  exact rule i j t t' s _ _ ⟨.int (g i j), H, I.tok _, ⟨_, rfl⟩, q⟩
theorem opB0 {f : Value → Value → Sem Value} {g : Int → Int → Bool}
    (rule : ∀ (i j : Int) (t u : Tok) (s : Shared) (Q : Value → Shared → Prop) (E : Value → Shared → Prop), Q (.bool (g i j)) s → wpAny (model X.prog X.w) X.A (f (.int i t) (.int j u)) Q E s) :
    OpR X f (rI0 fun i j => .bl (g i j)) := by
  intro pins s σ H x y v u Q I rx ry h
  obtain ⟨i, j, rfl, rfl, q⟩ := h
  obtain ⟨t, rfl⟩ := rx
  obtain ⟨t', rfl⟩ := ry
  exact rule i j t t' s _ _ ⟨.bl (g i j), H, I, rfl, q⟩

def CMul (i j : Int) : Prop := (-(2 ^ 64) < i ∧ i < 2 ^ 64) ∨ (-(2 ^ 64) < j ∧ j < 2 ^ 64)
theorem CMul.ok {i j : Int} (h : CMul i j) : IntMulOk i j := by
  rcases h with ⟨h1, h2⟩ | ⟨h1, h2⟩
  · exact .of_left (intBits_le_64 h1 h2)
  · exact .of_right (intBits_le_64 h1 h2)
theorem op_add : OpR X (binaryOp .Add) (rI0 fun i j => .int (i + j)) := opI0 fun _ _ _ _ _ _ _ q => add_int q
theorem op_modN : OpR X (binaryOp .Mod) (rI (fun _ j => j ≠ 0) fun i j => .int (i.fmod j)) := opI fun _ _ _ _ _ _ _ hc q => mod_int' hc q
theorem unI {f : Value → Sem Value} {g : Int → Int}
    (rule : ∀ (i : Int) (t : Tok) (s : Shared) (Q : Value → Shared → Prop) (E : Value → Shared → Prop), Q (.int (g i) s.toks) { s with toks := s.toks + 1 } → wpAny (model X.prog X.w) X.A (f (.int i t)) Q E s) :
    UnR X f (rU fun i => .int (g i)) := by
  intro pins s σ H x v Q I rx h
  obtain ⟨i, rfl, q⟩ := h
  obtain ⟨t, rfl⟩ := rx
  exact rule i t s _ _ ⟨.int (g i), H, I.tok _, ⟨_, rfl⟩, q⟩
theorem un_neg : UnR X (unaryOp .USub) (rU fun i => .int (-i)) := unI fun _ _ _ _ _ q => neg_int q
end

section
variable {X : Cx} {a b c : Expr} {ta tb tc : TE} {pos : Pos}
theorem fin_bl {pins : List (Addr × Obj)} {σ : St} {H : Hp} {s : Shared} {Q : VK} {k k' : Bool} (I : Inv X pins σ H s) (q : Q (.bl k) H) (e : k = k') : EP X pins σ Q (.bool k') s := by
  subst e
  exact ⟨.bl k, H, I, rfl, q⟩
theorem op_lt : OpR X (compareOp .Lt) (rI0 fun i j => .bl (decide (i < j))) := opB0 fun _ _ _ _ _ _ _ q => lt_int q
theorem op_le : OpR X (compareOp .LtE) (rI0 fun i j => .bl (decide (i ≤ j))) := opB0 fun _ _ _ _ _ _ _ q => le_int q
theorem op_gt : OpR X (compareOp .Gt) (rI0 fun i j => .bl (decide (j < i))) := opB0 fun _ _ _ _ _ _ _ q => gt_int q
theorem op_in_str : OpR X (compareOp .In) (fun x y H Q => ∃ i j, x = .str i ∧ y = .str j ∧ Q (.bl (!(Builtin.Str.occurrences j i 0 j.length 1).isEmpty)) H) := by
  intro pins s σ H x y v u Q I rx ry h
  obtain ⟨i, j, rfl, rfl, q⟩ := h
  obtain ⟨t, rfl⟩ := rx
  obtain ⟨t', rfl⟩ := ry
  exact in_str (fin_bl I q rfl)

theorem op_isN : OpR X (compareOp .Is) (fun x y H Q => y = .non ∧ Q (.bl (decide (x = .non))) H) := by
  intro pins s σ H x y v u Q I rx ry h
  obtain ⟨rfl, q⟩ := h
  cases ry
  refine is_none_gen (fin_bl I q ?_)
  cases x <;> first
    | (cases rx; rfl)
    | (obtain ⟨t, rfl⟩ := rx; rfl)
theorem nomark (b : Expr) {op : CmpOp} (h : op ≠ .In := by decide) (h2 : op ≠ .NotIn := by decide) : behindInMarks op b = false := by
  have e1 : (op == CmpOp.In) = false := by cases op <;> first | rfl | exact absurd rfl h
  have e2 : (op == CmpOp.NotIn) = false := by cases op <;> first | rfl | exact absurd rfl h2
  cases b <;> simp [behindInMarks, e1, e2]
theorem pe_cmpR {op : CmpOp} {r : R2} (ho : OpR X (compareOp op) r) (ha : PE X a ta) (hb : PE X b tb) (hm : behindInMarks op b = false) : PE X (.Compare a [op] [b] pos) (tOp r ta tb) := by
  intro pins s σ H Q I h
  exact wpAny_Compare1 (binT ha hb I h fun v u s2 x y H2 I2 rx ry q => ho pins s2 σ H2 x y v u Q I2 rx ry q) hm
def tTest (t : TE) : TT := fun σ H Q => t σ H fun x H' => ∃ k, x = .bl k ∧ Q k H'
theorem pt_cmpR {op : CmpOp} {r : R2} (ho : OpR X (compareOp op) r) (ha : PE X a ta) (hb : PE X b tb) (hm : behindInMarks op b = false) : PT X (.Compare a [op] [b] pos) (tTest (tOp r ta tb)) := by
  intro pins s σ H Q I h
  refine wpAny_isTrue_Compare1 (thn (ha pins s σ H _ I h) fun v s1 ⟨x, H1, I1, r1, q1⟩ => thn (hb pins s1 σ H1 _ I1 q1) fun u s2 ⟨y, H2, I2, r2, q2⟩ =>
    thn (ho pins s2 σ H2 x y v u _ I2 r1 r2 q2) fun c s3 ⟨z, H3, I3, r3, k, e, q3⟩ => ?_) hm
  subst e
  cases r3
  exact wpAny_truthy_bool ⟨H3, I3, q3⟩
theorem line63 : (sizeLine : Nat) < 2 ^ 63 := by rw [sizeLine_eq]; decide
theorem op_add_str : OpR X (binaryOp .Add) (fun x y H Q => ∃ i j, x = .str i ∧ y = .str j ∧ i.length + j.length ≤ sizeLine ∧ Q (.str (i ++ j)) H) := by
  intro pins s σ H x y v u Q I rx ry h
  obtain ⟨i, j, rfl, rfl, hz, q⟩ := h
  obtain ⟨t, rfl⟩ := rx
  obtain ⟨t', rfl⟩ := ry
  exact add_str (fun t' tk => ⟨.str (i ++ j), H, I.tok _, ⟨_, rfl⟩, q⟩) hz
theorem vals1 {x : V} {us : List Value} (r : Vals [x] us) : ∃ u, us = [u] ∧ RelV x u := by
  cases r with
  | cons r1 r2 => cases r2; exact ⟨_, rfl, r1⟩
theorem vals2 {x y : V} {us : List Value} (r : Vals [x, y] us) : ∃ u w', us = [u, w'] ∧ RelV x u ∧ RelV y w' := by
  cases r with
  | cons r1 r2 =>
    cases r2 with
    | cons r3 r4 => cases r4; exact ⟨_, _, rfl, r1, r3⟩
theorem call_max2 (hc : X.calm = true) : CallR X (.builtin "max") (fun xs H Q => ∃ i j, xs = [.int i, .int j] ∧ Q (.int (if j > i then j else i)) H) := by
  intro pins s σ H xs us Q I r h
  obtain ⟨i, j, rfl, q⟩ := h
  obtain ⟨u, w', rfl, ⟨t, rfl⟩, ⟨t', rfl⟩⟩ := vals2 r
  refine max_two_ints (I.ok.hd hc) fun h' tk k => ⟨_, H, I.kept k, ?_, q⟩
  by_cases hj : j > i
  · rw [if_pos hj, if_pos hj]; exact ⟨_, rfl⟩
  · rw [if_neg hj, if_neg hj]; exact ⟨_, rfl⟩
theorem call_min2 (hc : X.calm = true) : CallR X (.builtin "min") (fun xs H Q => ∃ i j, xs = [.int i, .int j] ∧ Q (.int (if j < i then j else i)) H) := by
  intro pins s σ H xs us Q I r h
  obtain ⟨i, j, rfl, q⟩ := h
  obtain ⟨u, w', rfl, ⟨t, rfl⟩, ⟨t', rfl⟩⟩ := vals2 r
  refine min_two_ints (I.ok.hd hc) fun h' tk k => ⟨_, H, I.kept k, ?_, q⟩
  by_cases hj : j < i
  · rw [if_pos hj, if_pos hj]; exact ⟨_, rfl⟩
  · rw [if_neg hj, if_neg hj]; exact ⟨_, rfl⟩
theorem call_str_int : CallR X (.type "str") (fun xs H Q => ∃ i, xs = [.int i] ∧ i.natAbs.log2 < 1920 ∧ Q (.str (toString i)) H) := by
  intro pins s σ H xs us Q I r h
  obtain ⟨i, rfl, hz, q⟩ := h
  obtain ⟨u, rfl, t, rfl⟩ := vals1 r
  exact PySem.P.str_of_int hz ⟨.str _, H, I.tok _, ⟨_, rfl⟩, q⟩
end
end L2

namespace L2
open PySem PySem.Spec PyProof.Rows

structure ObjM (h : Heap) (x dx C : Addr) (mA : Str → Option Value) : Prop where
  obj : h.get? x = some (PySem.W.instObj C dx)
  ns : h.Ns1 dx mA
  ne : dx ≠ x

theorem lookIn_ns {h : Heap} {dx : Addr} {mA : Str → Option Value} (n : h.Ns1 dx mA) : ∃ od, h.get? dx = some od ∧ ∀ name, PySem.W.lookIn name od = some (mA name) := by
  obtain ⟨o, es, ep, ho, hd, hk, _, hm⟩ := n
  refine ⟨o, ho, fun name => ?_⟩
  have e := hm name
  unfold nsFind findBy at e
  rw [← Array.find?_toList] at e
  unfold PySem.W.lookIn
  rw [hd]
  dsimp only
  split
  · rename_i y q
    rw [q] at e
    exact congrArg some e
  · rename_i q
    rw [q] at e
    have a : es.toList.any (·.refKey) = false := by
      rw [List.any_eq_false]
      intro y hy
      obtain ⟨z, t, hkey⟩ := hk y (Array.mem_toList_iff.mp hy)
      simp [DictEntry.refKey, hkey]
    have a' : ¬ es.toList.any (·.refKey) = true := by rw [a]; exact Bool.false_ne_true
    rw [if_neg a']
    exact congrArg some e

theorem ObjM.look {h : Heap} {x dx C : Addr} {mA : Str → Option Value} (I : ObjM h x dx C mA) : ∃ od, PySem.W.InstAt h x (PySem.W.instObj C dx) C (some od) ∧ ∀ name, PySem.W.lookIn name od = some (mA name) :=
  let ⟨od, ho, hl⟩ := lookIn_ns I.ns
  ⟨od, ⟨I.obj, rfl, rfl, ho⟩, hl⟩

section
variable {prog : Program} {w : World} {A : Around} {E : Value → Shared → Prop} {s : Shared} {K : PySem.W.Frag} {x dx C f : Addr} {mA : Str → Option Value} {name : Str} {v : Value}

theorem get_map {expr : Bool} {Q : Value → Shared → Prop} (X : K.In s.heap) (I : ObjM s.heap x dx C mA) (hg : PySem.W.plainGet K C name = true) (hh : PySem.W.hasDictIn K C = true)
    (ha : PySem.W.findIn K (.ref C) name = some none) (hv : mA name = some v) (hv' : PySem.W.handedIn v = true) (h : Q v { s with toks := s.toks + 1 }) :
    wpAny (model prog w) A (getAttr (.ref x) name expr) Q E s := by
  obtain ⟨od, J, hl⟩ := I.look
  exact PySem.W.get_value X J (PySem.W.plainGet_of hg).1 (PySem.W.findObj_own hh ha rfl (by rw [hl, hv])) hv' h

theorem set_map {ns : List Str} {Q : Unit → Shared → Prop} (X : K.In s.heap) (I : ObjM s.heap x dx C mA)
    (hs : PySem.W.findIn K (.ref C) "__setattr__" = some (some (.builtin "object.__setattr__"))) (hp : PySem.W.plainOver K C = true) (ht : PySem.W.takerIn K C name = some none) (hh : PySem.W.hasDictIn K C = true)
    (hw : PySem.Within mA ns) (hsz : ns.length ≤ sizeLine)
    (h : ∀ h', ObjM h' x dx C (fun y => if y = name then some v else mA y) → Heap.SameBut dx s.heap h' → Q () { s with heap := h', toks := s.toks + 2 }) :
    wpAny (model prog w) A (setAttr (.ref x) name v) Q E s := by
  obtain ⟨od, J, hl⟩ := I.look
  refine PySem.W.set_plain X J hs (PySem.W.osa_open (s := { s with toks := s.toks + 1 }) (r := none) X J hp ht fun b => ?_)
  obtain ⟨cd, hc, hd'⟩ := PySem.W.any_some hh
  have hx : s.heap.get? x = some ⟨.ref C, some dx, .plain, #[]⟩ := I.obj
  refine wpAny_bind (wpAny_pure (wpAny_bind (wpAny_bind (wpAny_loadPart hx (wpAny_bind (PySem.W.Looks.here (s := { s with toks := s.toks + 1 }) (PySem.W.looks_clsIn X hc) ?_))))))
  rw [hd']
  refine wpAny_pure (a := some dx) (wpAny_bind (wpAny_pure (wpAny_bind ?_)))
  refine wpAny_nsSet1 (s := { s with toks := s.toks + 1 }) I.ns fun h' hn2 hs2 => ?_
  obtain ⟨oD, esD, epD, hoD, hdD, hcD⟩ := hn2.count (PySem.Within.cons name v hw)
  refine wpAny_bind (wpAny_lookBehind hoD (by rw [hdD]; exact pastItsLine_dict (Nat.le_trans hcD (by rw [List.length_cons]; omega))) ?_)
  exact wpAny_pure (h _ ⟨(hs2.2 _ (Ne.symm I.ne)).trans I.obj, hn2, I.ne⟩ hs2)

theorem make_map {R : Result → Shared → Prop} {vs : List Value} {kw : List (Str × Value)} (X : K.In s.heap) (hm : PySem.W.makesIn K C = true)
    (hi : PySem.W.findIn K (.ref C) "__init__" = some (some (.ref f))) (hf : PySem.W.typeIn K (.ref f) = some (.type "function"))
    (h : codeAny (model prog w) (A.under (.builtin "type.__call__" ⟨.ref C :: vs, kw⟩)) (.call (.ref f) ⟨.ref (s.heap.objs.size + 1) :: vs, kw⟩) (PySem.W.InitBack (s.heap.objs.size + 1) R)
      { s with heap := (s.heap.push PySem.W.emptyDict).push (PySem.W.instObj C s.heap.objs.size) }) :
    codeAny (model prog w) A (.call (.ref C) ⟨vs, kw⟩) R s := by
  obtain ⟨hh, g, d, t, os⟩ := s
  exact PySem.W.make_core (PySem.W.makes_of X hm) (PySem.W.looks_findIn X hi) (fun self => PySem.W.bind_fn X self hf) (.inl rfl) h
end

def putF (f : Str) (v : V) : List (Str × V) → List (Str × V)
  | [] => [(f, v)]
  | (g, x) :: r => if g = f then (g, v) :: r else (g, x) :: putF f v r
theorem lookup_putF (f g : Str) (v : V) : ∀ fs : List (Str × V), (putF f v fs).lookup g = if g = f then some v else fs.lookup g
  | [] => by
    show List.lookup g [(f, v)] = _
    by_cases h : g = f
    · have hb : (g == f) = true := beq_iff_eq.mpr h
      simp only [List.lookup, hb, if_pos h]
    · have hb : (g == f) = false := beq_eq_false_iff_ne.mpr h
      simp only [List.lookup, hb, if_neg h]
  | (k, x) :: r => by
    have ih := lookup_putF f g v r
    rw [show putF f v ((k, x) :: r) = (if k = f then (k, v) :: r else (k, x) :: putF f v r) from rfl]
    by_cases hk : k = f
    · rw [if_pos hk]
      by_cases h : g = k
      · have hb : (g == k) = true := beq_iff_eq.mpr h
        simp only [List.lookup, hb, if_pos (h.trans hk)]
      · have hb : (g == k) = false := beq_eq_false_iff_ne.mpr h
        simp only [List.lookup, hb, if_neg (fun e : g = f => h (e.trans hk.symm))]
    · rw [if_neg hk]
      by_cases h : g = k
      · have hb : (g == k) = true := beq_iff_eq.mpr h
        simp only [List.lookup, hb, if_neg (fun e : g = f => hk (h.symm.trans e))]
      · have hb : (g == k) = false := beq_eq_false_iff_ne.mpr h
        simp only [List.lookup, hb]
        exact ih
theorem keys_putF (f : Str) (v : V) : ∀ fs : List (Str × V), f ∈ (putF f v fs).map (·.1) ∧ ∀ g, g ∈ fs.map (·.1) → g ∈ (putF f v fs).map (·.1)
  | [] => ⟨by simp [putF], fun g h => by simp at h⟩
  | (k, x) :: r => by
    obtain ⟨i1, i2⟩ := keys_putF f v r
    rw [show putF f v ((k, x) :: r) = (if k = f then (k, v) :: r else (k, x) :: putF f v r) from rfl]
    by_cases hk : k = f
    · rw [if_pos hk]
      subst hk
      exact ⟨by simp, fun g h => by simpa using h⟩
    · rw [if_neg hk]
      refine ⟨?_, fun g h => ?_⟩
      · rw [List.map_cons]
        exact List.mem_cons_of_mem _ i1
      · rw [List.map_cons] at h ⊢
        rcases List.mem_cons.mp h with e | e
        · exact List.mem_cons.mpr (.inl e)
        · exact List.mem_cons_of_mem _ (i2 g e)
theorem length_putF (f : Str) (v : V) : ∀ fs : List (Str × V), (putF f v fs).length ≤ fs.length + 1
  | [] => by simp [putF]
  | (k, x) :: r => by
    have ih := length_putF f v r
    rw [show putF f v ((k, x) :: r) = (if k = f then (k, v) :: r else (k, x) :: putF f v r) from rfl]
    by_cases hk : k = f
    · rw [if_pos hk, List.length_cons, List.length_cons]; omega
    · rw [if_neg hk, List.length_cons, List.length_cons]; omega

theorem RelO.some_of {v : V} {o : Option Value} (r : RelO (some v) o) : ∃ u, o = some u ∧ RelV v u := by
  cases o with
  | none => exact (show False from r).elim
  | some u => exact ⟨u, rfl, r⟩
theorem handed_of {v : V} {u : Value} (r : RelV v u) : PySem.W.handedIn u = true := by
  cases v with
  | non => cases (show u = Value.none from r); rfl
  | bl b => cases (show u = Value.bool b from r); rfl
  | int i => obtain ⟨t, e⟩ := (show ∃ t, u = Value.int i t from r); cases e; rfl
  | str x => obtain ⟨t, e⟩ := (show ∃ t, u = Value.str x t from r); cases e; rfl
  | byt b => obtain ⟨t, e⟩ := (show ∃ t, u = Value.bytes b t from r); cases e; rfl
  | flt b => obtain ⟨t, e⟩ := (show ∃ t, u = Value.float b t from r); cases e; rfl
  | ref a => cases (show u = Value.ref a from r); rfl
  | ty n => cases (show u = Value.type n from r); rfl

section
variable {P : Program} {w : World} {H H' : Hp} {h h' : Heap} {a C dx : Addr} {fs fs' : List (Str × V)}
theorem ins_get (hok : HOk P w H h) (e : H a = some (.ins C dx fs)) : ∃ mA, ObjM h a dx C mA ∧ (∀ f, RelO (fs.lookup f) (mA f)) ∧ PySem.Within mA (fs.map (·.1)) ∧ fs.length ≤ 1000 ∧ H dx = some (.own a) := by
  obtain ⟨d, z, ne, ob, mA, n, r, q⟩ := (show ObjOk P w H h a (.ins C dx fs) from hok a _ e)
  exact ⟨mA, ⟨ob, n, ne⟩, r, q, z, d⟩
end

structure Cls (K : PySem.W.Frag) (C : Addr) : Prop where
  pg : PySem.W.plainGet K C Str.empty = true
  hd : PySem.W.hasDictIn K C = true
  po : PySem.W.plainOver K C = true
  sa : PySem.W.findIn K (.ref C) "__setattr__" = some (some (.builtin "object.__setattr__"))
theorem Cls.get {K : PySem.W.Frag} {C : Addr} (c : Cls K C) (f : Str) : PySem.W.plainGet K C f = true := c.pg
def NoAttr (K : PySem.W.Frag) (C : Addr) (f : Str) : Prop := PySem.W.findIn K (.ref C) f = some none
theorem NoAttr.taker {K : PySem.W.Frag} {C : Addr} {f : Str} (n : NoAttr K C f) : PySem.W.takerIn K C f = some none := by
  unfold PySem.W.takerIn
  rw [show PySem.W.findIn K (.ref C) f = some none from n]
  rfl
section
variable {X : Cx} {pins : List (Addr × Obj)} {σ : St} {H : Hp} {s : Shared} {a C dx : Addr} {fs : List (Str × V)} {f : Str} {v : V} {A : Around} {E : Value → Shared → Prop}

theorem getattr_ok {b : Bool} {Q : Value → Shared → Prop} (I : Inv X pins σ H s) (e : H a = some (.ins C dx fs)) (c : Cls X.K C) (n : NoAttr X.K C f) (l : fs.lookup f = some v)
    (h : ∀ u s', Inv X pins σ H s' → RelV v u → Q u s') : wpAny (model X.prog X.w) A (getAttr (.ref a) f b) Q E s := by
  obtain ⟨mA, O, r, _, _, _⟩ := ins_get I.hok e
  obtain ⟨u, hu, ru⟩ := RelO.some_of (v := v) (o := mA f) (by rw [← l]; exact r f)
  exact get_map I.kIn O (c.get f) c.hd n hu (handed_of ru) (h u _ (I.tok _) ru)

theorem setattr_ok {y : V} {u : Value} {Q : Unit → Shared → Prop} (I : Inv X pins σ H s) (e : H a = some (.ins C dx fs)) (c : Cls X.K C) (n : NoAttr X.K C f) (hl : fs.length < 1000) (ry : RelV y u)
    (h : ∀ s', Inv X pins σ (upd H a (.ins C dx (putF f y fs))) s' → Q () s') : wpAny (model X.prog X.w) A (setAttr (.ref a) f u) Q E s := by
  obtain ⟨mA, O, r, wi, _, ho⟩ := ins_get I.hok e
  have hz : (fs.map (·.1)).length ≤ sizeLine := by rw [List.length_map, sizeLine_eq]; omega
  refine set_map I.kIn O c.sa c.po n.taker c.hd wi hz fun h' O' sb => h _ ?_
  have hd : ∃ o, h'.get? dx = some o := let ⟨o, _, _, e', _⟩ := O'.ns; ⟨o, e'⟩
  refine I.write (x := a) (e := dx) (by rw [e]; exact True.intro) (.inr ho) (fun b q hb z => (sb.2 b hb).trans z) hd ?_
  refine ⟨by rw [upd_ne O.ne]; exact ho, ?_, O.ne, O'.obj, _, O'.ns, fun g => ?_, fun g hg => ?_⟩
  · have := length_putF f y fs; omega
  · show RelO ((putF f y fs).lookup g) (if g = f then some u else mA g)
    rw [lookup_putF]
    by_cases q : g = f
    · rw [if_pos q, if_pos q]; exact ry
    · rw [if_neg q, if_neg q]; exact r g
  · by_cases q : g = f
    · rw [q]; exact (keys_putF f y fs).1
    · refine (keys_putF f y fs).2 g (wi g fun z => hg ?_)
      show (if g = f then some u else mA g) = none
      rw [if_neg q]; exact z

theorem Inv.made (I : Inv X pins σ H s) : Inv X pins σ (upd (upd H s.heap.objs.size (.own (s.heap.objs.size + 1))) (s.heap.objs.size + 1) (.ins C s.heap.objs.size []))
    { s with heap := (s.heap.push PySem.W.emptyDict).push (PySem.W.instObj C s.heap.objs.size) } := by
  have e1 : (s.heap.push PySem.W.emptyDict).get? s.heap.objs.size = some PySem.W.emptyDict := Heap.get?_push_size s.heap rfl
  have e2 : ((s.heap.push PySem.W.emptyDict).push (PySem.W.instObj C s.heap.objs.size)).get? (s.heap.objs.size + 1) = some (PySem.W.instObj C s.heap.objs.size) := by
    have := Heap.get?_push_size (s.heap.push PySem.W.emptyDict) (o := PySem.W.instObj C s.heap.objs.size) rfl
    rwa [Heap.size_push] at this
  have e3 : (s.heap.push PySem.W.emptyDict).Ns s.heap.objs.size (fun _ => none) := ⟨PySem.W.emptyDict, #[], _, e1, rfl, (fun e he => absurd he (by simp)), fun _ => rfl⟩
  have I1 := I.laid (a := s.heap.objs.size) (o := .own (s.heap.objs.size + 1)) (h' := s.heap.push PySem.W.emptyDict) (t' := s.toks) (fun b u q => Heap.get?_push_of_some _ q) (Nat.le_refl _) ⟨_, e1⟩
  refine I1.laid (a := s.heap.objs.size + 1) (o := .ins C s.heap.objs.size []) (t' := s.toks) (fun b u q => Heap.get?_push_of_some _ q) (Nat.le_of_eq (Heap.size_push _ _)) ?_
  have ne : s.heap.objs.size ≠ s.heap.objs.size + 1 := Nat.ne_of_lt (Nat.lt_succ_self _)
  refine ⟨by rw [upd_ne ne, upd_same], Nat.zero_le _, ne, e2, fun _ => none, (Heap.Ns1.of_empty e3).at fun o q => Heap.get?_push_of_some _ q, fun _ => True.intro, fun y hy => absurd rfl hy⟩

theorem attr_of {prog : Program} {w : World} {env : Env} {e : Expr} {f : Str} {pos : Pos} {s : Shared} {Q : Value → Shared → Prop} (hb : attributeBase e f env (eval e env) = eval e env)
    (h : wpAny (model prog w) A (eval e env) (fun o s₁ => wpAny (model prog w) A (getAttr o f true) Q E s₁) E s) : wpAny (model prog w) A (eval (.Attribute e f pos) env) Q E s :=
  Attribute_any_ h (by rw [arm_eval_Attribute, hb])
end

def tFld (K : PySem.W.Frag) (ta : TE) (f : Str) : TE := fun σ H Q => ta σ H fun x H1 => ∃ a C dx fs v, x = .ref a ∧ H1 a = some (.ins C dx fs) ∧ Cls K C ∧ NoAttr K C f ∧ fs.lookup f = some v ∧ Q v H1
def sFld (K : PySem.W.Frag) (ta tv : TE) (f : Str) : TS := fun D σ H => tv σ H fun y H1 => ta σ H1 fun x H2 => ∃ a C dx fs, x = .ref a ∧ H2 a = some (.ins C dx fs) ∧ Cls K C ∧ NoAttr K C f ∧ fs.length < 1000 ∧
  D.nx σ (upd H2 a (.ins C dx (putF f y fs)))
section
variable {X : Cx} {o e value : Expr} {f : Str} {pos pos' tpos : Pos} {ta tv : TE}
theorem pe_fld (he : PE X e ta) (hb : attributeBase e f X.env (eval e X.env) = eval e X.env) : PE X (.Attribute e f pos) (tFld X.K ta f) := by
  intro pins s σ H Q I h
  refine attr_of hb (thn (he pins s σ H _ I h) fun u s1 ⟨x, H1, I1, rx, a, C, dx, fs, v, ex, ea, c, n, l, q⟩ => ?_)
  subst ex
  obtain rfl : u = Value.ref a := rx
  exact getattr_ok I1 ea c n l fun u' s2 I2 ru => ⟨v, H1, I2, ru, q⟩
theorem ps_fld (ha : PE X o ta) (hv : PE X value tv) (hs : swapsWith value (some (.Attribute o f pos')) pos.line X.env = pure false) : PS X (.Assign [.Attribute o f pos'] value pos) (sFld X.K ta tv f) := by
  intro pins s σ H D I h
  refine plainObj_wpAny_Assign_Attribute (thn (hv pins s σ H _ I h) fun u s1 ⟨y, H1, I1, ry, q⟩ => thn (ha pins s1 σ H1 _ I1 q) fun ov s2 ⟨x, H2, I2, rx, a, C, dx, fs, ex, ea, c, n, l, q2⟩ => ?_) hs
  subst ex
  obtain rfl : ov = Value.ref a := rx
  exact setattr_ok I2 ea c n l ry fun s3 I3 => ⟨σ, _, I3, q2⟩
end

section
variable {X : Cx} {pins : List (Addr × Obj)} {σ : St} {H : Hp} {s : Shared} {A : Around} {E : Value → Shared → Prop} {Q : Value → Shared → Prop} {c : Value} {b : Bool}
inductive TyOf (K : PySem.W.Frag) (H : Hp) : V → Value → Prop where
  | non : TyOf K H .non (.type "NoneType")
  | bl (x : Bool) : TyOf K H (.bl x) (.type "bool")
  | int (i : Int) : TyOf K H (.int i) (.type "int")
  | str (x : Str) : TyOf K H (.str x) (.type "str")
  | flt (x : UInt64) : TyOf K H (.flt x) (.type "float")
  | lst {a : Addr} {xs : List V} (e : H a = some (.lst xs)) : TyOf K H (.ref a) (.type "list")
  | frz {a : Addr} {o : Obj} {xs : List V} (e : H a = some (.frz o (.lst xs))) : TyOf K H (.ref a) (.type "list")
  | tup {a : Addr} {xs : List V} (e : H a = some (.tup xs)) : TyOf K H (.ref a) (.type "tuple")
  | dK {a : Addr} {kvs : List (Key × V)} (e : H a = some (.dK kvs)) : TyOf K H (.ref a) (.type "dict")
  | dT {a : Addr} {kvs : List (List Key × V)} (e : H a = some (.dT kvs)) : TyOf K H (.ref a) (.type "dict")
  | ins {a C dx : Addr} {fs : List (Str × V)} (e : H a = some (.ins C dx fs)) (cl : Cls K C) (ha : PySem.W.findIn K (.ref C) "__class__" = some (some (.builtin "object.__class__")))
      (hn : PySem.W.specialIn K (.builtin "object.__class__") "__get__" = some (some (.builtin "getset_descriptor.__get__"))) (htk : PySem.W.takesIn K (.builtin "object.__class__") = some true)
      (hm : PySem.W.mroIn K C (.type "object") = some true) : TyOf K H (.ref a) (.ref C)
theorem isinst_ok {x : V} {u t : Value} (I : Inv X pins σ H s) (rx : RelV x u) (ty : TyOf X.K H x t) (e : PySem.W.kitOne X.K t c = some b) (h : ∀ tk, Q (.bool b) { s with toks := tk }) :
    wpAny (model X.prog X.w) A (call (.builtin "isinstance") [u, c]) Q E s := by
  cases ty with
  | non => cases (show u = Value.none from rx); exact PySem.W.kia_one PySem.W.kitx_none I.kIn True.intro e (fun z => nomatch z) h
  | bl y => cases (show u = Value.bool y from rx); exact PySem.W.kia_one PySem.W.kitx_bool I.kIn True.intro e (fun z => nomatch z) h
  | int i => obtain ⟨t, q⟩ := (show ∃ t, u = Value.int i t from rx); cases q; exact PySem.W.kia_one PySem.W.kitx_int I.kIn True.intro e (fun z => nomatch z) h
  | str y => obtain ⟨t, q⟩ := (show ∃ t, u = Value.str y t from rx); cases q; exact PySem.W.kia_one PySem.W.kitx_str I.kIn True.intro e (fun z => nomatch z) h
  | flt y => obtain ⟨t, q⟩ := (show ∃ t, u = Value.float y t from rx); cases q; exact PySem.W.kia_one PySem.W.kitx_float I.kIn True.intro e (fun z => nomatch z) h
  | @lst a xs ea =>
    cases (show u = Value.ref a from rx)
    obtain ⟨_, _, n, _, h1⟩ := (show ObjOk X.prog X.w H s.heap a (.lst xs) from I.hok a _ ea)
    exact PySem.W.kia_one PySem.W.kitx_list I.kIn ⟨_, h1, rfl⟩ e (fun z => nomatch z) h
  | @frz a ob xs ea =>
    cases (show u = Value.ref a from rx)
    obtain ⟨_, _, _, n, _, h1⟩ := (show ObjOk X.prog X.w H s.heap a (.frz ob (.lst xs)) from I.hok a _ ea)
    exact PySem.W.kia_one PySem.W.kitx_list I.kIn ⟨_, h1, rfl⟩ e (fun z => nomatch z) h
  | @tup a xs ea =>
    cases (show u = Value.ref a from rx)
    obtain ⟨_, _, _, p⟩ := (show ObjOk X.prog X.w H s.heap a (.tup xs) from I.hok a _ ea)
    obtain ⟨o, h1, h2, _⟩ := p
    exact PySem.W.kia_one PySem.W.kitx_tuple I.kIn ⟨o, h1, h2⟩ e (fun z => nomatch z) h
  | @dK a kvs ea =>
    cases (show u = Value.ref a from rx)
    obtain ⟨_, _, vs, _, p⟩ := (show ObjOk X.prog X.w H s.heap a (.dK kvs) from I.hok a _ ea)
    obtain ⟨o, es, ep, h1, h2, _⟩ := p
    exact PySem.W.kia_one PySem.W.kitx_dict I.kIn ⟨o, h1, h2.1⟩ e (fun z => nomatch z) h
  | @dT a kvs ea =>
    cases (show u = Value.ref a from rx)
    obtain ⟨_, _, xs, _, o, es, ep, h1, h2, _⟩ := (show ObjOk X.prog X.w H s.heap a (.dT kvs) from I.hok a _ ea)
    exact PySem.W.kia_one PySem.W.kitx_dict I.kIn ⟨o, h1, h2.1⟩ e (fun z => nomatch z) h
  | @ins a C dx fs ea cl ha hn htk hm =>
    cases (show u = Value.ref a from rx)
    obtain ⟨mA, O, _⟩ := ins_get I.hok ea
    obtain ⟨od, J, _⟩ := O.look
    exact PySem.W.kia_one (PySem.W.kitx_own (cl.get _) cl.hd ha hn htk hm) I.kIn J e (fun z => nomatch z) h
end
end L2

namespace L2
open PySem PySem.Spec PyProof.Rows

structure Room (k : Nat) (A : Around) : Prop where
  hd : A.handled = none
  dp : A.depth + 3 * k + 5 < recursionLimit
  un : A.units + 16 * k + 200 < cLine
theorem Room.mono {j k : Nat} {A : Around} (r : Room k A) (h : j ≤ k) : Room j A := ⟨r.hd, by have := r.dp; omega, by have := r.un; omega⟩
theorem Room.deeper {k : Nat} {A : Around} (r : Room (k + 1) A) (env : Env) : Room k (A.deeper env) :=
  ⟨r.hd, by have := r.dp; show A.depth + 1 + 3 * k + 5 < _; omega, by have := r.un; show A.units + 3 + 16 * k + 200 < _; omega⟩
theorem make_depth {A : Around} {C : Addr} {us : List Value} {kw : List (Str × Value)} : (A.under (.builtin "type.__call__" ⟨.ref C :: us, kw⟩)).depth = A.depth + 1 := by
  first | rfl | simp [Around.under, Code.weight, Code.isCreation, Code.isGuard, Code.isCaller, Code.frames, Code.isFrame, guardIds]
theorem make_units {A : Around} {C : Addr} {us : List Value} {kw : List (Str × Value)} : (A.under (.builtin "type.__call__" ⟨.ref C :: us, kw⟩)).units = A.units + 1 := by
  first | rfl | simp [Around.under, Code.cUnits, Code.frames, Code.isFrame]
theorem Room.make {k : Nat} {A : Around} (r : Room (k + 1) A) (C : Addr) (us : List Value) (kw : List (Str × Value)) : Room k (A.under (.builtin "type.__call__" ⟨.ref C :: us, kw⟩)) :=
  ⟨r.hd, by have := r.dp; rw [make_depth]; omega, by have := r.un; rw [make_units]; omega⟩
theorem Room.depth {k : Nat} {A : Around} (r : Room k A) : A.depth < recursionLimit := by have := r.dp; omega
theorem Room.units {k : Nat} {A : Around} (r : Room k A) : A.units + 64 < cLine := by have := r.un; omega
def tNil : TA := fun _ H Q => Q [] H
def tCons (ta : TE) (tr : TA) : TA := fun σ H Q => ta σ H fun x H1 => tr σ H1 fun xs H2 => Q (x :: xs) H2
section
variable {X : Cx} {e : Expr} {es : List Expr} {te : TE} {t : TA} {pos : Pos}
theorem pa_nil : PA X [] tNil := fun _ _ _ _ H Q I h => Calls.spliced_nil ⟨[], H, I, .nil, h⟩
theorem pa_cons (ha : PE X e te) (hr : PA X es t) (hs : starEach (e :: es) X.env = (false, eval e X.env) :: starEach es X.env := by rfl) : PA X (e :: es) (tCons te t) := by
  intro pos pins s σ H Q I h
  rw [hs]
  show wpAny _ _ (spliced ((false, eval e X.env) :: backTo pos (starEach es X.env))) _ _ s
  refine Calls.spliced_cons (thn (ha pins s σ H _ I h) fun u s1 ⟨x, H1, I1, r1, q1⟩ => ?_)
  exact thn (hr pos pins s1 σ H1 _ I1 q1) fun us s2 ⟨xs, H2, I2, r2, q2⟩ => ⟨x :: xs, H2, I2, .cons r1 r2, q2⟩

def tTup (t : TA) : TE := fun σ H Q => t σ H fun xs H1 => xs.length ≤ sizeLine ∧ ∀ p, H1 p = none → Q (.ref p) (upd H1 p (.tup xs))
def tLst (t : TA) : TE := fun σ H Q => t σ H fun xs H1 => xs.length ≤ sizeLine ∧ ∀ p, H1 p = none → Q (.ref p) (upd H1 p (.lst xs))
theorem pe_tup {x1} (h : PA X es t) : PE X (.Tuple es x1 pos) (tTup t) := by
  intro pins s σ H Q I hq
  refine wpAny_Tuple_spliced (thn (h pos pins s σ H _ I hq) fun us s1 ⟨xs, H1, I1, r, z, q⟩ => ⟨by rw [← r.length]; exact z, ?_⟩)
  have hf : H1 s1.heap.objs.size = none := I1.hok.fresh (Nat.le_refl _)
  refine ⟨.ref s1.heap.objs.size, upd H1 s1.heap.objs.size (.tup xs), I1.laid (t' := s1.toks) (fun b u e => Heap.get?_push_of_some _ e) (Nat.le_refl _) ?_, rfl, q _ hf⟩
  exact ⟨z, us, r, ⟨_, Heap.get?_push_size _ rfl, rfl, _, rfl⟩⟩
theorem pe_lst (h : PA X es t) : PE X (.List es pos) (tLst t) := by
  intro pins s σ H Q I hq
  refine wpAny_List_spliced (thn (h pos pins s σ H _ I hq) fun us s1 ⟨xs, H1, I1, r, z, q⟩ => ⟨by rw [← r.length]; exact z, ?_⟩)
  have hf : H1 s1.heap.objs.size = none := I1.hok.fresh (Nat.le_refl _)
  refine ⟨.ref s1.heap.objs.size, upd H1 s1.heap.objs.size (.lst xs), I1.laid (t' := s1.toks) (fun b u e => Heap.get?_push_of_some _ e) (Nat.le_refl _) ?_, rfl, q _ hf⟩
  exact ⟨z, us, 0, r, Heap.get?_push_size _ rfl⟩
end

abbrev Sp := List V → Hp → VK → XK → Prop
abbrev CXT := List Env → Hp → Shared → XK → Value → Shared → Prop

structure Env0 (P : Program) (w : World) (K : PySem.W.Frag) (mg : Str → Option Value) (base : Heap) (A : Around) (outer : List Env) (s : Shared) (H : Hp) : Prop where
  frames : A.frames = some outer
  mod : Mod K mg base
  bs : ∀ b o, base.get? b = some o → s.heap.get? b = some o ∧ H b = none
  bsz : base.objs.size ≤ s.heap.objs.size
  funs : s.heap.FunFrames base outer
  frf : ∀ b ∈ frs outer, H b = none
  hok : HOk P w H s.heap
  bare : AllBare s.gens
def CE (outer : List Env) (P : Program) (w : World) (H : Hp) (s : Shared) (Q : VK) (u : Value) (s' : Shared) : Prop :=
  ∃ v H', s'.os = s.os ∧ AllBare s'.gens ∧ Un (frs outer) [] H H' s.heap s'.heap ∧ HOk P w H' s'.heap ∧ RelV v u ∧ Q v H'
def CR (CX : CXT) (outer : List Env) (P : Program) (w : World) (H : Hp) (s : Shared) (Q : VK) (E : XK) (r : Result) (s' : Shared) : Prop :=
  match r with
  | .ok (.ret u) => CE outer P w H s Q u s'
  | .ok _ => False
  | .error e => CX outer H s E e s'
structure FnOk (P : Program) (w : World) (K : PySem.W.Frag) (mg : Str → Option Value) (base : Heap) (CX : CXT) (k : Nat) (f : Addr) (fd : FuncData) (ps : List Str) (sp : Sp) : Prop where
  len : ∀ vs H Q E, sp vs H Q E → vs.length = ps.length
  run : ∀ (A : Around) (outer : List Env) (s : Shared) (H : Hp) (args : Args) (us : List Value) (vs : List V) (Q : VK) (E : XK), Room k A → Env0 P w K mg base A outer s H → BindsTo s fd args (ps.zip us) → Vals vs us → sp vs H Q E →
    codeAny (model P w) A (.call (.ref f) args) (CR CX outer P w H s Q E) s
theorem Env0.make {P : Program} {w : World} {K : PySem.W.Frag} {mg : Str → Option Value} {base : Heap} {A : Around} {outer : List Env} {s : Shared} {H : Hp} (e : Env0 P w K mg base A outer s H) (C : Addr) (us : List Value) (kw : List (Str × Value)) :
    Env0 P w K mg base (A.under (.builtin "type.__call__" ⟨.ref C :: us, kw⟩)) outer s H := ⟨by first | exact e.frames | (simpa [Around.under, Code.envs, Code.isFrame, pushEnvs] using e.frames), e.mod, e.bs, e.bsz, e.funs, e.frf, e.hok, e.bare⟩
section
variable {X : Cx} {pins : List (Addr × Obj)} {σ : St} {H : Hp} {s s' : Shared}
theorem Inv.env0 (I : Inv X pins σ H s) : Env0 X.prog X.w X.K X.mg X.base X.A X.stack s H :=
  ⟨I.ok.frames, I.ok.mod, I.bs, Nat.le_trans I.ok.bsz I.sz, I.stack, I.stkFree, I.hok, I.bare⟩
theorem Inv.after {Q : VK} {u : Value} (I : Inv X pins σ H s) (h : CE X.stack X.prog X.w H s Q u s') : EP X pins σ Q u s' := by
  obtain ⟨v, H', os, bare, un, hok, r, q⟩ := h
  obtain ⟨hh, g, d, t, os'⟩ := s'
  obtain rfl : os' = s.os := os
  exact ⟨v, H', I.call (h' := hh) (g' := g) (d' := d) (t' := t) (ch := []) un hok bare (fun b z => absurd z (by simp)), r, q⟩
end

def tCall (sp : Sp) (dvs : List V) (E : XK) (t : TA) : TE := fun σ H Q => t σ H fun vs H1 => sp (vs ++ dvs) H1 Q E
def tMake (C : Addr) (sp : Sp) (dvs : List V) (E : XK) (t : TA) : TE := fun σ H Q => t σ H fun vs H1 => ∀ x dx, H1 x = none → H1 dx = none → dx ≠ x →
  sp (.ref x :: (vs ++ dvs)) (upd (upd H1 dx (.own x)) x (.ins C dx [])) (fun v H2 => v = .non ∧ Q (.ref x) H2) E

def Binds (K : PySem.W.Frag) (fd : FuncData) (ps : List Str) (ds : List Value) : Prop :=
  ∀ (s : Shared) (us : List Value), K.In s.heap → (us ++ ds).length = ps.length → BindsTo s fd ⟨us, []⟩ (ps.zip (us ++ ds))
theorem Binds.all {K : PySem.W.Frag} {fd : FuncData} {ps : List Str} (h : ∀ us : List Value, us.length = ps.length → bindArgs fd ⟨us, []⟩ = pure (ps.zip us)) : Binds K fd ps [] := fun s us _ hl => by
  rw [List.append_nil] at hl ⊢
  exact .of_eq (h us hl)

def Passes (CX : CXT) (X : Cx) (E : XK) : Prop := ∀ (pins : List (Addr × Obj)) (σ : St) (H : Hp) (s : Shared) (e : Value) (s' : Shared), Inv X pins σ H s → CX X.stack H s E e s' → X.xe e s'

section
variable {X : Cx} {CX : CXT} {k : Nat} {f C : Addr} {fd : FuncData} {ps : List Str} {sp : Sp} {dvs : List V} {ds : List Value} {E : XK} {x m : Str} {p pos apos : Pos} {e o : Expr} {es : List Expr} {ta : TE} {t : TA}

theorem run_fn {pins : List (Addr × Obj)} {σ : St} {H : Hp} {s : Shared} {Q : VK} {us : List Value} {vs : List V} (F : FnOk X.prog X.w X.K X.mg X.base CX k f fd ps sp) (hr : Room k X.A) (hb : Binds X.K fd ps ds) (hd : Vals dvs ds) (hx : Passes CX X E)
    (I : Inv X pins σ H s) (r : Vals vs us) (h : sp (vs ++ dvs) H Q E) : wpAny (model X.prog X.w) X.A (call (.ref f) us) (EP X pins σ Q) X.xe s := by
  have r2 : Vals (vs ++ dvs) (us ++ ds) := r.append hd
  have hl : (us ++ ds).length = ps.length := by rw [← r2.length]; exact F.len _ _ _ _ h
  refine wpAny_call (codeAny_mono (F.run X.A X.stack s H ⟨us, []⟩ (us ++ ds) (vs ++ dvs) Q E hr I.env0 (hb s us I.kIn hl) r2 h) fun r s' hq => ?_)
  cases r with
  | error e => exact hx pins σ H s e s' I hq
  | ok fl =>
    cases fl with
    | ret u => exact I.after hq
    | next => exact False.elim hq
    | brk => exact False.elim hq
    | cont => exact False.elim hq

theorem pe_call (F : FnOk X.prog X.w X.K X.mg X.base CX k f fd ps sp) (hr : Room k X.A) (hg : Gl X x) (hm : X.mg x = some (.ref f)) (hk : PySem.W.keepIn X.K (.ref f) = true) (hb : Binds X.K fd ps ds) (hd : Vals dvs ds) (hx : Passes CX X E)
    (ha : PA X (e :: es) t) (hdb : (x == ("__debug__" : Str)) = false := by decide) (he : starEach (e :: es) X.env = (false, eval e X.env) :: starEach es X.env := by rfl) (hpl : (backTo pos (starEach es X.env)).any (·.1) = false := by rfl) :
    PE X (.Call (.Name x p) (e :: es) [] pos) (tCall sp dvs E t) := by
  intro pins s σ H Q I h
  refine wpAny_Call_Name_kw (ld_glob I hg hm ?_ hdb)
  refine PySem.W.callWith_K (h₀ := X.base) I.ok.mod.kin hk (thn (ha pos pins s σ H _ I h) fun us s1 ⟨vs, H1, I1, r, q⟩ => ⟨I1.kIn, ?_⟩) he hpl
  exact run_fn F hr hb hd hx I1 r q
structure Mk (K : PySem.W.Frag) (C f : Addr) : Prop where
  makes : PySem.W.makesIn K C = true
  init : PySem.W.findIn K (.ref C) "__init__" = some (some (.ref f))
  fn : PySem.W.isFn K (.ref f) = true
  kp : PySem.W.keepIn K (.ref C) = true

theorem run_make {pins : List (Addr × Obj)} {σ : St} {H : Hp} {s : Shared} {Q : VK} {us : List Value} {vs : List V} (M : Mk X.K C f) (F : FnOk X.prog X.w X.K X.mg X.base CX k f fd ps sp) (hr : Room (k + 1) X.A) (hb : Binds X.K fd ps ds) (hd : Vals dvs ds)
    (hx : Passes CX X E) (I : Inv X pins σ H s) (r : Vals vs us)
    (h : ∀ x dx, H x = none → H dx = none → dx ≠ x → sp (.ref x :: (vs ++ dvs)) (upd (upd H dx (.own x)) x (.ins C dx [])) (fun v H2 => v = .non ∧ Q (.ref x) H2) E) :
    wpAny (model X.prog X.w) X.A (call (.ref C) us) (EP X pins σ Q) X.xe s := by
  have hq := h (s.heap.objs.size + 1) s.heap.objs.size (I.hok.fresh (Nat.le_succ _)) (I.hok.fresh (Nat.le_refl _)) (Nat.ne_of_lt (Nat.lt_succ_self _))
  have I2 := Inv.made (C := C) I
  have r2 : Vals (V.ref (s.heap.objs.size + 1) :: (vs ++ dvs)) (Value.ref (s.heap.objs.size + 1) :: (us ++ ds)) := .cons rfl (r.append hd)
  have hl : (Value.ref (s.heap.objs.size + 1) :: us ++ ds).length = ps.length := by
    have e := r2.length
    rw [F.len _ _ _ _ hq] at e
    exact e.symm
  refine wpAny_call (make_map (f := f) I.kIn M.makes M.init (beq_iff_eq.mp M.fn) (codeAny_mono (F.run _ X.stack _ _ ⟨Value.ref (s.heap.objs.size + 1) :: us, []⟩ (Value.ref (s.heap.objs.size + 1) :: (us ++ ds)) _ _ E (hr.make C us [])
    (I2.env0.make C us []) (hb _ (Value.ref (s.heap.objs.size + 1) :: us) I2.kIn hl) r2 hq) fun r s' hq' => ?_))
  cases r with
  | error e => exact hx pins σ _ _ e s' I2 hq'
  | ok fl =>
    cases fl with
    | ret u =>
      obtain ⟨v, H', I3, rv, ev, q3⟩ := I2.after hq'
      subst ev
      exact ⟨rv, ⟨V.ref (s.heap.objs.size + 1), H', I3, rfl, q3⟩⟩
    | next => exact False.elim hq'
    | brk => exact False.elim hq'
    | cont => exact False.elim hq'
theorem pe_make (M : Mk X.K C f) (F : FnOk X.prog X.w X.K X.mg X.base CX k f fd ps sp) (hr : Room (k + 1) X.A) (hg : Gl X x) (hm : X.mg x = some (.ref C)) (hb : Binds X.K fd ps ds) (hd : Vals dvs ds) (hx : Passes CX X E)
    (ha : PA X (e :: es) t) (hdb : (x == ("__debug__" : Str)) = false := by decide) (he : starEach (e :: es) X.env = (false, eval e X.env) :: starEach es X.env := by rfl) (hpl : (backTo pos (starEach es X.env)).any (·.1) = false := by rfl) :
    PE X (.Call (.Name x p) (e :: es) [] pos) (tMake C sp dvs E t) := by
  intro pins s σ H Q I h
  refine wpAny_Call_Name_kw (ld_glob I hg hm ?_ hdb)
  refine PySem.W.callWith_K (h₀ := X.base) I.ok.mod.kin M.kp (thn (ha pos pins s σ H _ I h) fun us s1 ⟨vs, H1, I1, r, q⟩ => ⟨I1.kIn, ?_⟩) he hpl
  exact run_make M F hr hb hd hx I1 r q
end

section
variable {X : Cx} {CX : CXT} {k : Nat} {f C : Addr} {fd : FuncData} {ps ks : List Str} {sp : Sp} {E : XK} {x m : Str} {p pos apos kpos : Pos} {e o : Expr} {es : List Expr} {kws : List Keyword} {te ta : TE} {t tk : TA} {nm : Option Str}
variable {g : List Value → List Value → List Value} {gV : List V → List V → List V}
end

structure FnScope (N P : List Str) (sc : Scope) : Prop where
  kind : sc.kind = .function
  co : sc.isCoroutine = false
  gen : sc.isGenerator = false
  nd : N.Nodup
  pre : N.take P.length = P
  par : ∀ x ∈ P, sc.names.lookup x = some .local ∨ sc.names.lookup x = some .cell
  nofree : ∀ y ∈ sc.names, y.2 ≠ .free

theorem bindL_out {kindOf : Str → Option NameKind} {x : Str} : ∀ {binds : List (Str × Value)} {m : Str → Option Value}, (∀ v, (x, v) ∉ binds) → bindL kindOf binds m x = m x
  | [], _, _ => rfl
  | (n, v) :: r, m, h => by
    unfold bindL
    rw [bindL_out fun w hw => h w (List.mem_cons_of_mem _ hw)]
    split
    · have : x ≠ n := by rintro rfl; exact h v List.mem_cons_self
      simp [this]
    · rfl
theorem bindC_out {kindOf : Str → Option NameKind} {x : Str} : ∀ {binds : List (Str × Value)} {m : Str → Option Value}, (∀ v, (x, v) ∉ binds) → bindC kindOf binds m x = m x
  | [], _, _ => rfl
  | (n, v) :: r, m, h => by
    unfold bindC
    rw [bindC_out fun w hw => h w (List.mem_cons_of_mem _ hw)]
    split
    · rfl
    · have : x ≠ n := by rintro rfl; exact h v List.mem_cons_self
      simp [this]
theorem bindL_get {kindOf : Str → Option NameKind} {x : Str} {v : Value} : ∀ {P : List Str} {vs : List Value} {i : Nat} {m : Str → Option Value}, P.Nodup → P[i]? = some x → vs[i]? = some v → kindOf x = some .local →
    bindL kindOf (P.zip vs) m x = some v
  | [], _, _, _, _, h, _, _ => by simp at h
  | _ :: _, [], _, _, _, _, h, _ => by simp at h
  | p :: P, w :: vs, 0, m, nd, h1, h2, hk => by
    simp at h1 h2; subst h1; subst h2
    show bindL kindOf ((p, w) :: P.zip vs) m p = _
    unfold bindL
    rw [bindL_out fun v hv => (List.nodup_cons.mp nd).1 (List.of_mem_zip hv).1, if_pos hk]
    simp
  | p :: P, w :: vs, i + 1, m, nd, h1, h2, hk => by
    show bindL kindOf ((p, w) :: P.zip vs) m x = _
    unfold bindL
    exact bindL_get (i := i) (List.nodup_cons.mp nd).2 (by simpa using h1) (by simpa using h2) hk
theorem bindC_get {kindOf : Str → Option NameKind} {x : Str} {v : Value} : ∀ {P : List Str} {vs : List Value} {i : Nat} {m : Str → Option Value}, P.Nodup → P[i]? = some x → vs[i]? = some v → kindOf x ≠ some .local →
    bindC kindOf (P.zip vs) m x = some v
  | [], _, _, _, _, h, _, _ => by simp at h
  | _ :: _, [], _, _, _, _, h, _ => by simp at h
  | p :: P, w :: vs, 0, m, nd, h1, h2, hk => by
    simp at h1 h2; subst h1; subst h2
    show bindC kindOf ((p, w) :: P.zip vs) m p = _
    unfold bindC
    rw [bindC_out fun v hv => (List.nodup_cons.mp nd).1 (List.of_mem_zip hv).1, if_neg hk]
    simp
  | p :: P, w :: vs, i + 1, m, nd, h1, h2, hk => by
    show bindC kindOf ((p, w) :: P.zip vs) m x = _
    unfold bindC
    exact bindC_get (i := i) (List.nodup_cons.mp nd).2 (by simpa using h1) (by simpa using h2) hk

def start (N : List Str) (vs : List V) : St := vs.map some ++ List.replicate (N.length - vs.length) none

def cxOf (CX : CXT) (P : Program) (w : World) (K : PySem.W.Frag) (mg : Str → Option Value) (base : Heap) (N : List Str) (qual : Str) (scope : Scope) (f : Addr) (cd : Value) (A : Around) (outer : List Env) (s : Shared) (H : Hp) (E : XK) : Cx where
  prog := P
  w := w
  K := K
  mg := mg
  base := base
  A := A.deeper (envOfC qual scope s.heap.objs.size f cd)
  N := N
  s₀ := s
  H₀ := H
  env := envOfC qual scope s.heap.objs.size f cd
  outer := outer
  stack := envOfC qual scope s.heap.objs.size f cd :: outer
  ex := []
  calm := true
  fn := fun _ => true
  pn := []
  xe := fun e s' => wpAny (model P w) (A.deeper (envOfC qual scope s.heap.objs.size f cd)) (leaving (envOfC qual scope s.heap.objs.size f cd) e) (fun _ s'' => CX outer H s E e s'') (fun e' s'' => CX outer H s E e' s'') s'

theorem cell_has {sc : Scope} {n : Nat} {x : Str} (h : sc.names.lookup x = some .cell) : ∃ c, (cellsFrom n sc.names []).lookup x = some c := by
  have q := PySem.W.cellsFrom_some sc.names n [] (.inl h)
  exact Option.isSome_iff_exists.mp q

theorem inv_start {CX : CXT} {P : Program} {w : World} {K : PySem.W.Frag} {mg : Str → Option Value} {base : Heap} {N ps : List Str} {qual : Str} {scope : Scope} {f : Addr} {cd : Value} {A : Around} {outer : List Env} {s s1 : Shared} {H : Hp} {E : XK} {us : List Value} {vs : List V}
    (S : FnScope N ps scope) (hd : A.handled = none) (e0 : Env0 P w K mg base A outer s H) (hl : vs.length = ps.length) (r : Vals vs us)
    (x : InCallC s s.heap.objs.size (bindL (envOfC qual scope s.heap.objs.size f cd).kindOf (ps.zip us) fun _ => none) (cellsFrom (s.heap.objs.size + 1) scope.names []) (bindC (envOfC qual scope s.heap.objs.size f cd).kindOf (ps.zip us) fun _ => none) s1) :
    Inv (cxOf CX P w K mg base N qual scope f cd A outer s H E) [] (start N vs) H s1 := by
  have hpl : ps.length ≤ N.length := by have := congrArg List.length S.pre; rw [List.length_take] at this; omega
  obtain ⟨h1, tk, rfl, hk⟩ := x.done
  have noA : ∀ b : Addr, b ∉ (cxOf CX P w K mg base N qual scope f cd A outer s H E).ex := fun b z => absurd (show b ∈ ([] : List Addr) from z) (by simp)
  refine ⟨⟨e0.mod, S.kind, rfl, rfl, Nat.le_refl _, fun y z c h1 h2 => ?_, fun y hy => ?_, fun y c _ h => ?_, fun _ => hd, Around.frames_deeper e0.frames, .inr ⟨rfl, rfl⟩, fun b z => absurd z (noA b), e0.bs, e0.bsz, fun b _ _ => noA b, fun b z => absurd z (noA b), e0.funs, e0.frf⟩,
    rfl, e0.bare, Un.kept hk, ⟨_, x.toInCall.ns, fun i y v h1 h2 h3 => ?_⟩, fun y c h => ⟨_, x.cell y c h⟩, e0.hok.fresh (Nat.le_refl _), fun y c h => ?_, fun p hp => absurd (show p ∈ ([] : List (Addr × Obj)) from hp) (by simp), e0.hok.kept hk, ?_⟩
  · exact name_of_addr x.apart (PySem.mem_of_lookup h1) (PySem.mem_of_lookup h2)
  · have hy : scope.names.lookup y = some .cell ∨ scope.names.lookup y = some .free := hy
    rcases hy with hy | hy
    · exact cell_has hy
    · exact absurd rfl (S.nofree _ (PySem.mem_of_lookup hy))
  · exact Nat.le_of_lt (x.above y c (PySem.mem_of_lookup h))
  · have hi : i < vs.length := by
      unfold start at h2
      by_cases hi : i < vs.length
      · exact hi
      · rw [List.getElem?_append_right (by simpa using hi)] at h2
        rw [List.getElem?_replicate] at h2
        split at h2 <;> cases h2
    have ha : vs[i]? = some v := by
      unfold start at h2
      rw [List.getElem?_append_left (by simpa using hi), List.getElem?_map] at h2
      cases e : vs[i]? with
      | none => rw [e] at h2; cases h2
      | some a => rw [e] at h2; cases h2; rfl
    obtain ⟨u, hu, rv⟩ := r.get ha
    have hp : ps[i]? = some y := by
      rw [← S.pre, List.getElem?_take_of_lt (by omega)]; exact h1
    have ndP : ps.Nodup := by rw [← S.pre]; exact S.nd.sublist (List.take_sublist _ _)
    refine ⟨u, rv, ?_⟩
    rcases S.par y (List.mem_of_getElem? hp) with k | k
    · exact .inl ⟨k, bindL_get ndP hp hu k⟩
    · obtain ⟨c, e⟩ := cell_has (n := s.heap.objs.size + 1) k
      refine .inr ⟨.inl k, c, e, ?_⟩
      have q := x.cell y c e
      rw [bindC_get ndP hp hu (by show scope.names.lookup y ≠ _; rw [k]; decide)] at q
      exact q
  · exact e0.hok.fresh (Nat.le_of_lt (x.above y c (PySem.mem_of_lookup h)))
  · unfold start
    show _ = N.length
    rw [List.length_append, List.length_map, List.length_replicate]
    omega

theorem fn_of {CX : CXT} {P : Program} {w : World} {K : PySem.W.Frag} {mg : Str → Option Value} {base : Heap} {k : Nat} {f : Addr} {name qual : Str} {params : Arguments} {body : List Stmt} {scope : Scope} {dV kV doc pm cdv ct oc : Value} {an od : Option Addr}
    {osl : Array (Option Value)} {N ps : List Str} {sp : Sp} (lk : K.lookup f = some ⟨oc, od, .func (PySem.W.fnOf name qual params body scope dV kV doc pm an cdv ct), osl⟩) (hcd : PySem.W.codeIn K cdv qual = true) (S : FnScope N ps scope)
    (len : ∀ vs H Q E, sp vs H Q E → vs.length = ps.length)
    (hbody : ∀ (A : Around) (outer : List Env) (s : Shared) (H : Hp) (vs : List V) (Q : VK) (E : XK), Room k (A.deeper (envOfC qual scope s.heap.objs.size f cdv)) → sp vs H Q E →
      ∃ t, PSs (cxOf CX P w K mg base N qual scope f cdv A outer s H E) body t ∧ t { nx := fun _ H' => Q .non H', rt := Q } (start N vs) H) :
    FnOk P w K mg base CX (k + 1) f (PySem.W.fnOf name qual params body scope dV kV doc pm an cdv ct) ps sp := by
  refine ⟨len, fun A outer s H args us vs Q E hr e0 hb r hsp => ?_⟩
  have hl := len _ _ _ _ hsp
  have KX : K.In s.heap := e0.mod.kin.keeps fun b o e => (e0.bs b o e).1
  have lim : s.heap.NoLimit := e0.mod.nolimit.keeps fun b o e => (e0.bs b o e).1
  have hkind : ∀ y ∈ ps.zip us, scope.names.lookup y.1 = some .local ∨ (scope.names.lookup y.1 = some .cell ∧ ((cellsFrom (s.heap.objs.size + 1) scope.names []).lookup y.1).isSome = true) := fun ⟨n, v⟩ hy => by
    rcases S.par n (List.of_mem_zip hy).1 with q | q
    · exact .inl q
    · exact .inr ⟨q, PySem.W.cellsFrom_some _ _ _ (.inl q)⟩
  refine codeAny_call_function hr.depth (KX _ _ lk) rfl S.co S.gen rfl (PySem.W.codeRec_of KX hcd) (hb _ _ _ _ ?_)
  refine wpAny_newFunctionEnv_cells S.kind hkind fun env he s1 x => ?_
  subst he
  refine ⟨lim.keeps x.toInCall.keep, codeAny_func ?_⟩
  obtain ⟨t, ht, hq⟩ := hbody A outer s H vs Q E (hr.deeper _) hsp
  have I : Inv (cxOf CX P w K mg base N qual scope f cdv A outer s H E) [] (start N vs) H s1 := inv_start S hr.hd e0 hl r x
  refine wpAny_mono (ht [] s1 (start N vs) H _ I hq) (fun fl s' hs => ?_) fun e s' hs => hs
  have fin : ∀ {σ' : St} {H' : Hp} {v : V} {u : Value}, Inv (cxOf CX P w K mg base N qual scope f cdv A outer s H E) [] σ' H' s' → RelV v u → Q v H' → CE outer P w H s Q u s' :=
    fun {σ' H' v u} J rv q => ⟨v, H', J.os, J.bare, J.base, J.hok, rv, q⟩
  cases fl with
  | ret u =>
    obtain ⟨v, σ', H', J, rv, q⟩ := hs
    exact fin J rv q
  | next =>
    obtain ⟨σ', H', J, q⟩ := hs
    exact fin (v := V.non) (u := Value.none) J rfl q
  | brk =>
    obtain ⟨_, _, _, q⟩ := hs
    exact False.elim q
  | cont =>
    obtain ⟨_, _, _, q⟩ := hs
    exact False.elim q
end L2

namespace L2
open PySem PySem.Spec PyProof.Rows
section
variable {X : Cx} {x : Str} {p pos : Pos} {e : Expr} {es : List Expr} {t : TA} {id T : String} {r : List V → Hp → VK → Prop}

def tCB (r : List V → Hp → VK → Prop) (t : TA) : TE := fun σ H Q => t σ H fun vs H1 => r vs H1 Q
theorem pe_callB (hc : CallR X (.builtin id) r) (hg : Gl X x) (hm : X.mg x = none) (hv : bootBuiltins x = some (.builtin id)) (ha : PA X (e :: es) t) (hn : x ≠ "__name__" := by decide) (hdb : (x == ("__debug__" : Str)) = false := by decide)
    (he : starEach (e :: es) X.env = (false, eval e X.env) :: starEach es X.env := by rfl) (hpl : (backTo pos (starEach es X.env)).any (·.1) = false := by rfl) : PE X (.Call (.Name x p) (e :: es) [] pos) (tCB r t) := by
  intro pins s σ H Q I h
  refine wpAny_Call_Name_kw (ld_blt I hg hm hv ?_ hn hdb)
  exact PyProof.Rows.callWith_builtin1 (thn (ha pos pins s σ H _ I h) fun us s1 ⟨vs, H1, I1, r1, q1⟩ => hc pins s1 σ H1 vs us Q I1 r1 q1) he hpl
theorem pe_callTy (hc : CallR X (.type T) r) (hg : Gl X x) (hm : X.mg x = none) (hv : bootBuiltins x = some (.type T)) (ha : PA X (e :: es) t) (hn : x ≠ "__name__" := by decide) (hdb : (x == ("__debug__" : Str)) = false := by decide)
    (he : starEach (e :: es) X.env = (false, eval e X.env) :: starEach es X.env := by rfl) (hpl : (backTo pos (starEach es X.env)).any (·.1) = false := by rfl) : PE X (.Call (.Name x p) (e :: es) [] pos) (tCB r t) := by
  intro pins s σ H Q I h
  refine wpAny_Call_Name_kw (ld_blt I hg hm hv ?_ hn hdb)
  exact PyProof.Rows.callWith_type1 (thn (ha pos pins s σ H _ I h) fun us s1 ⟨vs, H1, I1, r1, q1⟩ => hc pins s1 σ H1 vs us Q I1 r1 q1) he hpl
end
end L2

namespace HT
open PySem PyProof.Rows

section
open PySem.SeqAt
open PySem.AutoSeq1 (wpAny_loadPart')
open PySem.MeetsSeq PySem.MeetsSeq2 PySem.MeetsSeq3

end

section
variable {prog : Program} {w : World} {A : Around} {E : Value → Shared → Prop} {s : Shared}

def sIx (n d : Nat) : Option Int → Nat
  | none => d
  | some v => if v < 0 then (v + (n : Int)).toNat else min v.toNat n
theorem sIx_none (n d : Nat) : sIx n d none = d := rfl
theorem sIx_nat (n d k : Nat) : sIx n d (some (k : Int)) = min k n := by
  show (if (k : Int) < 0 then ((k : Int) + (n : Int)).toNat else min (k : Int).toNat n) = min k n
  rw [if_neg (by omega), Int.toNat_natCast]
theorem sIx_le (n d : Nat) (hd : d ≤ n) (o : Option Int) : sIx n d o ≤ n := by
  cases o with
  | none => exact hd
  | some v =>
    show (if v < 0 then (v + (n : Int)).toNat else min v.toNat n) ≤ n
    by_cases hv : v < 0
    · rw [if_pos hv]; omega
    · rw [if_neg hv]; exact Nat.min_le_right _ _
theorem clip_eq (v : Int) (n d : Nat) : (if v < 0 then max (v + (n : Int)) 0 else min v (n : Int)) = ((sIx n d (some v) : Nat) : Int) := by
  show (if v < 0 then max (v + (n : Int)) 0 else min v (n : Int)) = (((if v < 0 then (v + (n : Int)).toNat else min v.toNat n) : Nat) : Int)
  by_cases hv : v < 0
  · simp only [if_pos hv]; omega
  · simp only [if_neg hv]; omega
theorem adjust_gen (lo hi : Option Int) (n : Nat) : Builtin.Slice.sliceAdjust lo hi 1 (n : Int) = (((sIx n 0 lo : Nat) : Int), ((sIx n n hi : Nat) : Int)) := by
  have h1 : ¬ ((1 : Int) < 0) := by omega
  unfold Builtin.Slice.sliceAdjust
  simp only [h1, if_false]
  refine Prod.ext ?_ ?_
  · cases lo with
    | none => rfl
    | some v => exact clip_eq v n 0
  · cases hi with
    | none => rfl
    | some v => exact clip_eq v n n
theorem places_gen (i j : Nat) : Builtin.Slice.slicePlaces (i : Int) (j : Int) 1 = j - i := by
  unfold Builtin.Slice.slicePlaces
  have h1 : (1 : Int) > 0 := by omega
  simp only [h1, if_true, Int.ediv_one]
  split <;> omega
theorem slicePart_ {v : Value} {o : Option Int} {Q : Option Int → Shared → Prop} (p : IsPart v o) (h : Q o s) : wpAny (model prog w) A (Builtin.Slice.slicePartIndex v) Q E s := by
  cases p with
  | none => exact slicePart_none h
  | int i t => exact slicePart_int h
theorem sliceApplied_gen {sl : Addr} {vl vu : Value} {lo hi : Option Int} {n : Nat} {Q : Int × Int × Nat → Shared → Prop} (hs : s.heap.IsSliceOf sl vl vu .none) (pl : IsPart vl lo) (pu : IsPart vu hi)
    (h : Q (((sIx n 0 lo : Nat) : Int), 1, sIx n n hi - sIx n 0 lo) s) : wpAny (model prog w) A (Builtin.Slice.sliceApplied (.ref sl) (pure (n : Int))) Q E s := by
  obtain ⟨os, hos, hcs, hds⟩ := id hs
  unfold Builtin.Slice.sliceApplied Builtin.Slice.sliceFields
  refine wpAny_bind (wpAny_bind (wpAny_field hos hds (x := vl) rfl (wpAny_bind (wpAny_field hos hds (x := vu) rfl (wpAny_bind (wpAny_field hos hds (x := .none) rfl (wpAny_pure ?_)))))))
  refine wpAny_bind (slicePart_none ?_)
  show wpAny _ _ (if ((1 : Int) == 0) = true then _ else _) _ _ s
  rw [if_neg (by decide)]
  refine wpAny_bind (slicePart_ pl (wpAny_bind (slicePart_ pu (wpAny_bind (wpAny_pure ?_)))))
  show wpAny _ _ (match Builtin.Slice.sliceAdjust lo hi 1 (n : Int) with | (lo, hi) => pure (lo, (1 : Int), Builtin.Slice.slicePlaces lo hi 1)) _ _ s
  rw [adjust_gen lo hi n]
  show wpAny _ _ (pure (((sIx n 0 lo : Nat) : Int), (1 : Int), Builtin.Slice.slicePlaces ((sIx n 0 lo : Nat) : Int) ((sIx n n hi : Nat) : Int) 1)) _ _ s
  rw [places_gen]
  exact wpAny_pure h
theorem pick_gen (xs : Array Value) (i k : Nat) : ((List.range k).filterMap fun (m : Nat) => xs[((i : Int) + (m : Int) * 1).toNat]?).toArray = ((xs.toList.drop i).take k).toArray := by
  have e : (fun (m : Nat) => xs[((i : Int) + (m : Int) * 1).toNat]?) = fun m => xs[i + m]? := by
    funext m
    have : ((i : Int) + (m : Int) * 1).toNat = i + m := by omega
    rw [this]
  rw [e]
  have := pick_run xs i k
  rw [List.filterMap_map] at this
  have e2 : ((fun x => xs[x]?) ∘ fun x => i + x) = fun m => xs[i + m]? := rfl
  rw [e2] at this
  rw [this]

theorem getItem_tuple_cut {t sl : Addr} {items : Array Value} {vl vu : Value} {lo hi : Option Int} {Q : Value → Shared → Prop} (ht : IsTup s.heap t items) (hs : s.heap.IsSliceOf sl vl vu .none) (pl : IsPart vl lo) (pu : IsPart vu hi)
    (hw : ¬ (sIx items.size 0 lo = 0 ∧ sIx items.size items.size hi = items.size))
    (h : Q (.ref s.heap.objs.size) { s with heap := s.heap.push { cls := .type "tuple", data := .seq ((items.toList.drop (sIx items.size 0 lo)).take (sIx items.size items.size hi - sIx items.size 0 lo)).toArray } })
    (hsz : items.size ≤ sizeLine) : wpAny (model prog w) A (getItem (.ref t) (.ref sl)) Q E s := by
  have htake : sizeOk (.seq ((items.toList.drop (sIx items.size 0 lo)).take (sIx items.size items.size hi - sIx items.size 0 lo)).toArray) := by
    show ((items.toList.drop (sIx items.size 0 lo)).take (sIx items.size items.size hi - sIx items.size 0 lo)).toArray.size ≤ sizeLine
    rw [List.size_toArray, List.length_take, List.length_drop, Array.length_toList]
    omega
  have hj : sIx items.size items.size hi ≤ items.size := sIx_le _ _ (Nat.le_refl _) hi
  obtain ⟨os, hos, hcs, hds⟩ := id hs
  have hTs : s.TypeIs (.ref sl) "slice" := ⟨os, hos, hcs⟩
  unfold getItem
  try with_reducible refine wpAny_holding ?_
  first | refine wpAny_bind (wpAny_pure ?_) | skip
  refine wpAny_bind (wpAny_sequenceKey ht.typeIs (by decide) ?_)
  refine wpAny_bind (wpAny_callSpecial?_slot (name := Str.ofString "__getitem__") ht.typeIs PyProof.Rows.slot_tuple_getitem
    (wpAny_call_entry PyProof.Rows.slot_tuple_getitem ht.typeIs entry_tuple_getitem ?_ (args_tuple_getitem _ _)))
  show wpAny _ _ (Builtin.Tuple.tupleItemsOf (.ref t) >>= _) _ _ s
  refine wpAny_bind (tupleItemsOf_ ht ?_)
  refine wpAny_bind (wpAny_typeOf hTs ?_)
  rw [if_pos (by decide)]
  refine wpAny_bind (sliceApplied_gen hs pl pu ?_)
  have hno : ¬ ((((sIx items.size 0 lo : Nat) : Int) == 0 && (1 : Int) == 1 && (sIx items.size items.size hi - sIx items.size 0 lo) == items.size) = true) := by
    intro q
    rw [Bool.and_eq_true, Bool.and_eq_true] at q
    have q1 : ((sIx items.size 0 lo : Nat) : Int) = 0 := eq_of_beq q.1.1
    have q2 : sIx items.size items.size hi - sIx items.size 0 lo = items.size := eq_of_beq q.2
    exact hw ⟨by omega, by omega⟩
  show wpAny _ _ (if (((sIx items.size 0 lo : Nat) : Int) == 0 && (1 : Int) == 1 && (sIx items.size items.size hi - sIx items.size 0 lo) == items.size) = true then _ else _) _ _ s
  rw [if_neg hno, pick_gen]
  first
    | exact wpAny_bind (m := Builtin.Tuple.tupleExact _) (wpAny_newObj_type (wpAny_pure ⟨_, rfl, wpAny_pure h⟩) htake)
    | exact wpAny_bind (m := Builtin.Tuple.tupleExact _) (wpAny_newObj_type (wpAny_bind (wpAny_pure (wpAny_pure ⟨_, rfl, wpAny_pure h⟩))) htake)
    | exact wpAny_bind (wpAny_bind (m := Builtin.Tuple.tupleExact _) (wpAny_newObj_type (wpAny_pure (wpAny_pure ⟨_, rfl, wpAny_pure h⟩)) htake))
    | exact wpAny_bind (wpAny_bind (m := Builtin.Tuple.tupleExact _) (wpAny_newObj_type (wpAny_pure ⟨_, rfl, wpAny_pure h⟩) htake))
end
end HT

namespace L2
open PySem PySem.Spec PyProof.Rows

abbrev TO := St → Hp → (Option Int → Hp → Prop) → Prop
def PO (X : Cx) (e : Option Expr) (t : TO) : Prop :=
  ∀ (pins : List (Addr × Obj)) (s : Shared) (σ : St) (H : Hp) (Q : Option Int → Hp → Prop), Inv X pins σ H s → t σ H Q →
    wpAny (model X.prog X.w) X.A (evalPart e X.env) (fun u s' => ∃ o H', Inv X pins σ H' s' ∧ IsPart u o ∧ Q o H') X.xe s
def tNoPart : TO := fun _ H Q => Q none H
def tPart (t : TE) : TO := fun σ H Q => t σ H fun x H1 => ∃ i, x = .int i ∧ Q (some i) H1

section
variable {X : Cx} {e : Expr} {te : TE} {lo hi : Option Expr} {tl th : TO} {pos p2 : Pos}

theorem po_none : PO X none tNoPart := by
  intro pins s σ H Q I h
  rw [evalPart_none]
  exact wpAny_pure ⟨none, H, I, .none, h⟩
theorem po_some (h : PE X e te) : PO X (some e) (tPart te) := by
  intro pins s σ H Q I hw
  rw [evalPart_some]
  refine thn (h pins s σ H _ I hw) fun u s1 ⟨x, H1, I1, r1, q1⟩ => ?_
  obtain ⟨i, rfl, q⟩ := q1
  obtain ⟨t, rfl⟩ := r1
  exact ⟨some i, H1, I1, .int i t, q⟩

def SlR (X : Cx) (r : V → Option Int → Option Int → Hp → VK → Prop) : Prop :=
  ∀ (pins : List (Addr × Obj)) (s : Shared) (σ : St) (H : Hp) (x : V) (v vl vu : Value) (lo hi : Option Int) (sl : Addr) (Q : VK), Inv X pins σ H s → RelV x v → s.heap.IsSliceOf sl vl vu .none → IsPart vl lo → IsPart vu hi → r x lo hi H Q →
    ∃ T id, typeLookup (.type T) "__getitem__" = pure (some (.builtin id)) ∧ s.TypeIs v T ∧ wpAny (model X.prog X.w) X.A (getItem v (.ref sl)) (EP X pins σ Q) X.xe s
theorem SlR.or {r r' : V → Option Int → Option Int → Hp → VK → Prop} (h : SlR X r) (h' : SlR X r') : SlR X (fun x lo hi H Q => r x lo hi H Q ∨ r' x lo hi H Q) := by
  intro pins s σ H x v vl vu lo hi sl Q I rx hs pl pu q
  rcases q with q | q
  · exact h pins s σ H x v vl vu lo hi sl Q I rx hs pl pu q
  · exact h' pins s σ H x v vl vu lo hi sl Q I rx hs pl pu q
def tSl (r : V → Option Int → Option Int → Hp → VK → Prop) (te : TE) (tl th : TO) : TE := fun σ H Q => te σ H fun x H1 => tl σ H1 fun l H2 => th σ H2 fun u H3 => r x l u H3 Q
theorem pe_slice {r : V → Option Int → Option Int → Hp → VK → Prop} (hr : SlR X r) (he : PE X e te) (hl : PO X lo tl) (hu : PO X hi th) : PE X (.Subscript e (.Slice lo hi none p2) pos) (tSl r te tl th) := by
  intro pins s σ H Q I h
  refine Subscript_ (thn (he pins s σ H _ I h) fun v s1 ⟨x, H1, I1, r1, q1⟩ => ?_)
  refine wpAny_Slice (thn (hl pins s1 σ H1 _ I1 q1) fun vl s2 ⟨l, H2, I2, pl, q2⟩ => thn (hu pins s2 σ H2 _ I2 q2) fun vu s3 ⟨u, H3, I3, pu, q3⟩ => ?_)
  rw [evalPart_none]
  refine wpAny_pure ?_
  have I4 : Inv X pins σ H3 { s3 with heap := s3.heap.push { cls := .type "slice", data := .fields #[vl, vu, .none] } } := I3.kept (t' := s3.toks) fun b ob q => Heap.get?_push_of_some _ q
  obtain ⟨T, id, hT, ht, hg⟩ := hr pins { s3 with heap := s3.heap.push { cls := .type "slice", data := .fields #[vl, vu, .none] } } σ H3 x v vl vu l u s3.heap.objs.size Q I4 r1 (Heap.IsSliceOf.new ..) pl pu q3
  show wpAny (model X.prog X.w) X.A (subscriptTail e (.Slice lo hi none p2) v (.ref s3.heap.objs.size)) (EP X pins σ Q) X.xe { s3 with heap := s3.heap.push { cls := .type "slice", data := .fields #[vl, vu, .none] } }
  exact tail_any (ops := [.ref s3.heap.objs.size, v]) ht hT hg (by with_unfolding_all rfl)

def cutV (xs : List V) (lo hi : Option Int) : List V := (xs.drop (HT.sIx xs.length 0 lo)).take (HT.sIx xs.length xs.length hi - HT.sIx xs.length 0 lo)
theorem cutV_length (xs : List V) (lo hi : Option Int) : (cutV xs lo hi).length ≤ xs.length := by
  unfold cutV
  rw [List.length_take, List.length_drop]
  omega
def rSlT (K : PySem.W.Frag) : V → Option Int → Option Int → Hp → VK → Prop := fun x lo hi H Q => ∃ a xs, x = .ref a ∧ SqT K H a xs ∧
  ¬ (HT.sIx xs.length 0 lo = 0 ∧ HT.sIx xs.length xs.length hi = xs.length) ∧ ∀ p, H p = none → Q (.ref p) (upd H p (.tup (cutV xs lo hi)))
theorem sl_tup : SlR X (rSlT X.K) := by
  intro pins s σ H x v vl vu lo hi sl Q I rx hs pl pu h
  obtain ⟨a, xs, rfl, hx, hw, q⟩ := h
  cases rx
  obtain ⟨its, r, ht, hz⟩ := I.tuple hx
  have hlen : its.toArray.size = xs.length := by rw [List.size_toArray]; exact r.length.symm
  refine ⟨"tuple", _, PyProof.Rows.slot_tuple_getitem.lookup, ht.typeIs, ?_⟩
  refine HT.getItem_tuple_cut ht hs pl pu (by rw [hlen]; exact hw) ?_ (by rw [hlen]; exact hz)
  rw [hlen]
  refine ⟨.ref s.heap.objs.size, _, I.laid (t' := s.toks) (o := .tup (cutV xs lo hi)) (fun b ob q => Heap.get?_push_of_some _ q) (Nat.le_refl _) ?_, rfl, q _ (I.hok.fresh (Nat.le_refl _))⟩
  exact ⟨Nat.le_trans (cutV_length xs lo hi) hz, _, (r.drop (HT.sIx xs.length 0 lo)).take (HT.sIx xs.length xs.length hi - HT.sIx xs.length 0 lo), IsTup.new _ _⟩

end
end L2

namespace L2
open PySem PySem.Spec PyProof.Rows

def ixN (n : Nat) (i : Int) : Option Nat := if 0 ≤ i then (if i < n then some i.toNat else none) else if -(n : Int) ≤ i then some (i + n).toNat else none
def atI {α : Type} (xs : List α) (i : Int) : Option α := (ixN xs.length i).bind fun j => xs[j]?
theorem ixN_seq {n : Nat} {i : Int} {j : Nat} (h : ixN n i = some j) : seqIndex? i n = some j ∧ j < n ∧ -(n : Int) ≤ i ∧ i < n := by
  unfold ixN at h
  by_cases h0 : 0 ≤ i
  · rw [if_pos h0] at h
    by_cases h1 : i < n
    · rw [if_pos h1] at h
      have e : i.toNat = j := Option.some.inj h
      exact ⟨by rw [seqIndex_of h0 h1, e], by omega, by omega, h1⟩
    · rw [if_neg h1] at h; cases h
  · rw [if_neg h0] at h
    by_cases h1 : -(n : Int) ≤ i
    · rw [if_pos h1] at h
      have e : (i + n).toNat = j := Option.some.inj h
      exact ⟨by rw [seqIndex_neg (by omega) h1, e], by omega, h1, by omega⟩
    · rw [if_neg h1] at h; cases h
theorem atI_get {α : Type} {xs : List α} {i : Int} {v : α} (h : atI xs i = some v) : ∃ j, seqIndex? i xs.length = some j ∧ xs[j]? = some v ∧ j < xs.length ∧ -(xs.length : Int) ≤ i ∧ i < xs.length := by
  unfold atI at h
  cases e : ixN xs.length i with
  | none => rw [e] at h; cases h
  | some j =>
    rw [e] at h
    obtain ⟨h1, h2, h3, h4⟩ := ixN_seq e
    exact ⟨j, h1, h, h2, h3, h4⟩
def PlainIx (b : Expr) : Prop := ∀ o i, subscripted b false o i = operate [o, i] (getItem o i)
def IxR (X : Cx) (r : R2) : Prop :=
  ∀ (value slice : Expr) (pins : List (Addr × Obj)) (s : Shared) (σ : St) (H : Hp) (x y : V) (v u : Value) (Q : VK), Inv X pins σ H s → RelV x v → RelV y u → r x y H Q →
    subscripted slice false v u = operate [v, u] (getItem v u) → wpAny (model X.prog X.w) X.A (subscriptTail value slice v u) (EP X pins σ Q) X.xe s
def MtR (X : Cx) (id : String) (r : V → List V → Hp → VK → Prop) : Prop :=
  ∀ (pins : List (Addr × Obj)) (s : Shared) (σ : St) (H : Hp) (x : V) (xs : List V) (v : Value) (us : List Value) (Q : VK), Inv X pins σ H s → RelV x v → Vals xs us → r x xs H Q →
    wpAny (model X.prog X.w) X.A (call (.builtin id) (v :: us)) (EP X pins σ Q) X.xe s
section
variable {X : Cx} {a b : Expr} {ta tb : TE} {pos : Pos}
theorem IxR.or {r r' : R2} (h : IxR X r) (h' : IxR X r') : IxR X (fun x y H Q => r x y H Q ∨ r' x y H Q) := by
  intro value slice pins s σ H x y v u Q I rx ry q hs
  rcases q with q | q
  · exact h value slice pins s σ H x y v u Q I rx ry q hs
  · exact h' value slice pins s σ H x y v u Q I rx ry q hs
theorem pe_ix {r : R2} (hr : IxR X r) (ha : PE X a ta) (hb : PE X b tb) (hs : PlainIx b) : PE X (.Subscript a b pos) (tOp r ta tb) := by
  intro pins s σ H Q I h
  exact Subscript_ (binT ha hb I h fun v u s2 x y H2 I2 rx ry q => hr a b pins s2 σ H2 x y v u Q I2 rx ry q (hs _ _))

def rIxL (K : PySem.W.Frag) : R2 := fun x y H Q => ∃ p xs i v, x = .ref p ∧ y = .int i ∧ SqL K H p xs ∧ atI xs i = some v ∧ Q v H
def rIxT (K : PySem.W.Frag) : R2 := fun x y H Q => ∃ p xs i v, x = .ref p ∧ y = .int i ∧ SqT K H p xs ∧ atI xs i = some v ∧ Q v H
def rIxS : R2 := fun x y H Q => ∃ z i c, x = .str z ∧ y = .int i ∧ z.length ≤ sizeLine ∧ atI z.cps.toList i = some c ∧ Q (.str ⟨#[c]⟩) H
theorem ix_list : IxR X (rIxL X.K) := by
  intro value slice pins s σ H x y v u Q I rx ry h hs
  obtain ⟨p, xs, i, z, rfl, rfl, hq, he, q⟩ := h
  cases rx
  obtain ⟨t, rfl⟩ := ry
  obtain ⟨its, r, pl, hz⟩ := I.list hq
  obtain ⟨j, h1, h2, h3, h4, h5⟩ := atI_get he
  obtain ⟨w, ew, rw'⟩ := r.get h2
  have hl := r.length
  have hn := line63
  have fin : EP X pins σ Q w s := ⟨z, H, I, rw', q⟩
  by_cases h0 : 0 ≤ i
  · have hj : i.toNat = j := by
      rw [seqIndex_of h0 h5] at h1
      exact Option.some.inj h1
    exact item_listR pl.isList h0 (by omega) (by rw [hj]; simpa using ew) fin hs
  · have hj : (i + (its.toArray.size : Int)).toNat = j := by
      rw [seqIndex_neg (by omega) h4] at h1
      rw [List.size_toArray, ← hl]
      exact Option.some.inj h1
    exact subscriptTail_builtinR (x := w) pl.isList.typeIs slot_list_getitem.lookup
      (wpAny_getItem_list_neg (Q := fun r s' => r = w ∧ EP X pins σ Q r s') pl.isList (by omega) (by rw [List.size_toArray] <;> omega) (by omega) (by rw [hj]; simpa using ew) ⟨rfl, fin⟩) hs
theorem ix_tup : IxR X (rIxT X.K) := by
  intro value slice pins s σ H x y v u Q I rx ry h hs
  obtain ⟨p, xs, i, z, rfl, rfl, hq, he, q⟩ := h
  cases rx
  obtain ⟨t, rfl⟩ := ry
  obtain ⟨its, r, pl, hz⟩ := I.tuple hq
  obtain ⟨j, h1, h2, h3, h4, h5⟩ := atI_get he
  obtain ⟨w, ew, rw'⟩ := r.get h2
  have hl := r.length
  have hn := line63
  have fin : EP X pins σ Q w s := ⟨z, H, I, rw', q⟩
  exact subscriptTail_builtinR (x := w) pl.typeIs slot_tuple_getitem.lookup
    (getItem_tuple (j := j) (Q := fun r s' => r = w ∧ EP X pins σ Q r s') pl (by omega) (by omega) (by rw [List.size_toArray, ← hl]; exact h1) (by simpa using ew) ⟨rfl, fin⟩) hs
theorem ix_str : IxR X rIxS := by
  intro value slice pins s σ H x y v u Q I rx ry h hs
  obtain ⟨z, i, c, rfl, rfl, hz, he, q⟩ := h
  obtain ⟨t, rfl⟩ := rx
  obtain ⟨t', rfl⟩ := ry
  obtain ⟨j, h1, h2, h3, h4, h5⟩ := atI_get he
  have hl : z.cps.toList.length = z.length := by simp [Str.length]
  rw [hl] at h1 h4 h5
  have hn := line63
  exact tail_any (typeIs_str s z t) slot_str_getitem.lookup (getItem_str (c := c) (by
    have e1 : decide (i < -(2 ^ 63 : Int)) = false := decide_eq_false (by omega)
    have e2 : decide (i ≥ 2 ^ 63) = false := decide_eq_false (by omega)
    rw [e1, e2, Bool.or_false]) (by rw [h1]; simpa using h2) ⟨.str ⟨#[c]⟩, H, I.tok _, ⟨_, rfl⟩, q⟩) hs
theorem slice_bounds (lo hi : Option Int) (n : Nat) : (sliceBounds lo hi none n).1 = ((HT.sIx n 0 lo : Nat) : Int) ∧ (sliceBounds lo hi none n).2.1 = ((HT.sIx n n hi : Nat) : Int) ∧ (sliceBounds lo hi none n).2.2 = 1 := by
  refine ⟨?_, ?_, rfl⟩
  · cases lo with
    | none => simp [sliceBounds, HT.sIx]
    | some i =>
      simp only [sliceBounds, HT.sIx, Option.getD_none, show (1 : Int) > 0 by decide, if_true]
      by_cases h : i < 0
      · simp only [h, if_true] <;> omega
      · simp only [h, if_false] <;> omega
  · cases hi with
    | none => simp [sliceBounds, HT.sIx]
    | some i =>
      simp only [sliceBounds, HT.sIx, Option.getD_none, show (1 : Int) > 0 by decide, if_true]
      by_cases h : i < 0
      · simp only [h, if_true] <;> omega
      · simp only [h, if_false] <;> omega
theorem slicePick_cut (its : List Value) (lo hi : Option Int) : slicePick its.toArray lo hi none = ((its.drop (HT.sIx its.length 0 lo)).take (HT.sIx its.length its.length hi - HT.sIx its.length 0 lo)).toArray := by
  obtain ⟨h1, h2, h3⟩ := slice_bounds lo hi its.toArray.size
  unfold slicePick
  rw [h1, h2, h3]
  simp only [sliceRange_one, pick_run, List.size_toArray] <;> rfl
def rSlL (K : PySem.W.Frag) : V → Option Int → Option Int → Hp → VK → Prop := fun x lo hi H Q => ∃ a xs, x = .ref a ∧ SqL K H a xs ∧ ∀ p, H p = none → Q (.ref p) (upd H p (.lst (cutV xs lo hi)))
theorem sl_list : SlR X (rSlL X.K) := by
  intro pins s σ H x v vl vu lo hi sl Q I rx hs pl pu h
  obtain ⟨a, xs, rfl, hx, q⟩ := h
  cases rx
  obtain ⟨its, r, ht, hz⟩ := I.list hx
  have hlen := r.length
  refine ⟨"list", _, slot_list_getitem.lookup, ht.isList.typeIs, ?_⟩
  refine wpAny_getItem_list_slice ht.isList hs pl pu .none (by simp) ?_ (by rw [List.size_toArray] <;> omega)
  rw [slicePick_cut, ← hlen]
  refine ⟨.ref s.heap.objs.size, _, I.laid (t' := s.toks) (o := .lst (cutV xs lo hi)) (fun b ob q => Heap.get?_push_of_some _ q) (Nat.le_refl _) ?_, rfl, q _ (I.hok.fresh (Nat.le_refl _))⟩
  exact ⟨Nat.le_trans (cutV_length xs lo hi) hz, _, 0, (r.drop (HT.sIx xs.length 0 lo)).take (HT.sIx xs.length xs.length hi - HT.sIx xs.length 0 lo), Heap.get?_push_size _ rfl⟩

theorem call_len_seq : CallR X (.builtin "len") (fun xs H Q => ∃ p ys, xs = [.ref p] ∧ (SqL X.K H p ys ∨ SqT X.K H p ys) ∧ Q (.int ys.length) H) := by
  intro pins s σ H xs us Q I r h
  obtain ⟨p, ys, rfl, hq, q⟩ := h
  obtain ⟨u, rfl, rx⟩ := vals1 r
  cases rx
  have hn := line63
  rcases hq with hq | hq
  · obtain ⟨its, r', pl, hz⟩ := I.list hq
    have hlen := r'.length
    exact Calls.call_len_list pl.isList (by simp only [List.size_toArray] <;> omega) ⟨.int ys.length, H, I.tok _, ⟨s.toks + 1, by rw [List.size_toArray, hlen]⟩, q⟩
  · obtain ⟨its, r', pl, hz⟩ := I.tuple hq
    have hlen := r'.length
    exact len_tuple pl (by simp only [List.size_toArray] <;> omega) ⟨.int ys.length, H, I.tok _, ⟨s.toks + 1, by rw [List.size_toArray, hlen]⟩, q⟩
theorem call_list_of : CallR X (.type "list") (fun xs H Q => ∃ p ys, xs = [.ref p] ∧ (SqL X.K H p ys ∨ SqT X.K H p ys) ∧ ∀ l, H l = none → Q (.ref l) (upd H l (.lst ys))) := by
  intro pins s σ H xs us Q I r h
  obtain ⟨p, ys, rfl, hq, q⟩ := h
  obtain ⟨u, rfl, rx⟩ := vals1 r
  cases rx
  have fin : ∀ (its : List Value), Vals ys its → ys.length ≤ sizeLine → ∀ (h' : Heap) (c' : Nat), (∀ b o', s.heap.get? b = some o' → h'.get? b = some o') →
      h'.get? s.heap.objs.size = some { cls := .type "list", dict := none, data := .seq its.toArray c', slots := #[] } → EP X pins σ Q (.ref s.heap.objs.size) { s with heap := h' } := fun its r' hz h' c' kp e =>
    ⟨.ref s.heap.objs.size, _, I.laid (t' := s.toks) kp (Nat.le_refl _) (show ObjOk X.prog X.w _ h' _ (.lst ys) from ⟨hz, its, c', r', e⟩), rfl, q _ (I.hok.fresh (Nat.le_refl _))⟩
  rcases hq with hq | hq
  · obtain ⟨its, r', pl, hz⟩ := I.list hq
    have hlen := r'.length
    obtain ⟨o, ho, hc, n, hd⟩ := pl.isList
    exact call_list_seq p (.inl rfl) ho hc hd (fun h' c' kp e => fin its r' hz h' c' kp e) (by simp only [List.size_toArray] <;> omega)
  · obtain ⟨its, r', pl, hz⟩ := I.tuple hq
    have hlen := r'.length
    obtain ⟨o, ho, hc, n, hd⟩ := pl
    exact call_list_seq p (.inr rfl) ho hc hd (fun h' c' kp e => fin its r' hz h' c' kp e) (by simp only [List.size_toArray] <;> omega)
theorem call_tuple_of : CallR X (.type "tuple") (fun xs H Q => ∃ p ys, xs = [.ref p] ∧ ((SqL X.K H p ys ∧ ∀ l, H l = none → Q (.ref l) (upd H l (.tup ys))) ∨ (SqT X.K H p ys ∧ Q (.ref p) H))) := by
  intro pins s σ H xs us Q I r h
  obtain ⟨p, ys, rfl, h⟩ := h
  obtain ⟨u, rfl, rx⟩ := vals1 r
  cases rx
  rcases h with ⟨hq, q⟩ | ⟨hq, q⟩
  · obtain ⟨its, r', pl, hz⟩ := I.list hq
    have hlen := r'.length
    refine call_tuple_list pl.isList (fun h' kp => ?_) (by simp only [List.size_toArray] <;> omega)
    have I1 : Inv X pins σ H { s with heap := h' } := I.kept (t' := s.toks) kp
    have I2 : Inv X pins σ (upd H h'.objs.size (.tup ys)) { s with heap := h'.push { cls := .type "tuple", data := .seq its.toArray } } :=
      I1.laid (t' := s.toks) (fun b o e => Heap.get?_push_of_some _ e) (Nat.le_refl _) (show ObjOk X.prog X.w _ _ _ (.tup ys) from ⟨hz, its, r', IsTup.new _ _⟩)
    exact ⟨.ref h'.objs.size, _, I2, rfl, q _ (I1.hok.fresh (Nat.le_refl _))⟩
  · obtain ⟨its, r', pl, hz⟩ := I.tuple hq
    exact call_tuple_same pl ⟨.ref p, H, I, rfl, q⟩

def tyV (K : PySem.W.Frag) (T : String) (x : V) (H : Hp) : Prop := match x with
  | .str _ => T = "str"
  | .int _ => T = "int"
  | .ref p => (T = "list" ∧ ∃ xs, SqL K H p xs) ∨ (T = "tuple" ∧ ∃ o, K.lookup p = some o ∧ o.cls = .type "tuple" ∧ o.dict = none) ∨
      (T = "dict" ∧ ((∃ kvs, H p = some (.dK kvs)) ∨ ∃ kvs, H p = some (.dT kvs))) ∨ (T = "set" ∧ ∃ S n, H p = some (.set S n))
  | _ => False
theorem tyV_is {pins : List (Addr × Obj)} {σ : St} {H : Hp} {s : Shared} {T : String} {x : V} {v : Value} (I : Inv X pins σ H s) (r : RelV x v) (ty : tyV X.K T x H) :
    s.TypeIs v T ∧ ∀ a, v = .ref a → ∃ ob, s.heap.get? a = some ob ∧ ob.dict = none := by
  cases x with
  | str z =>
    obtain ⟨t, rfl⟩ := r
    cases (show T = "str" from ty)
    exact ⟨typeIs_str s z t, fun _ e => nomatch e⟩
  | int i =>
    obtain ⟨t, rfl⟩ := r
    cases (show T = "int" from ty)
    exact ⟨typeIs_int s i t, fun _ e => nomatch e⟩
  | ref p =>
    cases r
    rcases ty with ⟨rfl, xs, hq⟩ | ⟨rfl, o, hk, hc, hd⟩ | ⟨rfl, hk⟩ | ⟨rfl, S, n, hk⟩
    · obtain ⟨its, _, pl, _⟩ := I.list hq
      refine ⟨pl.isList.typeIs, fun a e => ?_⟩
      cases e
      obtain ⟨o, n, e, c, hd, _⟩ := pl
      exact ⟨o, e, hd⟩
    · refine ⟨⟨o, I.kIn p o hk, hc⟩, fun a e => ?_⟩
      cases e
      exact ⟨o, I.kIn _ o hk, hd⟩
    · have z : ∃ o, s.heap.get? p = some o ∧ o.ExactDict := by
        rcases hk with ⟨kvs, hk⟩ | ⟨kvs, hk⟩
        · obtain ⟨_, _, _, _, o, _, _, e, ex, _⟩ := I.hok p _ hk
          exact ⟨o, e, ex⟩
        · obtain ⟨_, _, _, _, o, _, _, e, ex, _⟩ := I.hok p _ hk
          exact ⟨o, e, ex⟩
      obtain ⟨o, e, ex⟩ := z
      refine ⟨⟨o, e, ex.1⟩, fun a e2 => ?_⟩
      cases e2
      exact ⟨o, e, ex.2.1⟩
    · obtain ⟨o, _, _, _, e, ex, _⟩ := I.hok p _ hk
      refine ⟨⟨o, e, ex.1⟩, fun a e2 => ?_⟩
      cases e2
      exact ⟨o, e, ex.2.1⟩
  | _ => exact False.elim ty
def tBM (K : PySem.W.Frag) (T : String) (r : V → List V → Hp → VK → Prop) (to : TE) (t : TA) : TE := fun σ H Q => to σ H fun x H1 => tyV K T x H1 ∧ t σ H1 fun xs H2 => r x xs H2 Q
variable {o e : Expr} {es : List Expr} {to : TE} {t : TA} {name : Str} {apos cpos : Pos} {T id : String} {r : V → List V → Hp → VK → Prop}
theorem pe_bm (pa : PlainAttrs T) (slot : Slot T name id) (hty : typeOf (.builtin id) = pure (.type "method_descriptor")) (hm : MtR X id r) (ho : PE X o to) (ha : PA X (e :: es) t)
    (hbase : attributeBase o name X.env (eval o X.env) = eval o X.env := by rfl)
    (hfew : ((backTo cpos (starEach (e :: es) X.env)).all (fun x => !x.1) && (backToKw cpos (keywordEach [] X.env)).all (fun x => x.1.isSome)
      && decide ((e :: es).length + ([] : List Keyword).length + (if ([] : List Keyword).isEmpty then 0 else 1) < 30)) = true := by rfl)
    (hline : (apos.endLine == cpos.line) = true := by rfl) (hs : starEach (e :: es) X.env = (false, eval e X.env) :: starEach es X.env := by rfl) (hplain : (backTo cpos (starEach es X.env)).any (·.1) = false := by rfl) :
    PE X (.Call (.Attribute o name apos) (e :: es) [] cpos) (tBM X.K T r to t) := by
  intro pins s σ H Q I h
  refine wpAny_Call_method_late hbase hfew hline rfl (thn (ho pins s σ H _ I h) fun v s1 ⟨x, H1, I1, r1, ty, q1⟩ => ?_)
  obtain ⟨h1, h2⟩ := tyV_is I1 r1 ty
  refine ⟨T, id, pa, slot, hty, h1, h2, ?_⟩
  have hA := ha cpos pins s1 σ H1 _ I1 q1
  rw [hs] at hA ⊢
  refine Calls.callWith_builtin (by show (false || (backTo cpos (starEach es X.env)).any (·.1)) = false; rw [hplain] <;> rfl) (Calls.evalArgs_plain ?_)
  exact thn hA fun us s2 ⟨vs, H2, I2, r2, q2⟩ => hm pins s2 σ H2 x vs v us Q I2 r1 r2 q2
/- xs.append(e), list.index on a module's tuple .. are MtR facts of 06m -/
end
end L2

namespace L2
open PySem PySem.Spec PyProof.Rows

def MtM (X : Cx) (id : String) (r : V → List V → Hp → VK → Prop) : Prop :=
  ∀ (pins : List (Addr × Obj)) (s : Shared) (σ : St) (H : Hp) (x : V) (xs : List V) (v : Value) (us : List Value) (Q : VK), Inv X pins σ H s → RelV x v → Vals xs us → r x xs H Q →
    wpAny (model X.prog X.w) X.A (call (.builtin id) (v :: us)) (EP X pins σ Q) X.xe s

theorem Vals.one : ∀ {x : V} {us : List Value}, Vals [x] us → ∃ u, us = [u] ∧ RelV x u
  | _, _, .cons r .nil => ⟨_, rfl, r⟩
theorem Vals.dropLast {xs : List V} {us : List Value} (h : Vals xs us) : Vals xs.dropLast us.dropLast := by
  induction h with
  | nil => exact .nil
  | cons r t ih =>
    cases t with
    | nil => exact .nil
    | cons q t' => exact .cons r ih
theorem erase_last {α : Type} (l : List α) : l.eraseIdx (l.length - 1) = l.dropLast := by
  induction l with
  | nil => rfl
  | cons a r ih =>
    cases r with
    | nil => rfl
    | cons b r =>
      have e : (a :: b :: r).length - 1 = ((b :: r).length - 1) + 1 := by
        have h1 : (a :: b :: r).length = r.length + 2 := rfl
        have h2 : (b :: r).length = r.length + 1 := rfl
        omega
      rw [e, List.eraseIdx_cons_succ, ih]
      all_goals rfl
section
variable {X : Cx} {pins : List (Addr × Obj)} {σ : St} {H : Hp} {s : Shared} {l b : Addr} {xs ys zs : List V}

theorem Inv.lset {its its' : List Value} {n : Nat} {f : Array Value → Array Value} {t' : Nat} (I : Inv X pins σ H s) (hH : H l = some (.lst xs))
    (e : s.heap.get? l = some { cls := .type "list", data := .seq its.toArray n }) (hf : f its.toArray = its'.toArray) (hv : Vals ys its') (hz : ys.length ≤ sizeLine) :
    Inv X pins σ (upd H l (.lst ys)) { s with heap := s.heap.update l (Obj.mapSeq f), toks := t' } := by
  have q := PySem.IsL.update e f
  rw [hf] at q
  refine I.write (x := l) (e := l) (by rw [hH]; exact trivial) (.inl rfl) (fun b' u hb hu => (Heap.get?_update_other s.heap (Obj.mapSeq f) (Ne.symm hb)).trans hu) ⟨_, q⟩ ?_
  exact ⟨hz, its', _, hv, q⟩
theorem Inv.lnew {its : List Value} {t' : Nat} (I : Inv X pins σ H s) (hv : Vals ys its) (hz : ys.length ≤ sizeLine) :
    Inv X pins σ (upd H s.heap.objs.size (.lst ys)) { s with heap := s.heap.push { cls := .type "list", data := .seq its.toArray }, toks := t' } :=
  I.laid (fun _ _ q => Heap.get?_push_of_some _ q) (Nat.le_refl _) ⟨hz, its, 0, hv, Heap.get?_push_size _ rfl⟩
theorem Inv.fresh (I : Inv X pins σ H s) : H s.heap.objs.size = none := I.hok.fresh (Nat.le_refl _)
theorem Inv.lstM (I : Inv X pins σ H s) (hH : H l = some (.lst xs)) : xs.length ≤ sizeLine ∧ ∃ (its : List Value) (n : Nat), Vals xs its ∧ xs.length = its.length ∧ s.heap.get? l = some { cls := .type "list", data := .seq its.toArray n } := by
  obtain ⟨z, its, n, r, e⟩ := I.hok l _ hH
  exact ⟨z, its, n, r, r.length, e⟩

theorem notLongL {n : Nat} (h : n ≤ sizeLine) : Builtin.List.listTooLong n = false := by
  unfold Builtin.List.listTooLong
  exact decide_eq_false (by omega)
end

section
variable {X : Cx}

def rAppend : V → List V → Hp → VK → Prop := fun x vs H Q => ∃ l xs y, x = .ref l ∧ vs = [y] ∧ H l = some (.lst xs) ∧ xs.length < sizeLine ∧ Q .non (upd H l (.lst (xs ++ [y])))
theorem mt_append : MtM X "list.append" rAppend := by
  intro pins s σ H x vs v us Q I rx rv h
  obtain ⟨l, xs, y, rfl, rfl, hH, hz, q⟩ := h
  cases rx
  obtain ⟨u, rfl, ru⟩ := rv.one
  obtain ⟨z, its, n, r, hl, e⟩ := I.lstM hH
  refine call_meets F.slot_list_append ⟨_, e, rfl⟩ F.entry_list_append (F.args_list_append_2 _ _) (PySem.list_append l its.toArray n u (by rw [List.size_toArray]; omega)) ⟨e, ?_⟩
  refine ⟨.non, _, I.lset (its' := its ++ [u]) hH e (by simp) (r.append (.cons ru .nil)) ?_, rfl, q⟩
  rw [List.length_append, List.length_singleton]
  omega

def rExtend : V → List V → Hp → VK → Prop := fun x vs H Q => ∃ l b xs zs, x = .ref l ∧ vs = [.ref b] ∧ H l = some (.lst xs) ∧ H b = some (.lst zs) ∧ xs.length + zs.length ≤ sizeLine ∧ Q .non (upd H l (.lst (xs ++ zs)))
theorem mt_extend : MtM X "list.extend" rExtend := by
  intro pins s σ H x vs v us Q I rx rv h
  obtain ⟨l, b, xs, zs, rfl, rfl, hH, hB, hz, q⟩ := h
  cases rx
  obtain ⟨u, rfl, ru⟩ := rv.one
  cases ru
  obtain ⟨z, its, n, r, hl, e⟩ := I.lstM hH
  obtain ⟨z2, its2, n2, r2, hl2, e2⟩ := I.lstM hB
  have hsz : its.toArray.size + its2.toArray.size ≤ sizeLine := by rw [List.size_toArray, List.size_toArray]; omega
  have hlong : ¬ (!its.toArray.isEmpty && Builtin.List.listTooLong (its.toArray.size + its2.toArray.size)) = true := by
    rw [notLongL hsz, Bool.and_false]
    exact Bool.false_ne_true
  refine call_meets F.slot_list_extend ⟨_, e, rfl⟩ F.entry_list_extend (F.args_list_extend_2 _ _)
    (AutoSeq1.list_extend_list_list_0 l its.toArray n b its2.toArray n2 hlong (by rw [List.size_toArray]; omega) (by omega)) ⟨e, e2, ?_⟩
  refine ⟨.non, _, I.lset (its' := its ++ its2) hH e (by simp) (r.append r2) ?_, rfl, q⟩
  rw [List.length_append]
  omega

def rCat : R2 := fun x y H Q => ∃ l b xs zs, x = .ref l ∧ y = .ref b ∧ H l = some (.lst xs) ∧ H b = some (.lst zs) ∧ xs.length + zs.length ≤ sizeLine ∧ ∀ p, H p = none → Q (.ref p) (upd H p (.lst (xs ++ zs)))
theorem op_cat : OpR X (binaryOp .Add) rCat := by
  intro pins s σ H x y v u Q I rx ry h
  obtain ⟨l, b, xs, zs, rfl, rfl, hH, hB, hz, q⟩ := h
  cases rx
  cases ry
  obtain ⟨z, its, n, r, hl, e⟩ := I.lstM hH
  obtain ⟨z2, its2, n2, r2, hl2, e2⟩ := I.lstM hB
  refine PySem.P.add_list e e2 ?_ (by rw [List.size_toArray, List.size_toArray]; omega)
  have ea : its.toArray ++ its2.toArray = (its ++ its2).toArray := by simp
  rw [ea]
  exact ⟨.ref _, _, I.lnew (t' := s.toks) (r.append r2) (by rw [List.length_append]; omega), rfl, q _ I.fresh⟩
end

section
variable {prog : Program} {w : World} {A : Around} {E : Value → Shared → Prop} {s : Shared}
end

section
variable {X : Cx}
end
end L2

namespace Att
open PySem PySem.W PySem.Calls PyProof.Rows

theorem ints_of_wellAll {P : Params} {h : Heap} : ∀ (ns : List Int) (vs : List Value), WellAll P h vs (ns.map WData.int) → IntsAre vs ns := by
  intro ns
  induction ns with
  | nil =>
    intro vs w
    rw [List.map_nil] at w
    cases w
    exact .nil
  | cons n ns ih =>
    intro vs w
    rw [List.map_cons] at w
    cases w with
    | cons a b =>
      cases a
      exact .cons _ _ (ih _ b)

theorem script_of {l : OpenLaw} {n : Nat} (hn : l.most = some n) {P : Params} {h : Heap} {args : List WData} {vals : List Value}
    (hpre : l.row.toRowW.claim.pre args = true) (hwl : WellAll P h vals args) :
    ∃ a vs ns, vals = [Value.ref a] ∧ args = [WData.list (ns.map WData.int)] ∧ h.get? a = some { cls := .type "list", data := .seq vs.toArray } ∧ IntsAre vs ns ∧ ns.length ≤ n := by
  have hsh : WShape.hasAll [] args [.list .int] = true := (pre_splitW hpre).1
  have hc : l.pre.holds [] { args := args } = true := (pre_splitW hpre).2
  obtain ⟨d, r, rfl, h1, h2⟩ := hasAllW_cons hsh
  obtain rfl := hasAllW_nil h2
  obtain ⟨xs, rfl, h3⟩ := hasW_list h1
  obtain ⟨ns, rfl⟩ := items_int h3
  have hlen : ns.length ≤ n := by
    unfold OpenLaw.pre at hc
    have h4 : (WTm.not (.lt (.lit (.int (n : Int))) (.len (.arg 0)))).holds [] { args := [.list (ns.map .int)] } = true := by
      have h4 := (holds_andW hc).1
      rw [hn] at h4
      exact h4
    have h5 := condW_of h4 (w_not (w_lt w_lit (w_len_list (w_arg rfl))))
    rw [List.length_map] at h5
    refine Nat.le_of_not_lt fun q => ?_
    have q' : (n : Int) < ((ns.length : Nat) : Int) := by omega
    first
      | (rw [decide_eq_true q'] at h5; exact absurd h5 (by decide))
      | (simp at h5; omega)
  cases hwl with
  | cons w1 w2 =>
    cases w2
    cases w1 with
    | list ho hall => exact ⟨_, _, ns, rfl, rfl, ho, ints_of_wellAll ns _ hall, hlen⟩

theorem post_true (l : OpenLaw) (args : List WData) : l.row.toRowW.claim.post args (.bool true) args = true :=
  postW_of (r := l.row.toRowW) (X := (true == true))
    (show WShape.has [] (.bool true) .bool = true by first | rfl | decide | simp [WShape.has, WShape.arms, WShape.armsAll])
    (show (WTm.eq .res (.lit (.bool true))).value [] { args := args, res := some (.bool true), after := args } = some (.bool (true == true)) from w_eq_bool (w_res rfl) w_lit) rfl

theorem attach_call {l : OpenLaw} {n : Nat} {q : Program} {loose : List Str} {XP : (Str → Option Value) → Heap → Prop} {YP : World → Heap → Prop} {d : DefRec}
    (hn : l.most = some n) (hdf : d.params.defaults = [])
    (call : ∀ (w : World) (s₀ s₁ : Shared) (mg mb : Str → Option Value) (fa : Addr) (o : Obj) (pm cd doc : Value) (a : Addr) (vs : List Value) (ns : List Int),
      Ground q loose [] XP w s₀ mg mb s₁.heap → YP w s₁.heap →
      s₁.heap.get? fa = some o → o.data = .func (docDef d.name d.params d.body d.scope pm cd doc) → s₁.heap.CodeRec cd d.name → mg d.name = some (.ref fa) →
      s₁.heap.get? a = some { cls := .type "list", data := .seq vs.toArray } → IntsAre vs ns → ns.length ≤ n → s₁.gens = #[] →
      codeAny (model l.prog w) callerA (.call (.ref fa) ⟨[.ref a], []⟩) (fun r s' => r = .ok (.ret (.bool true)) ∧ OldK s₁.heap s'.heap ∧ s'.os = s₁.os ∧ AllBare s'.gens) s₁) :
    WalkO q loose XP YP l.row.toRowW d [] (fun f vs => PySem.call f vs) := by
  intro w s₀ s₁ mg mb G Y fa o pm cd doc dV kV ho hd hcd hD hmg hg args vals as hpre hlay hrd hwl hlo
  obtain rfl : dV = .none := Dflts.none hD hdf
  obtain rfl : kV = .none := Dflts.noKw hD
  obtain ⟨a, vs, ns, rfl, rfl, hobj, hints, hlen⟩ := script_of hn hpre hwl
  refine enter_call (codeAny_mono (call w s₀ s₁ mg mb fa o pm cd doc a vs ns G Y ho (fd_plain hd) hcd hmg hobj hints hlen hg) fun r s' hq => ?_)
  obtain ⟨rfl, h2, h3, h4⟩ := hq
  exact ⟨.inl ⟨.bool true, .bool true, [], rfl, fun _ => rfl, .bool true, post_true l _, fun _ => ⟨List.Pairwise.nil, fun _ hm => (nomatch hm)⟩⟩, h2, h3, h4⟩

section
variable {prog : Program} {w : World} {A : Around} {E : Value → Shared → Prop} {s : Shared} {K : Frag}

def ledger (h : Heap) (L d : Addr) : List (Addr × Obj) := (List.range h.objs.size).filterMap fun a => if a = L ∨ a = d then none else (h.get? a).map fun o => (a, o)
end
end Att

namespace L2
open PySem PySem.Spec PyProof.Rows

theorem vals_ints : ∀ {vs : List Value} {ns : List Int}, IntsAre vs ns → Vals (ns.map V.int) vs
  | _, _, .nil => .nil
  | _, _, .cons n t h => .cons ⟨t, rfl⟩ (vals_ints h)

def Only (H : Hp) : Prop := ∀ b, H b = none ∨ ∃ o xs, H b = some (.frz o (.lst xs))

theorem law_call {P : Program} {w : World} {K : PySem.W.Frag} {mg mb : Str → Option Value} {CX : CXT} {k : Nat} {fa a : Addr} {fd : FuncData} {x : Str} {sp : Sp} {s₁ : Shared} {vs : List Value} {ns : List Int}
    (KX : K.In s₁.heap) (hns : s₁.heap.Ns mainGlobals mg) (hb : s₁.heap.Ns builtinsNs mb) (hbb : ∀ x : Str, x ≠ "__name__" → mb x = bootBuiltins x) (hlim : s₁.heap.NoLimit) (hg : s₁.gens = #[])
    (ha : s₁.heap.get? a = some { cls := .type "list", data := .seq vs.toArray }) (hi : IntsAre vs ns) (hl : ns.length ≤ sizeLine) (hr : Room k callerA)
    (F : ∀ base : Heap, K.In base → base.Ns mainGlobals mg → FnOk P w K mg base CX k fa fd [x] sp) (hbind : ∀ (s : Shared) (u : Value), BindsTo s fd ⟨[u], []⟩ [(x, u)])
    (hsp : ∀ H : Hp, Only H → SqL K H a (ns.map V.int) → sp [.ref a] H (fun v _ => v = .bl true) fun _ _ _ => False)
    (hCX : ∀ H e s', CX [] H s₁ (fun _ _ _ => False) e s' → False) :
    codeAny (model P w) callerA (.call (.ref fa) ⟨[.ref a], []⟩) (fun r s' => r = .ok (.ret (.bool true)) ∧ OldK s₁.heap s'.heap ∧ s'.os = s₁.os ∧ AllBare s'.gens) s₁ := by
  have rv := vals_ints hi
  have lenV := hi.length
  -- from an abstract heap in which nothing but the script may be tracked
  have core : ∀ H : Hp, Only H → SqL K H a (ns.map V.int) → HOk P w H s₁.heap → (∀ b, H b ≠ none → b = a) → (H a ≠ none → K.lookup a = none) →
      codeAny (model P w) callerA (.call (.ref fa) ⟨[.ref a], []⟩) (fun r s' => r = .ok (.ret (.bool true)) ∧ OldK s₁.heap s'.heap ∧ s'.os = s₁.os ∧ AllBare s'.gens) s₁ := by
    intro H hO hS hok hA hK
    have base_of : ∀ {b : Addr} {o : Obj}, s₁.heap.get? b = some o → H b = none → (hidT s₁.heap H).get? b = some o := fun e n => hidT_get e n
    have noA : ∀ {b : Addr} {o : Obj} {es : Array DictEntry} {ep : Nat}, s₁.heap.get? b = some o → o.data = .dict es ep → H b = none := fun {b o es ep} e d => by
      cases q : H b with
      | none => rfl
      | some u =>
        have e' : b = a := hA b (by rw [q]; simp)
        subst e'
        rw [ha] at e; cases e
        have d' : Data.seq vs.toArray _ = Data.dict es ep := d
        cases d'
    have nsK : ∀ {b : Addr} {m : Str → Option Value}, s₁.heap.Ns b m → (hidT s₁.heap H).Ns b m := fun {b m} ⟨o, es, ep, e, d, r⟩ => ⟨o, es, ep, base_of e (noA e d), d, r⟩
    have hKb : K.In (hidT s₁.heap H) := fun b o e => base_of (KX b o e) (by
      cases q : H b with
      | none => rfl
      | some u =>
        have e' : b = a := hA b (by rw [q]; simp)
        subst e'
        rw [hK (by rw [q]; simp)] at e; cases e)
    have hM : Mod K mg (hidT s₁.heap H) := ⟨hKb, nsK hns, ⟨mb, nsK hb, hbb⟩, let ⟨mc, h1, h2⟩ := hlim; ⟨mc, nsK h1, h2⟩⟩
    have e0 : Env0 P w K mg (hidT s₁.heap H) callerA [] s₁ H := ⟨rfl, hM, fun b o e => of_hidT e, Nat.le_of_eq (hidT_size _ _), trivial, fun b hb => absurd (show b ∈ ([] : List Addr) from hb) (by simp), hok, .of_eq hg⟩
    refine codeAny_mono ((F _ hKb (nsK hns)).run callerA [] s₁ H ⟨[.ref a], []⟩ [.ref a] [.ref a] _ _ hr e0 (hbind s₁ (.ref a)) (.cons rfl .nil) (hsp H hO hS)) fun r s' h => ?_
    cases r with
    | error e => exact (hCX H e s' h).elim
    | ok fl =>
      cases fl with
      | next => exact False.elim h
      | brk => exact False.elim h
      | cont => exact False.elim h
      | ret u =>
        obtain ⟨v, H', os, bare, un, hok', r', q⟩ := h
        have q' : v = .bl true := q
        subst q'
        obtain rfl : u = Value.bool true := r'
        refine ⟨rfl, OldK.of_keep fun b o e => ?_, os, bare⟩
        cases q : H b with
        | none => exact un.keep b o e q (by intro z; exact absurd (show b ∈ ([] : List Addr) from z) (by simp)) (by simp)
        | some u =>
          rcases hO b with z | ⟨ob, xs, z⟩
          · rw [q] at z; cases z
          · have z2 := un.frzs b ob _ z
            obtain ⟨e1, _⟩ := hok b _ z
            obtain ⟨e2, _⟩ := hok' b _ z2
            rw [e] at e1; cases e1
            exact e2
  cases hk : K.lookup a with
  | some o =>
    -- the script is one of the module's own objects
    have e := KX a o hk
    rw [ha] at e
    cases e
    refine core (fun _ => none) (fun _ => .inl rfl) (.inr ⟨_, vs.toArray, _, hk, rfl, rfl, rfl, by rw [List.size_toArray, lenV]; exact hl, by simpa using rv⟩) (fun b u z => by have z' : (none : Option HO) = some u := z; cases z') (fun b z => absurd rfl z) fun z => absurd rfl z
  | none =>
    refine core (fun b => if b = a then some (.frz { cls := .type "list", data := .seq vs.toArray } (.lst (ns.map V.int))) else none) (fun b => ?_) (.inl (.inr ⟨{ cls := .type "list", data := .seq vs.toArray }, if_pos rfl⟩)) (fun b u z => ?_) (fun b z => ?_) fun _ => hk
    · by_cases hb : b = a
      · exact .inr ⟨_, _, if_pos hb⟩
      · exact .inl (if_neg hb)
    · by_cases hb : b = a
      · have z' := (if_pos hb).symm.trans z
        cases z'
        subst hb
        exact ⟨ha, by rw [List.length_map]; exact hl, vs, _, rv, ha⟩
      · have z' := (if_neg hb).symm.trans z
        cases z'
    · by_cases hb : b = a
      · exact hb
      · exact absurd (if_neg hb) z
end L2

namespace L2
open PySem PySem.Spec PyProof.Rows

abbrev KOf {K : PySem.W.Frag} {h : Heap} (_ : K.In h) : PySem.W.Frag := K

theorem walk_of {l : PySem.W.OpenLaw} {n k : Nat} {q : Program} {loose : List Str} {XP : (Str → Option Value) → Heap → Prop} {YP : World → Heap → Prop} {d : DefRec} {K : Params → PySem.W.Frag} {CX : World → CXT} {sp : World → Sp} {x : Str}
    (hn : l.most = some n) (hn2 : n ≤ sizeLine) (hdf : d.params.defaults = []) (hr : Room k callerA)
    (hY : ∀ (w : World) (h : Heap), YP w h → (K w.params).In h)
    (F : ∀ (w : World) (mg : Str → Option Value) (fa : Addr) (h : Heap), (K w.params).In h → h.Ns mainGlobals mg → mg d.name = some (.ref fa) →
      ∃ fd : FuncData, (∀ (s : Shared) (u : Value), BindsTo s fd ⟨[u], []⟩ [(x, u)]) ∧
        ∀ base : Heap, (K w.params).In base → base.Ns mainGlobals mg → FnOk l.prog w (K w.params) mg base (CX w) k fa fd [x] (sp w))
    (hsp : ∀ (w : World) (H : Hp) (a : Addr) (ns : List Int), ns.length ≤ n → Only H → SqL (K w.params) H a (ns.map V.int) → sp w [.ref a] H (fun v _ => v = .bl true) fun _ _ _ => False)
    (hCX : ∀ (w : World) (H : Hp) (s : Shared) (e : Value) (s' : Shared), CX w [] H s (fun _ _ _ => False) e s' → False) :
    PySem.W.WalkO q loose XP YP l.row.toRowW d [] (fun f vs => PySem.call f vs) := by
  refine Att.attach_call hn hdf fun w s₀ s₁ mg mb fa o pm cd doc a vs ns G Y ho hd hcd hmg hobj hints hlen hg => ?_
  have KX := hY w _ Y
  obtain ⟨fd, hb, hF⟩ := F w mg fa _ KX G.T.g hmg
  exact law_call KX G.T.g G.T.b G.T.builtins G.T.nolimit hg hobj hints (Nat.le_trans hlen hn2) hr hF hb (fun H hO hS => hsp w H a ns hlen hO hS) fun H e s' => hCX w H s₁ e s'
theorem walk_ofK {l : PySem.W.OpenLaw} {n k : Nat} {q : Program} {loose : List Str} {XP : (Str → Option Value) → Heap → Prop} {YP : World → Heap → Prop} {d : DefRec} {K : Params → PySem.W.Frag} {CX : CXT} {sp : PySem.W.Frag → Sp} {x : Str}
    (hn : l.most = some n) (hn2 : n ≤ sizeLine) (hdf : d.params.defaults = []) (hr : Room k callerA)
    (hY : ∀ (w : World) (h : Heap), YP w h → (K w.params).In h)
    (F : ∀ (w : World) (mg : Str → Option Value) (fa : Addr) (h : Heap), (K w.params).In h → h.Ns mainGlobals mg → mg d.name = some (.ref fa) →
      ∃ fd : FuncData, (∀ (s : Shared) (u : Value), BindsTo s fd ⟨[u], []⟩ [(x, u)]) ∧
        ∀ base : Heap, (K w.params).In base → base.Ns mainGlobals mg → FnOk l.prog w (K w.params) mg base CX k fa fd [x] (sp (K w.params)))
    (hsp : ∀ (K : PySem.W.Frag) (H : Hp) (a : Addr) (ns : List Int), ns.length ≤ n → Only H → SqL K H a (ns.map V.int) → sp K [.ref a] H (fun v _ => v = .bl true) fun _ _ _ => False)
    (hCX : ∀ (H : Hp) (s : Shared) (e : Value) (s' : Shared), CX [] H s (fun _ _ _ => False) e s' → False) :
    PySem.W.WalkO q loose XP YP l.row.toRowW d [] (fun f vs => PySem.call f vs) :=
  walk_of (K := K) (CX := fun _ => CX) (sp := fun w => sp (K w.params)) hn hn2 hdf hr hY F (fun w H a ns h1 h2 h3 => hsp (K w.params) H a ns h1 h2 h3) fun _ H s e s' => hCX H s e s'
end L2

/- THE LAST THEOREM (shape; LID, My.* are yours):
   My.Adr: a structure of the addresses that your layer names (classes, functions); My.Txt K t: a structure (Prop) of the equations over K;
   My.txt_mk : {K} {implicit addresses ..} (e1 : nsIn K mainGlobals "law" = some (some (.ref f))) (e2 : K.lookup f = some ⟨oc, od, .func (fnOf "law" "law" params body scope dV kV doc pm an cdv ct), sl⟩) (e3 : codeIn K cdv "law" = true) .. : ∃ t, My.Txt K t

set_option maxRecDepth 100000 in
set_option maxHeartbeats 0 in
theorem PySem.Challenge.cw_LID_holds : PySem.Challenge.rw_LID.Holds := by
  w_on; o_law; k_head; (case hw => w_witness2)
  k_fill
  refine L2.walk_of (l := PySem.Challenge.rw_LID) (n := 63) (k := 40) (x := "script") (CX := fun w => ..) (sp := fun _ => My.sp_law) rfl (by decide) rfl ⟨rfl, by decide, by decide⟩ (fun w h Y => PySem.W.kIn_of Y) ?F ?S ?C
  case F =>
    intro w mg fa h KX G hmg
    have T : ∃ t, My.Txt (L2.KOf KX) t := by
      dsimp only [L2.KOf]                          -- K must stand as «<heap const> w.params» for k_is
      refine' My.txt_mk ?e1 ?e2 ?e3 ..
      (case e1 => PySem.W.k_is)                    -- in the order: a name -> its address -> its object -> its parts
      (case e2 => PySem.W.k_is)
      ..
    obtain ⟨t, T⟩ := T
    have e0 := hmg.symm.trans (PySem.W.mg_of KX G T.law)
    cases e0                                       -- fa is the law's own address
    exact ⟨_, fun s u => .of_eq rfl, fun base kb nb => My.law_fn T kb nb⟩     -- if «.of_eq rfl» comes too early: refine' ⟨_, ?b, fun base kb nb => My.law_fn T kb nb⟩; exact fun s u => .of_eq rfl
  case S => exact fun w H a ns hl hO hS => ..
  case C => exact ..
(the tactic k_is has no namespace: write k_is) -/

namespace L2
open PySem PySem.Spec PyProof.Rows

def inClass (s : Stmt) (j : Nat) : Stmt := match s with
  | .ClassDef _ _ _ body _ _ _ _ _ _ _ => body.getD j (.Pass ⟨0, 0, 0, 0⟩)
  | _ => .Pass ⟨0, 0, 0, 0⟩
def defArgs (s : Stmt) : Arguments := match s with
  | .FunctionDef _ a _ _ _ _ _ _ _ _ => a
  | _ => { posonlyargs := [], args := [], vararg := none, kwonlyargs := [], kw_defaults := [], kwarg := none, defaults := [] }
def defBody (s : Stmt) : List Stmt := match s with
  | .FunctionDef _ _ b _ _ _ _ _ _ _ => b
  | _ => []
def defScope (s : Stmt) : Scope := match s with
  | .FunctionDef _ _ _ _ _ _ sc _ _ _ => sc
  | _ => { kind := .function, names := [], isGenerator := false, isCoroutine := false }

abbrev CX0 : CXT := fun _ _ _ _ _ _ => False
abbrev E0 : XK := fun _ _ _ => False
theorem pass0 {X : Cx} : Passes CX0 X E0 := fun _ _ _ _ _ _ _ h => h.elim

structure Fun (K : PySem.W.Frag) (x qual : Str) (st : Stmt) (f : Addr) (fd : FuncData) : Prop where
  ex : ∃ (oc : Value) (od : Option Addr) (kV doc pm : Value) (an : Option Addr) (cdv ct : Value) (osl : Array (Option Value)),
    fd = PySem.W.fnOf x qual (defArgs st) (defBody st) (defScope st) .none kV doc pm an cdv ct ∧ K.lookup f = some ⟨oc, od, .func fd, osl⟩ ∧ PySem.W.codeIn K cdv qual = true
  kp : PySem.W.keepIn K (.ref f) = true
section
variable {P : Program} {w : World} {K : PySem.W.Frag} {mg : Str → Option Value} {base : Heap}
theorem Fun.ok {x qual : Str} {st : Stmt} {f : Addr} {fd : FuncData} {N ps : List Str} {k : Nat} {sp : Sp} (F : Fun K x qual st f fd) (S : FnScope N ps (defScope st)) (len : ∀ vs H Q E, sp vs H Q E → vs.length = ps.length)
    (hbody : ∀ (cdv : Value) (A : Around) (outer : List Env) (s : Shared) (H : Hp) (vs : List V) (Q : VK) (E : XK), Room k (A.deeper (envOfC qual (defScope st) s.heap.objs.size f cdv)) → sp vs H Q E →
      ∃ t, PSs (cxOf CX0 P w K mg base N qual (defScope st) f cdv A outer s H E).nox (defBody st) t ∧ t { nx := fun _ H' => Q .non H', rt := Q } (start N vs) H) : FnOk P w K mg base CX0 (k + 1) f fd ps sp := by
  obtain ⟨oc, od, kV, doc, pm, an, cdv, ct, osl, rfl, lk, hcd⟩ := F.ex
  refine fn_of lk hcd S len fun A outer s H vs Q E hr hsp => ?_
  obtain ⟨t, h, q⟩ := hbody cdv A outer s H vs Q E hr hsp
  exact ⟨t, h.nox, q⟩
theorem Fun.binds {x qual : Str} {st : Stmt} {f : Addr} {fd : FuncData} {ps : List Str} (F : Fun K x qual st f fd)
    (h : ∀ (kV doc pm : Value) (an : Option Addr) (cdv ct : Value) (us : List Value), us.length = ps.length → bindArgs (PySem.W.fnOf x qual (defArgs st) (defBody st) (defScope st) .none kV doc pm an cdv ct) ⟨us, []⟩ = pure (ps.zip us)) : Binds K fd ps [] := by
  obtain ⟨oc, od, kV, doc, pm, an, cdv, ct, osl, rfl, lk, hcd⟩ := F.ex
  exact .all (h kV doc pm an cdv ct)
theorem fun_mk {x qual : Str} {st : Stmt} {f : Addr} {oc : Value} {od an : Option Addr} {osl : Array (Option Value)} {kV doc pm cdv ct : Value} (l : K.lookup f = some ⟨oc, od, .func (PySem.W.fnOf x qual (defArgs st) (defBody st) (defScope st) .none kV doc pm an cdv ct), osl⟩)
    (c : PySem.W.codeIn K cdv qual = true) (k : PySem.W.keepIn K (.ref f) = true) : Fun K x qual st f (PySem.W.fnOf x qual (defArgs st) (defBody st) (defScope st) .none kV doc pm an cdv ct) := ⟨⟨oc, od, kV, doc, pm, an, cdv, ct, osl, rfl, l, c⟩, k⟩
end
theorem small1000 {n : Nat} (h : n ≤ 1000) : n < sizeLine := Nat.lt_of_le_of_lt h (by decide)

section
variable {X : Cx}
theorem pv (i : Nat) {x : Str} {pos : Pos} (hN : X.N[i]? = some x := by rfl) (hv : Vis X.env.scope x := by first | exact Or.inl rfl | exact Or.inr (Or.inl rfl) | exact Or.inr (Or.inr rfl)) (hd : (x == ("__debug__" : Str)) = false := by decide)
    (hcd : (x == ("__classdict__" : Str)) = false := by decide) : PE X (.Name x pos) (tVar i) := pe_var hN hv hd hcd
end

theorem iteF {A B : Prop} (h : B) : if false = true then A else B := by
  rw [if_neg Bool.false_ne_true]
  exact h
theorem iteT {A B : Prop} (h : A) : if true = true then A else B := by
  rw [if_pos rfl]
  exact h
end L2


set_option linter.all false
set_option maxRecDepth 100000
set_option maxHeartbeats 4000000
namespace U
open PySem PySem.Spec PyProof.Rows L2
inductive PV where
  | non | bl (b : Bool) | int (i : Int) | str (x : Str) | ref (a : Addr) | tup (l : List PV) | fls (l : List PV) | oth (v : V)
def FzL (K : PySem.W.Frag) (H : Hp) (a : Addr) (xs : List V) : Prop :=
  (∃ o, H a = some (.frz o (.lst xs))) ∨
    ∃ (o : Obj) (its : Array Value) (n : Nat), K.lookup a = some o ∧ o.cls = .type "list" ∧ o.dict = none ∧ o.data = .seq its n ∧ its.size ≤ sizeLine ∧ Vals xs its.toList
theorem FzL.sq {K : PySem.W.Frag} {H : Hp} {a : Addr} {xs : List V} (h : FzL K H a xs) : SqL K H a xs := by
  rcases h with h | h
  · exact .inl (.inr h)
  · exact .inr h
structure Kp (H H1 : Hp) : Prop where
  t : ∀ a us, H a = some (.tup us) → H1 a = some (.tup us)
  z : ∀ a o u, H a = some (.frz o u) → H1 a = some (.frz o u)
theorem Kp.sqT {K : PySem.W.Frag} {H H1 : Hp} (k : Kp H H1) {a : Addr} {us : List V} (h : SqT K H a us) : SqT K H1 a us := by
  rcases h with (h | ⟨o, h⟩) | h
  · exact .inl (.inl (k.t _ _ h))
  · exact .inl (.inr ⟨o, k.z _ _ _ h⟩)
  · exact .inr h
theorem Kp.fzL {K : PySem.W.Frag} {H H1 : Hp} (k : Kp H H1) {a : Addr} {us : List V} (h : FzL K H a us) : FzL K H1 a us := by
  rcases h with ⟨o, h⟩ | h
  · exact .inl ⟨o, k.z _ _ _ h⟩
  · exact .inr h
section
variable (K : PySem.W.Frag)
mutual
def RP (H : Hp) : PV → V → Prop
  | .non, v => v = .non
  | .bl b, v => v = .bl b
  | .int i, v => v = .int i
  | .str x, v => v = .str x
  | .ref a, v => v = .ref a
  | .oth w, v => v = w
  | .tup l, v => ∃ a us, v = .ref a ∧ SqT K H a us ∧ RPs H l us
  | .fls l, v => ∃ a us, v = .ref a ∧ FzL K H a us ∧ RPs H l us
def RPs (H : Hp) : List PV → List V → Prop
  | [], us => us = []
  | x :: l, us => ∃ u r, us = u :: r ∧ RP H x u ∧ RPs H l r
end
mutual
theorem RP.kp {H H1 : Hp} (k : Kp H H1) : ∀ {x : PV} {v : V}, RP K H x v → RP K H1 x v
  | .non, _, h => h
  | .bl _, _, h => h
  | .int _, _, h => h
  | .str _, _, h => h
  | .ref _, _, h => h
  | .oth _, _, h => h
  | .tup l, v, h => by
    simp only [RP] at h ⊢
    obtain ⟨a, us, e, q, r⟩ := h
    exact ⟨a, us, e, k.sqT q, RPs.kp k r⟩
  | .fls l, v, h => by
    simp only [RP] at h ⊢
    obtain ⟨a, us, e, q, r⟩ := h
    exact ⟨a, us, e, k.fzL q, RPs.kp k r⟩
theorem RPs.kp {H H1 : Hp} (k : Kp H H1) : ∀ {l : List PV} {us : List V}, RPs K H l us → RPs K H1 l us
  | [], _, h => h
  | x :: l, us, h => by
    simp only [RPs] at h ⊢
    obtain ⟨u, r, e, a, b⟩ := h
    exact ⟨u, r, e, RP.kp k a, RPs.kp k b⟩
end
theorem RPs.nil {H : Hp} : RPs K H [] [] := by simp [RPs]
theorem RPs.cons {H : Hp} {x : PV} {l : List PV} {u : V} {us : List V} (a : RP K H x u) (b : RPs K H l us) : RPs K H (x :: l) (u :: us) := by
  simp only [RPs]; exact ⟨u, us, rfl, a, b⟩
theorem RPs.length {H : Hp} : ∀ {l : List PV} {us : List V}, RPs K H l us → us.length = l.length
  | [], us, h => by simp only [RPs] at h; subst h; rfl
  | x :: l, us, h => by
    simp only [RPs] at h
    obtain ⟨u, r, rfl, _, b⟩ := h
    simp [RPs.length b]
theorem RPs.get {H : Hp} : ∀ {l : List PV} {us : List V} {i : Nat} {x : PV}, RPs K H l us → l[i]? = some x → ∃ u, us[i]? = some u ∧ RP K H x u
  | [], _, _, _, _, e => by simp at e
  | y :: l, us, i, x, h, e => by
    simp only [RPs] at h
    obtain ⟨u, r, rfl, a, b⟩ := h
    cases i with
    | zero => simp at e; subst e; exact ⟨u, by simp, a⟩
    | succ i => obtain ⟨w, e1, e2⟩ := RPs.get (i := i) (x := x) b (by simpa using e); exact ⟨w, by simpa using e1, e2⟩
theorem RPs.append {H : Hp} : ∀ {l m : List PV} {us ws : List V}, RPs K H l us → RPs K H m ws → RPs K H (l ++ m) (us ++ ws)
  | [], m, us, ws, h, g => by simp only [RPs] at h; subst h; simpa using g
  | x :: l, m, us, ws, h, g => by
    simp only [RPs] at h
    obtain ⟨u, r, rfl, a, b⟩ := h
    exact RPs.cons K a (RPs.append b g)
theorem RPs.take {H : Hp} : ∀ {l : List PV} {us : List V} (n : Nat), RPs K H l us → RPs K H (l.take n) (us.take n)
  | [], us, n, h => by simp only [RPs] at h; subst h; simp [RPs]
  | x :: l, us, 0, h => by simp [RPs]
  | x :: l, us, n + 1, h => by
    simp only [RPs] at h
    obtain ⟨u, r, rfl, a, b⟩ := h
    exact RPs.cons K a (RPs.take n b)
theorem RPs.drop {H : Hp} : ∀ {l : List PV} {us : List V} (n : Nat), RPs K H l us → RPs K H (l.drop n) (us.drop n)
  | [], us, n, h => by simp only [RPs] at h; subst h; simp [RPs]
  | x :: l, us, 0, h => h
  | x :: l, us, n + 1, h => by
    simp only [RPs] at h
    obtain ⟨u, r, rfl, a, b⟩ := h
    exact RPs.drop n b
theorem RPs.ints {H : Hp} : ∀ (ns : List Int), RPs K H (ns.map PV.int) (ns.map V.int)
  | [] => by simp [RPs]
  | n :: ns => RPs.cons K (by simp [RP]) (RPs.ints ns)
end
def ExcA (a C : Addr) (h : Heap) : Prop := ∃ o, h.get? a = some o ∧ o.cls = .ref C
inductive PO where
  | exc (C : Addr)
  | lst (l : List PV)
  | ins (C dx : Addr) (fs : List (Str × PV))
  | dK (kvs : List (Key × PV))
  | dT (kvs : List (List Key × PV))
abbrev PHp := Addr → Option PO
def put (H : PHp) (a : Addr) (o : PO) : PHp := fun b => if b = a then some o else H b
theorem put_same {H : PHp} {a : Addr} {o : PO} : put H a o a = some o := by unfold put; rw [if_pos rfl]
theorem put_ne {H : PHp} {a b : Addr} {o : PO} (h : b ≠ a) : put H a o b = H b := by unfold put; rw [if_neg h]
theorem put_put {H : PHp} {a : Addr} {o u : PO} : put (put H a o) a u = put H a u := by
  funext b; unfold put; split <;> rfl
theorem ne_none {H : PHp} {a b : Addr} {o : PO} (h : H a = some o) (h' : H b = none) : a ≠ b := by
  intro e; subst e; rw [h] at h'; cases h'
abbrev FRel (K : PySem.W.Frag) (H : Hp) {κ : Type} : List (κ × PV) → List (κ × V) → Prop := Paired fun p q => p.1 = q.1 ∧ RP K H p.2 q.2
def OAt (K : PySem.W.Frag) (H : Hp) (a : Addr) : PO → Prop
  | .exc C => H a = some (.ext (ExcA a C))
  | .lst l => ∃ us, H a = some (.lst us) ∧ RPs K H l us
  | .ins C dx fs => ∃ gs, H a = some (.ins C dx gs) ∧ FRel K H fs gs
  | .dK kvs => ∃ ws, H a = some (.dK ws) ∧ FRel K H kvs ws
  | .dT kvs => ∃ ws, H a = some (.dT ws) ∧ FRel K H kvs ws
abbrev HR (K : PySem.W.Frag) (H' : PHp) (H : Hp) : Prop := ∀ a o, H' a = some o → OAt K H a o
abbrev St' := List (Option PV)
abbrev Bs := PHp × Hp
def Ev (H' : PHp) (H : Hp) (H1' : PHp) (H1 : Hp) : Prop := ∀ a o, H a = some o → H' a = none → H1 a = some o ∧ H1' a = none
structure SR (K : PySem.W.Frag) (B : Bs) (σ' : St') (H' : PHp) (σ : L2.St) (H : Hp) : Prop where
  len : σ'.length = σ.length
  loc : ∀ (i : Nat) (v' : PV), σ'[i]? = some (some v') → ∃ v, σ[i]? = some (some v) ∧ RP K H v' v
  hp : HR K H' H
  ev : Ev B.1 B.2 H' H
theorem Ev.refl (H' : PHp) (H : Hp) : Ev H' H H' H := fun _ _ h h' => ⟨h, h'⟩
theorem Ev.trans {H' : PHp} {H : Hp} {H1' : PHp} {H1 : Hp} {H2' : PHp} {H2 : Hp} (a : Ev H' H H1' H1) (b : Ev H1' H1 H2' H2) : Ev H' H H2' H2 := fun c o h h' => by
  obtain ⟨p, q⟩ := a c o h h'
  exact b c o p q
section
variable {K : PySem.W.Frag}
theorem FRel.kp {κ : Type} {H H1 : Hp} (k : Kp H H1) {fs : List (κ × PV)} {gs : List (κ × V)} (h : FRel K H fs gs) : FRel K H1 fs gs := Paired.mapP h fun _ _ ⟨a, b⟩ => ⟨a, RP.kp K k b⟩
theorem OAt.some {H : Hp} {a : Addr} : ∀ {o : PO}, OAt K H a o → ∃ u, H a = Option.some u ∧ (∀ us, u ≠ .tup us) ∧ (∀ o us, u ≠ .frz o us) ∧ (∀ x, u ≠ .own x)
  | .exc C, e => ⟨_, e, (fun _ => by nofun), (fun _ _ => by nofun), (fun _ => by nofun)⟩
  | .lst l, ⟨us, e, _⟩ => ⟨_, e, (fun _ => by nofun), (fun _ _ => by nofun), (fun _ => by nofun)⟩
  | .ins C dx fs, ⟨us, e, _⟩ => ⟨_, e, (fun _ => by nofun), (fun _ _ => by nofun), (fun _ => by nofun)⟩
  | .dK l, ⟨us, e, _⟩ => ⟨_, e, (fun _ => by nofun), (fun _ _ => by nofun), (fun _ => by nofun)⟩
  | .dT l, ⟨us, e, _⟩ => ⟨_, e, (fun _ => by nofun), (fun _ _ => by nofun), (fun _ => by nofun)⟩
theorem OAt.keep {H H1 : Hp} {a : Addr} (k : Kp H H1) (e : H1 a = H a) : ∀ {o : PO}, OAt K H a o → OAt K H1 a o
  | .exc C, h => e.trans h
  | .lst l, ⟨us, h, r⟩ => ⟨us, e.trans h, RPs.kp K k r⟩
  | .ins C dx fs, ⟨us, h, r⟩ => ⟨us, e.trans h, FRel.kp k r⟩
  | .dK l, ⟨us, h, r⟩ => ⟨us, e.trans h, FRel.kp k r⟩
  | .dT l, ⟨us, h, r⟩ => ⟨us, e.trans h, FRel.kp k r⟩
theorem HR.tup {H' : PHp} {H : Hp} (h : HR K H' H) {a : Addr} {us : List V} (e : H a = some (.tup us)) : H' a = none := by
  cases q : H' a with
  | none => rfl
  | some o => obtain ⟨u, e1, n, _⟩ := (h a o q).some; rw [e] at e1; exact absurd (Option.some.inj e1).symm (n us)
theorem HR.frz {H' : PHp} {H : Hp} (h : HR K H' H) {a : Addr} {o : Obj} {u : HO} (e : H a = some (.frz o u)) : H' a = none := by
  cases q : H' a with
  | none => rfl
  | some o' => obtain ⟨u', e1, _, n, _⟩ := (h a o' q).some; rw [e] at e1; exact absurd (Option.some.inj e1).symm (n o u)
theorem HR.free {H' : PHp} {H : Hp} (h : HR K H' H) {a : Addr} (e : H a = none) : H' a = none := by
  cases q : H' a with
  | none => rfl
  | some o => obtain ⟨u, e1, _⟩ := (h a o q).some; rw [e] at e1; cases e1
theorem Ev.kp {H' : PHp} {H : Hp} {H1' : PHp} {H1 : Hp} (e : Ev H' H H1' H1) (h : HR K H' H) : Kp H H1 :=
  ⟨fun a us q => (e a _ q (h.tup q)).1, fun a o u q => (e a _ q (h.frz q)).1⟩
theorem kp_fresh {H : Hp} {p : Addr} {o : HO} (e : H p = none) : Kp H (upd H p o) :=
  ⟨fun a us q => by rw [upd_ne (ne_of_none q e)]; exact q, fun a o u q => by rw [upd_ne (ne_of_none q e)]; exact q⟩
theorem kp_write {H : Hp} {p : Addr} {o u : HO} (e : H p = some u) (n1 : ∀ us, u ≠ .tup us) (n2 : ∀ o us, u ≠ .frz o us) : Kp H (upd H p o) :=
  ⟨fun a us q => by rw [upd_ne (ne_of q e fun z => n1 us z.symm)]; exact q, fun a o' u' q => by rw [upd_ne (ne_of q e fun z => n2 o' u' z.symm)]; exact q⟩
theorem SR.kp {B : Bs} {σ' : St'} {H' H1' : PHp} {σ : L2.St} {H H1 : Hp} (s : SR K B σ' H' σ H) (e : Ev H' H H1' H1) (h : HR K H1' H1) : SR K B σ' H1' σ H1 :=
  ⟨s.len, fun i v' q => by obtain ⟨v, a, b⟩ := s.loc i v' q; exact ⟨v, a, RP.kp K (e.kp s.hp) b⟩, h, s.ev.trans e⟩
theorem HR.hid {H' : PHp} {H : Hp} {p : Addr} {o : HO} (h : HR K H' H) (e : H p = none) : HR K H' (upd H p o) := fun a u q => by
  have na : a ≠ p := by rintro rfl; rw [h.free e] at q; cases q
  exact (h a u q).keep (kp_fresh e) (upd_ne na)
theorem Ev.hid {H' : PHp} {H : Hp} {p : Addr} {o : HO} (e : H p = none) : Ev H' H H' (upd H p o) := fun a u q n => ⟨by rw [upd_ne (ne_of_none q e)]; exact q, n⟩
theorem HR.new {H' : PHp} {H : Hp} {p : Addr} {o : HO} {o' : PO} (h : HR K H' H) (e : H p = none) (new : OAt K (upd H p o) p o') : HR K (put H' p o') (upd H p o) := fun a u q => by
  by_cases hp : a = p
  · subst hp; rw [put_same] at q; cases q; exact new
  · rw [put_ne hp] at q; exact (h a u q).keep (kp_fresh e) (upd_ne hp)
theorem Ev.new {H' : PHp} {H : Hp} {p : Addr} {o : HO} {o' : PO} (e : H p = none) : Ev H' H (put H' p o') (upd H p o) := fun a u q n => by
  have na := ne_of_none q e
  exact ⟨by rw [upd_ne na]; exact q, by rw [put_ne na]; exact n⟩
theorem HR.wr {H' : PHp} {H : Hp} {p : Addr} {o : HO} {o' u' : PO} (h : HR K H' H) (e : H' p = some u') (new : OAt K (upd H p o) p o') : HR K (put H' p o') (upd H p o) := fun a u q => by
  obtain ⟨v, e1, n1, n2, _⟩ := (h p u' e).some
  by_cases hp : a = p
  · subst hp; rw [put_same] at q; cases q; exact new
  · rw [put_ne hp] at q; exact (h a u q).keep (kp_write e1 n1 n2) (upd_ne hp)
theorem HR.kpw {H' : PHp} {H : Hp} {p : Addr} {o : HO} {u' : PO} (h : HR K H' H) (e : H' p = some u') : Kp H (upd H p o) := by
  obtain ⟨v, e1, n1, n2, _⟩ := (h p u' e).some
  exact kp_write e1 n1 n2
theorem Ev.wr {H' : PHp} {H : Hp} {p : Addr} {o : HO} {o' u' : PO} (e : H' p = some u') : Ev H' H (put H' p o') (upd H p o) := fun a u q n => by
  have na : a ≠ p := by rintro rfl; rw [e] at n; cases n
  exact ⟨by rw [upd_ne na]; exact q, by rw [put_ne na]; exact n⟩
def Sub (A B : PHp) : Prop := ∀ a o, A a = some o → B a = some o
theorem Sub.refl (A : PHp) : Sub A A := fun _ _ h => h
theorem Sub.trans {A B C : PHp} (a : Sub A B) (b : Sub B C) : Sub A C := fun c o h => b c o (a c o h)
theorem Sub.put {A B : PHp} {p : Addr} {o : PO} (a : Sub A B) (n : A p = none) : Sub A (put B p o) := fun c u h => by rw [put_ne (ne_none h n)]; exact a c u h
theorem Sub.free {A B : PHp} (a : Sub A B) {p : Addr} (n : B p = none) : A p = none := by
  cases q : A p with
  | none => rfl
  | some o => rw [a p o q] at n; cases n
theorem HR.sub {A B : PHp} {H : Hp} (h : HR K B H) (s : Sub A B) : HR K A H := fun a o e => h a o (s a o e)
theorem Ev.sub {H' : PHp} {H : Hp} {A B : PHp} {H1 : Hp} (e : Ev H' H B H1) (s : Sub A B) : Ev H' H A H1 := fun a o q n => by
  obtain ⟨x, y⟩ := e a o q n
  exact ⟨x, s.free y⟩
end
end U


set_option linter.all false
set_option maxRecDepth 100000
set_option maxHeartbeats 4000000
namespace U
open PySem PySem.Spec PyProof.Rows L2
variable {B : Bs}
abbrev VK' := PV → PHp → Prop
abbrev TE' := St' → PHp → VK' → Prop
abbrev TT' := St' → PHp → (Bool → PHp → Prop) → Prop
abbrev TA' := St' → PHp → (List PV → PHp → Prop) → Prop
abbrev XK' := Value → Option Addr → PHp → Prop
structure Ends' where
  nx : St' → PHp → Prop
  rt : VK'
  bk : St' → PHp → Prop := fun _ _ => False
  ct : St' → PHp → Prop := fun _ _ => False
abbrev TS' := Ends' → St' → PHp → Prop
abbrev TG' := PV → St' → PHp → (St' → PHp → Prop) → Prop
abbrev TGs' := List PV → St' → PHp → (St' → PHp → Prop) → Prop
structure It' where
  items : List PV
  ok : PHp → Prop
abbrev TI' := St' → PHp → (It' → PHp → Prop) → Prop
section
variable (K : PySem.W.Frag) (B : Bs)
def low (t : TE') : TE := fun σ H Q => ∃ σ' H' Q', SR K B σ' H' σ H ∧ t σ' H' Q' ∧ ∀ v' H1' v H1, Q' v' H1' → RP K H1 v' v → SR K B σ' H1' σ H1 → Ev H' H H1' H1 → Q v H1
def lowT (t : TT') : TT := fun σ H Q => ∃ σ' H' Q', SR K B σ' H' σ H ∧ t σ' H' Q' ∧ ∀ b H1' H1, Q' b H1' → SR K B σ' H1' σ H1 → Ev H' H H1' H1 → Q b H1
def lowA (t : TA') : TA := fun σ H Q => ∃ σ' H' Q', SR K B σ' H' σ H ∧ t σ' H' Q' ∧ ∀ vs' H1' vs H1, Q' vs' H1' → RPs K H1 vs' vs → SR K B σ' H1' σ H1 → Ev H' H H1' H1 → Q vs H1
structure DR (D' : Ends') (D : Ends) (H' : PHp) (H : Hp) : Prop where
  nx : ∀ σ1' H1' σ1 H1, D'.nx σ1' H1' → SR K B σ1' H1' σ1 H1 → Ev H' H H1' H1 → D.nx σ1 H1
  rt : ∀ v' H1' v H1, D'.rt v' H1' → RP K H1 v' v → HR K H1' H1 → Ev H' H H1' H1 → D.rt v H1
  bk : ∀ σ1' H1' σ1 H1, D'.bk σ1' H1' → SR K B σ1' H1' σ1 H1 → Ev H' H H1' H1 → D.bk σ1 H1
  ct : ∀ σ1' H1' σ1 H1, D'.ct σ1' H1' → SR K B σ1' H1' σ1 H1 → Ev H' H H1' H1 → D.ct σ1 H1
theorem DR.ev {D' : Ends'} {D : Ends} {H' : PHp} {H : Hp} {H1' : PHp} {H1 : Hp} (d : DR K B D' D H' H) (e : Ev H' H H1' H1) : DR K B D' D H1' H1 :=
  ⟨fun a b c f p q r => d.nx a b c f p q (e.trans r), fun a b c f p q r s => d.rt a b c f p q r (e.trans s), fun a b c f p q r => d.bk a b c f p q (e.trans r), fun a b c f p q r => d.ct a b c f p q (e.trans r)⟩
def lowS (t : TS') : TS := fun D σ H => ∃ σ' H' D', SR K B σ' H' σ H ∧ t D' σ' H' ∧ DR K B D' D H' H
def lowG (t : TG') : TG := fun v σ H Q => ∃ v' σ' H' Q', RP K H v' v ∧ SR K B σ' H' σ H ∧ t v' σ' H' Q' ∧ ∀ σ1' H1' σ1 H1, Q' σ1' H1' → SR K B σ1' H1' σ1 H1 → Ev H' H H1' H1 → Q σ1 H1
def lowGs (t : TGs') : TGs := fun vs σ H Q => ∃ vs' σ' H' Q', RPs K H vs' vs ∧ SR K B σ' H' σ H ∧ t vs' σ' H' Q' ∧ ∀ σ1' H1' σ1 H1, Q' σ1' H1' → SR K B σ1' H1' σ1 H1 → Ev H' H H1' H1 → Q σ1 H1
structure Walks (H1 : Hp) (J : It) (J' : It') : Prop where
  go : ∀ H' H i, Kp H1 H → HR K H' H → J'.ok H' → i < J'.items.length → J.go i H
  yld : ∀ H' H i x H2, Kp H1 H → HR K H' H → J'.ok H' → J.yld i H x H2 → H2 = H ∧ ∀ x', J'.items[i]? = some x' → RP K H x' x
  stop : ∀ H' H i, Kp H1 H → HR K H' H → J'.ok H' → J'.items.length ≤ i → J.stop i H
def lowI (t : TI') : TI := fun σ H R => ∃ σ' H' R', SR K B σ' H' σ H ∧ t σ' H' R' ∧ ∀ J' H1' J H1, R' J' H1' → Walks K H1 J J' → SR K B σ' H1' σ H1 → Ev H' H H1' H1 → R J H1
end
section
variable {X : Cx}
theorem pe_imp {e : Expr} {t1 t2 : TE} (h : PE X e t2) (i : ∀ σ H Q, t1 σ H Q → t2 σ H Q) : PE X e t1 := fun pins s σ H Q I q => h pins s σ H Q I (i σ H Q q)
theorem pt_imp {e : Expr} {t1 t2 : TT} (h : PT X e t2) (i : ∀ σ H Q, t1 σ H Q → t2 σ H Q) : PT X e t1 := fun pins s σ H Q I q => h pins s σ H Q I (i σ H Q q)
theorem pw_imp {e : Expr} {t1 t2 : TT} (h : PW X e t2) (i : ∀ σ H Q, t1 σ H Q → t2 σ H Q) : PW X e t1 := fun w pins s σ H Q I q => h w pins s σ H Q I (i σ H Q q)
theorem pa_imp {e : List Expr} {t1 t2 : TA} (h : PA X e t2) (i : ∀ σ H Q, t1 σ H Q → t2 σ H Q) : PA X e t1 := fun p pins s σ H Q I q => h p pins s σ H Q I (i σ H Q q)
theorem ps_imp {e : Stmt} {t1 t2 : TS} (h : PS X e t2) (i : ∀ D σ H, t1 D σ H → t2 D σ H) : PS X e t1 := fun pins s σ H D I q => h pins s σ H D I (i D σ H q)
theorem pss_imp {e : List Stmt} {t1 t2 : TS} (h : PSs X e t2) (i : ∀ D σ H, t1 D σ H → t2 D σ H) : PSs X e t1 := fun pins s σ H D I q => h pins s σ H D I (i D σ H q)
theorem pg_imp {e : Expr} {t1 t2 : TG} (h : PG X e t2) (i : ∀ v σ H Q, t1 v σ H Q → t2 v σ H Q) : PG X e t1 := fun pins s σ H v u Q I r q => h pins s σ H v u Q I r (i v σ H Q q)
theorem pgs_imp {e : List Expr} {t1 t2 : TGs} (h : PGs X e t2) (i : ∀ v σ H Q, t1 v σ H Q → t2 v σ H Q) : PGs X e t1 := fun pins s σ H v u Q I r q => h pins s σ H v u Q I r (i v σ H Q q)
theorem pi_imp {tg e : Expr} {t1 t2 : TI} (h : PI X tg e t2) (i : ∀ σ H Q, t1 σ H Q → t2 σ H Q) : PI X tg e t1 := fun pins s σ H Q I q => h pins s σ H Q I (i σ H Q q)
abbrev PE' (X : Cx) (B : Bs) (e : Expr) (t : TE') : Prop := PE X e (low X.K B t)
abbrev PT' (X : Cx) (B : Bs) (e : Expr) (t : TT') : Prop := PT X e (lowT X.K B t)
abbrev PW' (X : Cx) (B : Bs) (e : Expr) (t : TT') : Prop := PW X e (lowT X.K B t)
abbrev PA' (X : Cx) (B : Bs) (e : List Expr) (t : TA') : Prop := PA X e (lowA X.K B t)
abbrev PS' (X : Cx) (B : Bs) (e : Stmt) (t : TS') : Prop := PS X e (lowS X.K B t)
abbrev PSs' (X : Cx) (B : Bs) (e : List Stmt) (t : TS') : Prop := PSs X e (lowS X.K B t)
abbrev PG' (X : Cx) (B : Bs) (e : Expr) (t : TG') : Prop := PG X e (lowG X.K B t)
abbrev PGs' (X : Cx) (B : Bs) (e : List Expr) (t : TGs') : Prop := PGs X e (lowGs X.K B t)
abbrev PI' (X : Cx) (B : Bs) (tg e : Expr) (t : TI') : Prop := PI X tg e (lowI X.K B t)
def withV (o : Option (Option PV)) (k : PV → Prop) : Prop := match o with
  | some (some v) => k v
  | _ => False
theorem withV.ex {o : Option (Option PV)} {k : PV → Prop} (h : withV o k) : ∃ v, o = some (some v) ∧ k v := by
  unfold withV at h; split at h
  · exact ⟨_, rfl, h⟩
  · exact h.elim
def uVar (i : Nat) : TE' := fun σ H Q => withV σ[i]? fun v => Q v H
def uC (v : PV) : TE' := fun _ H Q => Q v H
theorem qv (i : Nat) {x : Str} {pos : Pos} (hN : X.N[i]? = some x := by rfl) (hv : Vis X.env.scope x := by first | exact Or.inl rfl | exact Or.inr (Or.inl rfl) | exact Or.inr (Or.inr rfl)) (hd : (x == ("__debug__" : Str)) = false := by decide)
    (hcd : (x == ("__classdict__" : Str)) = false := by decide) : PE' X B (.Name x pos) (uVar i) := pe_imp (pv i hN hv hd hcd) fun σ H Q ⟨σ', H', Q', s, h, k⟩ => by
  obtain ⟨v', e, q⟩ := h.ex
  obtain ⟨v, a, b⟩ := s.loc i v' e
  exact ⟨v, a, k v' H' v H q b s (Ev.refl _ _)⟩
theorem lowC {K : PySem.W.Frag} {v' : PV} {v : V} (r : ∀ H, RP K H v' v) {σ : L2.St} {H : Hp} {Q : VK} (h : low K B (uC v') σ H Q) : tC v σ H Q := by
  obtain ⟨σ', H', Q', s, h, k⟩ := h
  exact k v' H' v H h (r H) s (Ev.refl _ _)
theorem qe_int {i j pos} : PE' X B (.Constant (.int i) j pos) (uC (.int i)) := pe_imp pe_int fun _ _ _ h => lowC (fun _ => by simp [RP]) h
theorem qe_bl {i j pos} : PE' X B (.Constant (.bool i) j pos) (uC (.bl i)) := pe_imp pe_bl fun _ _ _ h => lowC (fun _ => by simp [RP]) h
theorem qe_str {i j pos} : PE' X B (.Constant (.str i) j pos) (uC (.str i)) := pe_imp pe_str fun _ _ _ h => lowC (fun _ => by simp [RP]) h
theorem qe_non {j pos} : PE' X B (.Constant .none j pos) (uC .non) := pe_imp pe_non fun _ _ _ h => lowC (fun _ => by simp [RP]) h
theorem qe_glob {x : Str} {v' : PV} {v : V} {u : Value} {pos : Pos} (hg : Gl X x) (hm : X.mg x = some u) (r : RelV v u) (r' : ∀ H, RP X.K H v' v) (hd : (x == ("__debug__" : Str)) = false := by decide) : PE' X B (.Name x pos) (uC v') :=
  pe_imp (pe_glob hg hm r hd) fun _ _ _ h => lowC r' h
abbrev R2' := PV → PV → PHp → VK' → Prop
def VR (K : PySem.W.Frag) (B : Bs) (r' : R2') (r : R2) : Prop := ∀ (σ' : St') (σ : L2.St) (H' : PHp) (H : Hp) x' y' x y (Q' : VK') (Q : VK), SR K B σ' H' σ H → RP K H x' x → RP K H y' y → r' x' y' H' Q' →
  (∀ v' H1' v H1, Q' v' H1' → RP K H1 v' v → SR K B σ' H1' σ H1 → Ev H' H H1' H1 → Q v H1) → r x y H Q
def uOp (r : R2') (ta tb : TE') : TE' := fun σ H Q => ta σ H fun x H1 => tb σ H1 fun y H2 => r x y H2 Q
theorem low_op {K : PySem.W.Frag} {r' : R2'} {r : R2} {ta tb : TE'} (v : VR K B r' r) {σ : L2.St} {H : Hp} {Q : VK} (h : low K B (uOp r' ta tb) σ H Q) : tOp r (low K B ta) (low K B tb) σ H Q := by
  obtain ⟨σ', H', Q', s, h, k⟩ := h
  refine ⟨σ', H', _, s, h, fun x' H1' x H1 h1 rx s1 e1 => ⟨σ', H1', _, s1, h1, fun y' H2' y H2 h2 ry s2 e2 => ?_⟩⟩
  exact v σ' σ H2' H2 x' y' x y Q' Q s2 (RP.kp K (e2.kp s1.hp) rx) ry h2 fun v' H3' v H3 q rv s3 e3 => k v' H3' v H3 q rv s3 (e1.trans (e2.trans e3))
variable {a b c : Expr} {ta tb tc : TE'} {pos : Pos}
theorem qe_op {op : Operator} {r' : R2'} {r : R2} (ho : OpR X (binaryOp op) r) (v : VR X.K B r' r) (ha : PE' X B a ta) (hb : PE' X B b tb) : PE' X B (.BinOp a op b pos) (uOp r' ta tb) := pe_imp (pe_op ho ha hb) fun _ _ _ h => low_op v h
theorem qe_cmp {op : CmpOp} {r' : R2'} {r : R2} (ho : OpR X (compareOp op) r) (v : VR X.K B r' r) (ha : PE' X B a ta) (hb : PE' X B b tb) (hm : behindInMarks op b = false) : PE' X B (.Compare a [op] [b] pos) (uOp r' ta tb) :=
  pe_imp (pe_cmpR ho ha hb hm) fun _ _ _ h => low_op v h
def cif (b : Bool) (A B : Prop) : Prop := match b with
  | true => A
  | false => B
theorem cif_t {A B : Prop} : cif true A B = A := rfl
theorem cif_f {A B : Prop} : cif false A B = B := rfl
theorem cif_by {b : Bool} {A B : Prop} (h1 : b = true → A) (h2 : b = false → B) : cif b A B := by
  cases b
  · exact h2 rfl
  · exact h1 rfl
theorem cif_pos {b : Bool} {A B : Prop} (h : b = true) (h1 : A) : cif b A B := by subst h; exact h1
theorem cif_neg {b : Bool} {A B : Prop} (h : b = false) (h1 : B) : cif b A B := by subst h; exact h1
def withB (x : PV) (k : Bool → Prop) : Prop := match x with
  | .bl b => k b
  | _ => False
theorem withB.ex {x : PV} {k : Bool → Prop} (h : withB x k) : ∃ v, x = .bl v ∧ k v := by
  unfold withB at h; split at h
  · exact ⟨_, rfl, h⟩
  · exact h.elim
def withI (x : PV) (k : Int → Prop) : Prop := match x with
  | .int i => k i
  | _ => False
theorem withI.ex {x : PV} {k : Int → Prop} (h : withI x k) : ∃ v, x = .int v ∧ k v := by
  unfold withI at h; split at h
  · exact ⟨_, rfl, h⟩
  · exact h.elim
def uTest (t : TE') : TT' := fun σ H Q => t σ H fun x H1 => withB x fun b => Q b H1
theorem low_test {K : PySem.W.Frag} {t : TE'} {σ : L2.St} {H : Hp} {Q : Bool → Hp → Prop} (h : lowT K B (uTest t) σ H Q) : tTest (low K B t) σ H Q := by
  obtain ⟨σ', H', Q', s, h, k⟩ := h
  refine ⟨σ', H', _, s, h, fun x' H1' x H1 h1 rx s1 e1 => ?_⟩
  obtain ⟨b, rfl, q⟩ := h1.ex
  simp only [RP] at rx
  exact ⟨b, rx, k b H1' H1 q s1 e1⟩
theorem qt_val {e : Expr} {t : TE'} (h : PE' X B e t) (he : ∀ whole, isTrue e X.env whole = (do let v ← whole; standAt e.pos; holding [v] (truthy v)) := by intro _; rfl) : PT' X B e (uTest t) := pt_imp (pt_val h he) fun _ _ _ h => low_test h
theorem qt_cmp {op : CmpOp} {r' : R2'} {r : R2} (ho : OpR X (compareOp op) r) (v : VR X.K B r' r) (ha : PE' X B a ta) (hb : PE' X B b tb) (hm : behindInMarks op b = false) : PT' X B (.Compare a [op] [b] pos) (uTest (uOp r' ta tb)) :=
  pt_imp (pt_cmpR ho ha hb hm) fun _ _ _ h => by
    obtain ⟨σ', H', Q', s, h, k⟩ := low_test h
    exact low_op v ⟨σ', H', Q', s, h, k⟩
def uChain (r r' : R2') (ta tb tc : TE') : TE' := fun σ H Q => ta σ H fun x H1 => tb σ H1 fun y H2 => r x y H2 fun z H3 => withB z fun k => cif k (tc σ H3 fun w' H4 => r' y w' H4 Q) (Q (.bl false) H3)
def uI (C : Int → Int → Prop) (g : Int → Int → PV) : R2' := fun x y H Q => withI x fun i => withI y fun j => C i j ∧ Q (g i j) H
def uI0 (g : Int → Int → PV) : R2' := fun x y H Q => withI x fun i => withI y fun j => Q (g i j) H
theorem vr_I {K : PySem.W.Frag} {C : Int → Int → Prop} {g' : Int → Int → PV} {g : Int → Int → V} (r : ∀ i j H, RP K H (g' i j) (g i j)) : VR K B (uI C g') (rI C g) := by
  intro σ' σ H' H x' y' x y Q' Q s rx ry h k
  obtain ⟨i, rfl, h1⟩ := withI.ex h
  obtain ⟨j, rfl, hc, h⟩ := withI.ex h1
  simp only [RP] at rx ry
  exact ⟨i, j, rx, ry, hc, k _ H' _ H h (r i j H) s (Ev.refl _ _)⟩
theorem vr_I0 {K : PySem.W.Frag} {g' : Int → Int → PV} {g : Int → Int → V} (r : ∀ i j H, RP K H (g' i j) (g i j)) : VR K B (uI0 g') (rI0 g) := by
  intro σ' σ H' H x' y' x y Q' Q s rx ry h k
  obtain ⟨i, rfl, h1⟩ := withI.ex h
  obtain ⟨j, rfl, h⟩ := withI.ex h1
  simp only [RP] at rx ry
  exact ⟨i, j, rx, ry, k _ H' _ H h (r i j H) s (Ev.refl _ _)⟩
abbrev uAdd : R2' := uI0 fun i j => .int (i + j)
abbrev uLt : R2' := uI0 fun i j => .bl (decide (i < j))
abbrev uLe : R2' := uI0 fun i j => .bl (decide (i ≤ j))
abbrev uGt : R2' := uI0 fun i j => .bl (decide (j < i))
def Fit (i : Int) : Prop := i.natAbs.log2 < 9000
def CMulN (i j : Int) : Prop := CMul i j ∨ (Fit i ∧ Fit j)
def CDivB (i j : Int) : Prop := j ≠ 0 ∧ Fit j
theorem CMulN.ok {i j : Int} (h : CMulN i j) : IntMulOk i j := by
  rcases h with h | ⟨h1, h2⟩
  · exact h.ok
  · unfold IntMulOk
    have e : ∀ x : Int, Fit x → Builtin.Int.intBits x ≤ 9000 := fun x hx => by
      unfold Builtin.Int.intBits Fit at *
      split <;> omega
    have e1 := e i h1
    have e2 := e j h2
    have e3 : Builtin.Int.intTooBig (Builtin.Int.intBits i + Builtin.Int.intBits j) = false := by
      unfold Builtin.Int.intTooBig
      refine decide_eq_false ?_
      show ¬ (bitsLine : Int) < _
      have hb : (18000 : Nat) ≤ bitsLine := by decide +kernel
      omega
    rw [e3]
    simp
abbrev uMul : R2' := uI CMulN fun i j => .int (i * j)
abbrev uFdiv : R2' := uI CDivB fun i j => .int (i.fdiv j)
theorem op_mulB {X : Cx} : OpR X (binaryOp .Mult) (rI CMulN fun i j => .int (i * j)) := opI fun _ _ _ _ _ _ _ hc q => mul_int q hc.ok
theorem op_fdivB {X : Cx} : OpR X (binaryOp .FloorDiv) (rI CDivB fun i j => .int (i.fdiv j)) := opI fun _ _ _ _ _ _ _ hc q => floordiv_int hc.1 q (.inl (PyProof.noPylong_of_log2 hc.2))
abbrev uMod : R2' := uI (fun _ j => j ≠ 0) fun i j => .int (i.fmod j)
theorem qe_add (ha : PE' X B a ta) (hb : PE' X B b tb) : PE' X B (.BinOp a .Add b pos) (uOp uAdd ta tb) := qe_op op_add (vr_I0 fun _ _ _ => by simp [RP]) ha hb
theorem qe_mul (ha : PE' X B a ta) (hb : PE' X B b tb) : PE' X B (.BinOp a .Mult b pos) (uOp uMul ta tb) := qe_op op_mulB (vr_I fun _ _ _ => by simp [RP]) ha hb
theorem qe_fdiv (ha : PE' X B a ta) (hb : PE' X B b tb) : PE' X B (.BinOp a .FloorDiv b pos) (uOp uFdiv ta tb) := qe_op op_fdivB (vr_I fun _ _ _ => by simp [RP]) ha hb
theorem qe_mod (ha : PE' X B a ta) (hb : PE' X B b tb) : PE' X B (.BinOp a .Mod b pos) (uOp uMod ta tb) := qe_op op_modN (vr_I fun _ _ _ => by simp [RP]) ha hb
theorem vr_lt {K : PySem.W.Frag} : VR K B uLt (rI0 fun i j => .bl (decide (i < j))) := vr_I0 fun _ _ _ => by simp [RP]
theorem vr_le {K : PySem.W.Frag} : VR K B uLe (rI0 fun i j => .bl (decide (i ≤ j))) := vr_I0 fun _ _ _ => by simp [RP]
theorem vr_gt {K : PySem.W.Frag} : VR K B uGt (rI0 fun i j => .bl (decide (j < i))) := vr_I0 fun _ _ _ => by simp [RP]
end
end U


set_option linter.all false
set_option maxRecDepth 100000
set_option maxHeartbeats 4000000
namespace U
open PySem PySem.Spec PyProof.Rows L2
variable {B : Bs}
section
variable {X : Cx} {a b c e o : Expr} {es rest : List Expr} {ta tb tc : TE'} {tA tB : TT'} {t : TA'} {pos : Pos}
def uAnd (t u : TT') : TT' := fun σ H Q => t σ H fun c H1 => cif c (u σ H1 Q) (Q false H1)
def uOr (t u : TT') : TT' := fun σ H Q => t σ H fun c H1 => cif c (Q true H1) (u σ H1 Q)
def uNot (t : TT') : TT' := fun σ H Q => t σ H fun c H1 => Q (!c) H1
theorem qw_and1 (ha : PT' X B a tA) : PW' X B (.BoolOp .And [a] pos) tA := pw_and1 ha
theorem qw_or1 (ha : PT' X B a tA) : PW' X B (.BoolOp .Or [a] pos) tA := pw_or1 ha
theorem qw_and (ha : PT' X B a tA) (hb : PW' X B (.BoolOp .And (b :: rest) pos) tB) : PW' X B (.BoolOp .And (a :: b :: rest) pos) (uAnd tA tB) := pw_imp (pw_and ha hb) fun σ H Q ⟨σ', H', Q', s, h, k⟩ => by
  refine ⟨σ', H', _, s, h, fun x H1' H1 h1 s1 e1 => ?_⟩
  cases x with
  | true => exact iteT ⟨σ', H1', _, s1, h1, fun y H2' H2 h2 s2 e2 => k y H2' H2 h2 s2 (e1.trans e2)⟩
  | false => exact iteF (k false H1' H1 h1 s1 e1)
theorem qw_or (ha : PT' X B a tA) (hb : PW' X B (.BoolOp .Or (b :: rest) pos) tB) : PW' X B (.BoolOp .Or (a :: b :: rest) pos) (uOr tA tB) := pw_imp (pw_or ha hb) fun σ H Q ⟨σ', H', Q', s, h, k⟩ => by
  refine ⟨σ', H', _, s, h, fun x H1' H1 h1 s1 e1 => ?_⟩
  cases x with
  | false => exact iteF ⟨σ', H1', _, s1, h1, fun y H2' H2 h2 s2 e2 => k y H2' H2 h2 s2 (e1.trans e2)⟩
  | true => exact iteT (k true H1' H1 h1 s1 e1)
theorem qt_bool (h : PW' X B e tA) : PT' X B e tA := PW.pt h
theorem qt_not (ha : PT' X B a tA) : PT' X B (.UnaryOp .Not a pos) (uNot tA) := pt_imp (pt_not ha) fun σ H Q ⟨σ', H', Q', s, h, k⟩ => ⟨σ', H', _, s, h, fun x H1' H1 h1 s1 e1 => k _ H1' H1 h1 s1 e1⟩
def uAndV (ta tb : TE') : TE' := fun σ H Q => ta σ H fun x H1 => withB x fun c => cif c (tb σ H1 Q) (Q (.bl false) H1)
def uOrV (ta tb : TE') : TE' := fun σ H Q => ta σ H fun x H1 => withB x fun c => cif c (Q (.bl true) H1) (tb σ H1 Q)
def uNotV (ta : TE') : TE' := fun σ H Q => ta σ H fun x H1 => withB x fun c => Q (.bl (!c)) H1
theorem qe_one {op} (h : PE' X B a ta) : PE' X B (.BoolOp op [a] pos) ta := pe_one h
theorem qe_and (ha : PE' X B a ta) (hb : PE' X B (.BoolOp .And (b :: rest) pos) tb) : PE' X B (.BoolOp .And (a :: b :: rest) pos) (uAndV ta tb) := pe_imp (pe_and ha hb) fun σ H Q ⟨σ', H', Q', s, h, k⟩ => by
  refine ⟨σ', H', _, s, h, fun x H1' v H1 h1 r1 s1 e1 => ?_⟩
  obtain ⟨y, rfl, h1⟩ := h1.ex
  simp only [RP] at r1
  refine ⟨y, r1, ?_⟩
  cases y with
  | true => exact iteT ⟨σ', H1', _, s1, h1, fun y H2' v2 H2 h2 r2 s2 e2 => k y H2' v2 H2 h2 r2 s2 (e1.trans e2)⟩
  | false => exact iteF (k _ H1' _ H1 h1 (by simp [RP]) s1 e1)
theorem qe_not (ha : PE' X B a ta) : PE' X B (.UnaryOp .Not a pos) (uNotV ta) := pe_imp (pe_not ha) fun σ H Q ⟨σ', H', Q', s, h, k⟩ => by
  refine ⟨σ', H', _, s, h, fun x H1' v H1 h1 r1 s1 e1 => ?_⟩
  obtain ⟨y, rfl, h1⟩ := h1.ex
  simp only [RP] at r1
  exact ⟨y, r1, k _ H1' _ H1 h1 (by simp [RP]) s1 e1⟩
def uIf (t : TT') (ta tb : TE') : TE' := fun σ H Q => t σ H fun c H1 => cif c (ta σ H1 Q) (tb σ H1 Q)
def uUn (r : PV → PHp → VK' → Prop) (ta : TE') : TE' := fun σ H Q => ta σ H fun x H1 => r x H1 Q
theorem qe_neg (ha : PE' X B a ta) : PE' X B (.UnaryOp .USub a pos) (uUn (fun x H Q => withI x fun i => Q (.int (-i)) H) ta) := pe_imp (pe_un un_neg ha) fun σ H Q ⟨σ', H', Q', s, h, k⟩ => by
  refine ⟨σ', H', _, s, h, fun x H1' v H1 h1 r1 s1 e1 => ?_⟩
  obtain ⟨i, rfl, h1⟩ := withI.ex h1
  simp only [RP] at r1
  exact ⟨i, r1, k _ H1' _ H1 h1 (by simp [RP]) s1 e1⟩
def uNil : TA' := fun _ H Q => Q [] H
def uCons (ta : TE') (tr : TA') : TA' := fun σ H Q => ta σ H fun x H1 => tr σ H1 fun xs H2 => Q (x :: xs) H2
theorem qa_nil : PA' X B [] uNil := pa_imp pa_nil fun σ H Q ⟨σ', H', Q', s, h, k⟩ => k [] H' [] H h (RPs.nil _) s (Ev.refl _ _)
theorem qa_cons (ha : PE' X B e ta) (hr : PA' X B es t) (hs : starEach (e :: es) X.env = (false, eval e X.env) :: starEach es X.env := by rfl) : PA' X B (e :: es) (uCons ta t) := pa_imp (pa_cons ha hr hs) fun σ H Q ⟨σ', H', Q', s, h, k⟩ => by
  refine ⟨σ', H', _, s, h, fun x H1' v H1 h1 r1 s1 e1 => ⟨σ', H1', _, s1, h1, fun xs H2' vs H2 h2 r2 s2 e2 => ?_⟩⟩
  exact k _ H2' _ H2 h2 (RPs.cons _ (RP.kp _ (e2.kp s1.hp) r1) r2) s2 (e1.trans e2)
def uTup (t : TA') : TE' := fun σ H Q => t σ H fun xs H1 => xs.length ≤ sizeLine ∧ Q (.tup xs) H1
def uLst (t : TA') : TE' := fun σ H Q => t σ H fun xs H1 => xs.length ≤ sizeLine ∧ ∀ p, H1 p = none → Q (.ref p) (put H1 p (.lst xs))
theorem SR.hid {K : PySem.W.Frag} {σ' : St'} {σ : L2.St} {H' : PHp} {H : Hp} {p : Addr} {o : HO} (s : SR K B σ' H' σ H) (n : H p = none) : SR K B σ' H' σ (upd H p o) := s.kp (Ev.hid n) (s.hp.hid n)
theorem SR.new {K : PySem.W.Frag} {σ' : St'} {σ : L2.St} {H' : PHp} {H : Hp} {p : Addr} {o : HO} {o' : PO} (s : SR K B σ' H' σ H) (n : H p = none) (w : OAt K (upd H p o) p o') : SR K B σ' (put H' p o') σ (upd H p o) := s.kp (Ev.new n) (s.hp.new n w)
theorem SR.wr {K : PySem.W.Frag} {σ' : St'} {σ : L2.St} {H' : PHp} {H : Hp} {p : Addr} {o : HO} {o' u' : PO} (s : SR K B σ' H' σ H) (n : H' p = some u') (w : OAt K (upd H p o) p o') : SR K B σ' (put H' p o') σ (upd H p o) := s.kp (Ev.wr n) (s.hp.wr n w)
theorem newT {K : PySem.W.Frag} {H : Hp} {p : Addr} {xs : List PV} {us : List V} (n : H p = none) (r : RPs K H xs us) : RP K (upd H p (.tup us)) (.tup xs) (.ref p) := by
  simp only [RP]
  exact ⟨p, us, rfl, SqT.of upd_same, RPs.kp K (kp_fresh n) r⟩
theorem newL {K : PySem.W.Frag} {H : Hp} {p : Addr} {xs : List PV} {us : List V} (n : H p = none) (r : RPs K H xs us) : OAt K (upd H p (.lst us)) p (.lst xs) := ⟨us, upd_same, RPs.kp K (kp_fresh n) r⟩
theorem wrL {K : PySem.W.Frag} {H' : PHp} {H : Hp} {p : Addr} {u' : PO} {xs : List PV} {us : List V} (h : HR K H' H) (n : H' p = some u') (r : RPs K H xs us) : OAt K (upd H p (.lst us)) p (.lst xs) := ⟨us, upd_same, RPs.kp K (h.kpw n) r⟩
theorem qe_tup {x1} (h : PA' X B es t) : PE' X B (.Tuple es x1 pos) (uTup t) := pe_imp (pe_tup h) fun σ H Q ⟨σ', H', Q', s, h, k⟩ => by
  refine ⟨σ', H', _, s, h, fun xs H1' us H1 h1 r1 s1 e1 => ⟨by rw [RPs.length _ r1]; exact h1.1, fun p n => ?_⟩⟩
  exact k _ H1' _ _ h1.2 (newT n r1) (s1.hid n) (e1.trans (Ev.hid n))
theorem qe_lst (h : PA' X B es t) : PE' X B (.List es pos) (uLst t) := pe_imp (pe_lst h) fun σ H Q ⟨σ', H', Q', s, h, k⟩ => by
  refine ⟨σ', H', _, s, h, fun xs H1' us H1 h1 r1 s1 e1 => ⟨by rw [RPs.length _ r1]; exact h1.1, fun p n => ?_⟩⟩
  exact k _ _ _ _ (h1.2 p (s1.hp.free n)) (by simp [RP]) (s1.new n (newL n r1)) (e1.trans (Ev.new n))
def withS (x : PV) (H : PHp) (k : List PV → Prop) : Prop := match x with
  | .tup l => k l
  | .fls l => k l
  | .ref a => ∃ l, H a = some (.lst l) ∧ k l
  | _ => False
theorem withS.ex {K : PySem.W.Frag} {σ' : St'} {σ : L2.St} {x : PV} {v : V} {H' : PHp} {H : Hp} {k : List PV → Prop} (h : withS x H' k) (s : SR K B σ' H' σ H) (r : RP K H x v) : ∃ l us p, v = .ref p ∧ RPs K H l us ∧ (SqL K H p us ∨ SqT K H p us) ∧ k l := by
  unfold withS at h
  split at h
  · simp only [RP] at r; obtain ⟨a, us, e, q, r⟩ := r; exact ⟨_, us, a, e, r, .inr q, h⟩
  · simp only [RP] at r; obtain ⟨a, us, e, q, r⟩ := r; exact ⟨_, us, a, e, r, .inl q.sq, h⟩
  · simp only [RP] at r
    obtain ⟨l, e, h⟩ := h
    obtain ⟨us, q, r2⟩ := s.hp _ _ e
    exact ⟨l, us, _, r, r2, .inl (SqL.of q), h⟩
  · exact h.elim
theorem atI_ps {K : PySem.W.Frag} {H : Hp} {l : List PV} {us : List V} {i : Int} {x : PV} (r : RPs K H l us) (e : atI l i = some x) : ∃ u, atI us i = some u ∧ RP K H x u := by
  unfold atI at e ⊢
  rw [RPs.length _ r]
  cases q : ixN l.length i with
  | none => rw [q] at e; cases e
  | some j =>
    rw [q] at e
    obtain ⟨u, e1, e2⟩ := RPs.get _ r (show l[j]? = some x from e)
    exact ⟨u, e1, e2⟩
def withO (o : Option PV) (k : PV → Prop) : Prop := match o with
  | some v => k v
  | none => False
theorem withO.ex {o : Option PV} {k : PV → Prop} (h : withO o k) : ∃ v, o = some v ∧ k v := by
  unfold withO at h; split at h
  · exact ⟨_, rfl, h⟩
  · exact h.elim
def uIx : R2' := fun x y H Q => withS x H fun l => withI y fun i => withO (atI l i) fun v => Q v H
theorem ix_both {X : Cx} : IxR X (fun x y H Q => rIxL X.K x y H Q ∨ rIxT X.K x y H Q) := ix_list.or ix_tup
theorem vr_ix {K : PySem.W.Frag} : VR K B uIx (fun x y H Q => rIxL K x y H Q ∨ rIxT K x y H Q) := by
  intro σ' σ H' H x' y' x y Q' Q s rx ry h k
  obtain ⟨l, us, p, rfl, r, q, h1⟩ := withS.ex h s rx
  obtain ⟨i, rfl, h2⟩ := withI.ex h1
  obtain ⟨v, e, h3⟩ := withO.ex h2
  simp only [RP] at ry
  obtain ⟨u, e1, e2⟩ := atI_ps r e
  have := k v H' u H h3 e2 s (Ev.refl _ _)
  rcases q with q | q
  · exact .inl ⟨p, us, i, u, rfl, ry, q, e1, this⟩
  · exact .inr ⟨p, us, i, u, rfl, ry, q, e1, this⟩
theorem qe_ix (ha : PE' X B a ta) (hb : PE' X B b tb) (hs : PlainIx b) : PE' X B (.Subscript a b pos) (uOp uIx ta tb) := pe_imp (pe_ix ix_both ha hb hs) fun _ _ _ h => low_op vr_ix h
abbrev TO' := St' → PHp → (Option Int → PHp → Prop) → Prop
def lowO (K : PySem.W.Frag) (B : Bs) (t : TO') : TO := fun σ H Q => ∃ σ' H' Q', SR K B σ' H' σ H ∧ t σ' H' Q' ∧ ∀ b H1' H1, Q' b H1' → SR K B σ' H1' σ H1 → Ev H' H H1' H1 → Q b H1
abbrev PO' (X : Cx) (B : Bs) (e : Option Expr) (t : TO') : Prop := L2.PO X e (lowO X.K B t)
theorem po_imp {e : Option Expr} {t1 t2 : TO} (h : L2.PO X e t2) (i : ∀ σ H Q, t1 σ H Q → t2 σ H Q) : L2.PO X e t1 := fun pins s σ H Q I q => h pins s σ H Q I (i σ H Q q)
def uNoPart : TO' := fun _ H Q => Q none H
def uPart (t : TE') : TO' := fun σ H Q => t σ H fun x H1 => withI x fun i => Q (some i) H1
theorem qo_none : PO' X B none uNoPart := po_imp po_none fun σ H Q ⟨σ', H', Q', s, h, k⟩ => k none H' H h s (Ev.refl _ _)
theorem qo_some (h : PE' X B e ta) : PO' X B (some e) (uPart ta) := po_imp (po_some h) fun σ H Q ⟨σ', H', Q', s, h, k⟩ => by
  refine ⟨σ', H', _, s, h, fun x H1' v H1 h1 r1 s1 e1 => ?_⟩
  obtain ⟨i, rfl, h1⟩ := withI.ex h1
  simp only [RP] at r1
  exact ⟨i, r1, k _ H1' H1 h1 s1 e1⟩
def cutP (xs : List PV) (lo hi : Option Int) : List PV := (xs.drop (HT.sIx xs.length 0 lo)).take (HT.sIx xs.length xs.length hi - HT.sIx xs.length 0 lo)
theorem cut_ps {K : PySem.W.Frag} {H : Hp} {l : List PV} {us : List V} {lo hi : Option Int} (r : RPs K H l us) : RPs K H (cutP l lo hi) (cutV us lo hi) := by
  unfold cutP cutV
  rw [RPs.length _ r]
  exact RPs.take _ _ (RPs.drop _ _ r)
def sliceOf (x : PV) (lo hi : Option Int) (H3 : PHp) (Q : VK') : Prop := match x with
  | .fls l => ∀ p, H3 p = none → Q (.ref p) (put H3 p (.lst (cutP l lo hi)))
  | .ref a => ∃ l, H3 a = some (.lst l) ∧ ∀ p, H3 p = none → Q (.ref p) (put H3 p (.lst (cutP l lo hi)))
  | .tup l => ¬ (HT.sIx l.length 0 lo = 0 ∧ HT.sIx l.length l.length hi = l.length) ∧ Q (.tup (cutP l lo hi)) H3
  | _ => False
def uSlice (ta : TE') (tl th : TO') : TE' := fun σ H Q => ta σ H fun x H1 => tl σ H1 fun lo H2 => th σ H2 fun hi H3 => sliceOf x lo hi H3 Q
theorem qe_slice {lo hi : Option Expr} {tl th : TO'} {p2 : Pos} (he : PE' X B e ta) (hl : PO' X B lo tl) (hu : PO' X B hi th) : PE' X B (.Subscript e (.Slice lo hi none p2) pos) (uSlice ta tl th) :=
  pe_imp (pe_slice (sl_list.or sl_tup) he hl hu) fun σ H Q ⟨σ', H', Q', s, h, k⟩ => by
  refine ⟨σ', H', _, s, h, fun x H1' v H1 h1 r1 s1 e1 => ⟨σ', H1', _, s1, h1, fun l H2' H2 h2 s2 e2 => ⟨σ', H2', _, s2, h2, fun u H3' H3 h3 s3 e3 => ?_⟩⟩⟩
  have r3 := RP.kp _ (e3.kp s2.hp) (RP.kp _ (e2.kp s1.hp) r1)
  have e123 := e1.trans (e2.trans e3)
  cases x with
  | fls xs =>
    simp only [RP] at r3
    obtain ⟨a, us, e, q, r⟩ := r3
    refine .inl ⟨a, us, e, q.sq, fun p n => ?_⟩
    exact k _ _ _ _ (h3 p (s3.hp.free n)) (by simp [RP]) (s3.new n (newL n (cut_ps r))) (e123.trans (Ev.new n))
  | ref a =>
    simp only [RP] at r3
    obtain ⟨xs, q, h3⟩ := h3
    obtain ⟨us, q2, r⟩ := s3.hp _ _ q
    refine .inl ⟨a, us, r3, SqL.of q2, fun p n => ?_⟩
    exact k _ _ _ _ (h3 p (s3.hp.free n)) (by simp [RP]) (s3.new n (newL n (cut_ps r))) (e123.trans (Ev.new n))
  | tup xs =>
    simp only [RP] at r3
    obtain ⟨a, us, e, q, r⟩ := r3
    refine .inr ⟨a, us, e, q, by rw [RPs.length _ r]; exact h3.1, fun p n => ?_⟩
    exact k _ _ _ _ h3.2 (newT n (cut_ps r)) (s3.hid n) (e123.trans (Ev.hid n))
  | _ => exact h3.elim
def VC (K : PySem.W.Frag) (B : Bs) (r' : List PV → PHp → VK' → Prop) (r : List V → Hp → VK → Prop) : Prop := ∀ (σ' : St') (σ : L2.St) (H' : PHp) (H : Hp) xs' xs (Q' : VK') (Q : VK), SR K B σ' H' σ H → RPs K H xs' xs → r' xs' H' Q' →
  (∀ v' H1' v H1, Q' v' H1' → RP K H1 v' v → SR K B σ' H1' σ H1 → Ev H' H H1' H1 → Q v H1) → r xs H Q
def uCB (r : List PV → PHp → VK' → Prop) (t : TA') : TE' := fun σ H Q => t σ H fun vs H1 => r vs H1 Q
theorem low_cb {K : PySem.W.Frag} {r' : List PV → PHp → VK' → Prop} {r : List V → Hp → VK → Prop} {t : TA'} (v : VC K B r' r) {σ : L2.St} {H : Hp} {Q : VK} (h : low K B (uCB r' t) σ H Q) : tCB r (lowA K B t) σ H Q := by
  obtain ⟨σ', H', Q', s, h, k⟩ := h
  exact ⟨σ', H', _, s, h, fun xs' H1' xs H1 h1 rx s1 e1 => v σ' σ H1' H1 xs' xs Q' Q s1 rx h1 fun v' H3' v H3 q rv s3 e3 => k v' H3' v H3 q rv s3 (e1.trans e3)⟩
variable {x : Str} {p : Pos}
theorem qe_callB {id : String} {r' : List PV → PHp → VK' → Prop} {r : List V → Hp → VK → Prop} (hc : CallR X (.builtin id) r) (v : VC X.K B r' r) (hg : Gl X x) (hm : X.mg x = none) (hv : bootBuiltins x = some (.builtin id)) (ha : PA' X B (e :: es) t)
    (hn : x ≠ "__name__" := by decide) (hdb : (x == ("__debug__" : Str)) = false := by decide) (he : starEach (e :: es) X.env = (false, eval e X.env) :: starEach es X.env := by rfl) (hpl : (backTo pos (starEach es X.env)).any (·.1) = false := by rfl) :
    PE' X B (.Call (.Name x p) (e :: es) [] pos) (uCB r' t) := pe_imp (pe_callB hc hg hm hv ha hn hdb he hpl) fun _ _ _ h => low_cb v h
theorem qe_callTy {id : String} {r' : List PV → PHp → VK' → Prop} {r : List V → Hp → VK → Prop} (hc : CallR X (.type id) r) (v : VC X.K B r' r) (hg : Gl X x) (hm : X.mg x = none) (hv : bootBuiltins x = some (.type id)) (ha : PA' X B (e :: es) t)
    (hn : x ≠ "__name__" := by decide) (hdb : (x == ("__debug__" : Str)) = false := by decide) (he : starEach (e :: es) X.env = (false, eval e X.env) :: starEach es X.env := by rfl) (hpl : (backTo pos (starEach es X.env)).any (·.1) = false := by rfl) :
    PE' X B (.Call (.Name x p) (e :: es) [] pos) (uCB r' t) := pe_imp (pe_callTy hc hg hm hv ha hn hdb he hpl) fun _ _ _ h => low_cb v h
def arg1 (f : PV → PHp → VK' → Prop) : List PV → PHp → VK' → Prop := fun xs H Q => match xs with
  | [x] => f x H Q
  | _ => False
theorem arg1.ex {K : PySem.W.Frag} {H : Hp} {f : PV → PHp → VK' → Prop} {xs' : List PV} {xs : List V} {H' : PHp} {Q' : VK'} (h : arg1 f xs' H' Q') (r : RPs K H xs' xs) : ∃ x' x, xs' = [x'] ∧ xs = [x] ∧ RP K H x' x ∧ f x' H' Q' := by
  unfold arg1 at h
  split at h
  · simp only [RPs] at r
    obtain ⟨u, r, rfl, q, rfl⟩ := r
    exact ⟨_, u, rfl, rfl, q, h⟩
  · exact h.elim
def uLen : List PV → PHp → VK' → Prop := arg1 fun x H Q => withS x H fun l => Q (.int l.length) H
theorem vc_len {K : PySem.W.Frag} : VC K B uLen (fun xs H Q => ∃ p ys, xs = [.ref p] ∧ (SqL K H p ys ∨ SqT K H p ys) ∧ Q (.int ys.length) H) := by
  intro σ' σ H' H xs' xs Q' Q s r h k
  obtain ⟨x', x, rfl, rfl, rx, h⟩ := arg1.ex h r
  obtain ⟨l, us, p, rfl, r, q, h⟩ := withS.ex h s rx
  exact ⟨p, us, rfl, q, k _ H' _ H h (by simp [RP, RPs.length _ r]) s (Ev.refl _ _)⟩
def uAbs : List PV → PHp → VK' → Prop := arg1 fun x H Q => withI x fun i => Q (.int (if i < 0 then -i else i)) H
def b2n (b : Bool) : Int := if b then 1 else 0
def intOf (x : PV) (k : Int → Prop) : Prop := match x with
  | .int i => k i
  | .bl b => k (b2n b)
  | _ => False
def uInt : List PV → PHp → VK' → Prop := arg1 fun x H Q => intOf x fun i => Q (.int i) H
def uList : List PV → PHp → VK' → Prop := arg1 fun x H Q => withS x H fun l => ∀ p, H p = none → Q (.ref p) (put H p (.lst l))
theorem vc_list {K : PySem.W.Frag} : VC K B uList (fun xs H Q => ∃ p ys, xs = [.ref p] ∧ (SqL K H p ys ∨ SqT K H p ys) ∧ ∀ l, H l = none → Q (.ref l) (upd H l (.lst ys))) := by
  intro σ' σ H' H xs' xs Q' Q s r h k
  obtain ⟨x', x, rfl, rfl, rx, h⟩ := arg1.ex h r
  obtain ⟨l, us, p, rfl, r, q, h⟩ := withS.ex h s rx
  exact ⟨p, us, rfl, q, fun p n => k _ _ _ _ (h p (s.hp.free n)) (by simp [RP]) (s.new n (newL n r)) (Ev.new n)⟩
def uTuple : List PV → PHp → VK' → Prop := arg1 fun x H Q => withS x H fun l => Q (.tup l) H
theorem vc_tuple {K : PySem.W.Frag} : VC K B uTuple (fun xs H Q => ∃ p ys, xs = [.ref p] ∧ ((SqL K H p ys ∧ ∀ l, H l = none → Q (.ref l) (upd H l (.tup ys))) ∨ (SqT K H p ys ∧ Q (.ref p) H))) := by
  intro σ' σ H' H xs' xs Q' Q s r h k
  obtain ⟨x', x, rfl, rfl, rx, h⟩ := arg1.ex h r
  obtain ⟨l, us, p, rfl, r, q, h⟩ := withS.ex h s rx
  refine ⟨p, us, rfl, ?_⟩
  rcases q with q | q
  · exact .inl ⟨q, fun p n => k _ _ _ _ h (newT n r) (s.hid n) (Ev.hid n)⟩
  · exact .inr ⟨q, k _ _ _ _ h (by simp only [RP]; exact ⟨p, us, rfl, q, r⟩) s (Ev.refl _ _)⟩
end
end U


set_option linter.all false
set_option maxRecDepth 100000
set_option maxHeartbeats 4000000
namespace U
open PySem PySem.Spec PyProof.Rows L2
variable {B : Bs}
section
variable {X : Cx} {a b c e o : Expr} {es : List Expr} {ta tb te : TE'} {tA tB : TT'} {st : Stmt} {sts : List Stmt} {t u : TS'} {pos : Pos}
def uNext : TS' := fun D σ H => D.nx σ H
def uSeq (t u : TS') : TS' := fun D σ H => t { D with nx := u D } σ H
theorem qss_nil : PSs' X B [] uNext := pss_imp pss_nil fun D σ H ⟨σ', H', D', s, h, d⟩ => d.nx _ _ _ _ h s (Ev.refl _ _)
theorem qss_cons (h1 : PS' X B st t) (h2 : PSs' X B sts u) : PSs' X B (st :: sts) (uSeq t u) := pss_imp (pss_cons h1 h2) fun D σ H ⟨σ', H', D', s, h, d⟩ =>
  ⟨σ', H', _, s, h, fun σ1' H1' σ1 H1 h1 s1 e1 => ⟨σ1', H1', D', s1, h1, d.ev _ _ e1⟩, d.rt, d.bk, d.ct⟩
theorem qss_one (h1 : PS' X B st t) : PSs' X B [st] t := pss_one h1
def uBreak : TS' := fun D σ H => D.bk σ H
def uCont : TS' := fun D σ H => D.ct σ H
def uDrop (te : TE') : TS' := fun D σ H => te σ H fun _ H1 => D.nx σ H1
theorem qs_expr (he : PE' X B e te) (hs : swapsWith e none pos.line X.env = pure false := by rfl) : PS' X B (.Expr e pos) (uDrop te) := ps_imp (ps_expr he hs) fun D σ H ⟨σ', H', D', s, h, d⟩ =>
  ⟨σ', H', _, s, h, fun v' H1' v H1 h1 r1 s1 e1 => d.nx _ _ _ _ h1 s1 e1⟩
def uRet (te : TE') : TS' := fun D σ H => te σ H D.rt
theorem qs_ret (he : PE' X B e te) : PS' X B (.Return (some e) pos) (uRet te) := ps_imp (ps_ret he) fun D σ H ⟨σ', H', D', s, h, d⟩ =>
  ⟨σ', H', _, s, h, fun v' H1' v H1 h1 r1 s1 e1 => d.rt _ _ _ _ h1 r1 s1.hp e1⟩
def uRetN : TS' := fun D _ H => D.rt .non H
def uIfS (c : TT') (t u : TS') : TS' := fun D σ H => c σ H fun b H1 => cif b (t D σ H1) (u D σ H1)
theorem qs_if {l1 l2 : List Stmt} (hc : PT' X B c tA) (ha : PSs' X B l1 t) (hb : PSs' X B l2 u) : PS' X B (.If c l1 l2 pos) (uIfS tA t u) := ps_imp (ps_if hc ha hb) fun D σ H ⟨σ', H', D', s, h, d⟩ => by
  refine ⟨σ', H', _, s, h, fun x H1' H1 h1 s1 e1 => ?_⟩
  cases x with
  | true => exact iteT ⟨σ', H1', D', s1, h1, d.ev _ _ e1⟩
  | false => exact iteF ⟨σ', H1', D', s1, h1, d.ev _ _ e1⟩
def uNever : TS' := fun _ _ _ => False
theorem qss_never : PSs' X B sts uNever := fun _ _ _ _ _ _ ⟨_, _, _, _, h, _⟩ => h.elim
def vName (i : Nat) : TG' := fun v σ H Q => Q (σ.set i (some v)) H
theorem SR.set {K : PySem.W.Frag} {σ' : St'} {H' : PHp} {σ : L2.St} {H : Hp} {v' : PV} {v : V} (s : SR K B σ' H' σ H) (r : RP K H v' v) (i : Nat) : SR K B (σ'.set i (some v')) H' (σ.set i (some v)) H := by
  refine ⟨by simp [s.len], fun j w e => ?_, s.hp, s.ev⟩
  by_cases hj : i = j
  · subst hj
    have hl : i < σ'.length := by
      rcases Nat.lt_or_ge i σ'.length with h | h
      · exact h
      · rw [List.getElem?_eq_none (by simpa using h)] at e; cases e
    rw [List.getElem?_set_self hl] at e
    cases e
    exact ⟨v, List.getElem?_set_self (by rw [← s.len]; exact hl), r⟩
  · rw [List.getElem?_set_ne hj] at e ⊢
    exact s.loc j w e
theorem qg_name {i : Nat} {x : Str} (hN : X.N.Nodup) (hi : X.N[i]? = some x) (hx : Loc X.env.scope x) (hf : X.fn x = true ∨ X.env.scope.names.lookup x = some .local := by first | exact .inl rfl | exact .inr rfl | assumption) : PG' X B (.Name x pos) (vName i) :=
  pg_imp (pg_name hN hi hx hf) fun v σ H Q ⟨v', σ', H', Q', r, s, h, k⟩ => k _ _ _ _ h (s.set r i) (Ev.refl _ _)
def vNil : TGs' := fun vs σ H Q => vs = [] ∧ Q σ H
def vCons (t : TG') (u : TGs') : TGs' := fun vs σ H Q => match vs with
  | v :: r => t v σ H fun σ' H' => u r σ' H' Q
  | [] => False
theorem qgs_nil : PGs' X B [] vNil := pgs_imp pgs_nil fun vs σ H Q ⟨v', σ', H', Q', r, s, h, k⟩ => by
  obtain ⟨rfl, h⟩ := h
  simp only [RPs] at r
  exact ⟨r, k _ _ _ _ h s (Ev.refl _ _)⟩
theorem qgs_cons {t : TG'} {u : TGs'} (h1 : PG' X B e t) (h2 : PGs' X B es u) (hs : (assignEach (e :: es) X.env).map (·.2) = assign e X.env :: (assignEach es X.env).map (·.2) := by rfl) : PGs' X B (e :: es) (vCons t u) :=
  pgs_imp (pgs_cons h1 h2 hs) fun vs σ H Q ⟨vs', σ', H', Q', r, s, h, k⟩ => by
  cases vs' with
  | nil => exact h.elim
  | cons v' r' =>
    simp only [RPs] at r
    obtain ⟨v, w, rfl, rv, rw'⟩ := r
    refine ⟨v, w, rfl, v', σ', H', _, rv, s, h, fun σ1' H1' σ1 H1 h1 s1 e1 => ⟨r', σ1', H1', Q', RPs.kp _ (e1.kp s.hp) rw', s1, h1, fun σ2' H2' σ2 H2 h2 s2 e2 => k _ _ _ _ h2 s2 (e1.trans e2)⟩⟩
def vTup (n : Nat) (t : TGs') : TG' := fun v σ H Q => match v with
  | .tup l => l.length = n ∧ t l σ H Q
  | _ => False
theorem qg_tup {k : Nat} {t : TGs'} {n : Nat} (hc : X.calm = true) (h : PGs' X B es t) (hn : (assignEach es X.env).length = n := by rfl) (hst : (assignEach es X.env).findIdx? (·.1) = none := by rfl) : PG' X B (.Tuple es k pos) (vTup n t) :=
  pg_imp (pg_tup hc h hn hst) fun v σ H Q ⟨v', σ', H', Q', r, s, h, k⟩ => by
  cases v' with
  | tup l =>
    obtain ⟨hl, h⟩ := h
    simp only [RP] at r
    obtain ⟨a, us, rfl, q, r⟩ := r
    exact ⟨a, us, rfl, q, by rw [RPs.length _ r]; exact hl, l, σ', H', Q', r, s, h, k⟩
  | _ => exact h.elim
def uAsg (te : TE') (g : TG') : TS' := fun D σ H => te σ H fun x H1 => g x σ H1 D.nx
theorem low_asg {K : PySem.W.Frag} {te : TE'} {g : TG'} {D : Ends} {σ : L2.St} {H : Hp} (h : lowS K B (uAsg te g) D σ H) : tAsg (low K B te) (lowG K B g) D σ H := by
  obtain ⟨σ', H', D', s, h, d⟩ := h
  exact ⟨σ', H', _, s, h, fun x H1' v H1 h1 r1 s1 e1 => ⟨x, σ', H1', _, r1, s1, h1, fun σ2' H2' σ2 H2 h2 s2 e2 => d.nx _ _ _ _ h2 s2 (e1.trans e2)⟩⟩
theorem qs_asg {tg : Expr} {g : TG'} (he : PE' X B e te) (hg : PG' X B tg g) (hs : swapsWithSole [tg] e pos.line X.env = pure false := by rfl) (hw : swappedStores [tg] e X.env = pure none := by rfl)
    (h1 : (assignEach [tg] X.env).map (·.2) = [assign tg X.env] := by rfl) : PS' X B (.Assign [tg] e pos) (uAsg te g) := ps_imp (ps_asg he hg hs hw h1) fun _ _ _ h => low_asg h
theorem qs_set {i : Nat} {x : Str} {pos' : Pos} (hN : X.N.Nodup) (hi : X.N[i]? = some x) (hx : Loc X.env.scope x) (he : PE' X B e te) (hs : swapsWith e (some (.Name x pos')) pos.line X.env = pure false := by rfl) (hf : X.fn x = true ∨ X.env.scope.names.lookup x = some .local := by first | exact .inl rfl | exact .inr rfl | assumption) :
    PS' X B (.Assign [.Name x pos'] e pos) (uAsg te (vName i)) := ps_imp (ps_set hN hi hx he hs hf) fun D σ H h => by
  obtain ⟨σ', H', D', s, h, d⟩ := h
  exact ⟨σ', H', _, s, h, fun x H1' v H1 h1 r1 s1 e1 => d.nx _ _ _ _ h1 (s1.set r1 i) e1⟩
def uForL (ok : PHp → Prop) (g : TG') (tb : TS') (D : Ends') : List PV → St' → PHp → Prop
  | [], σ, H => ok H ∧ D.nx σ H
  | x :: r, σ, H => ok H ∧ g x σ H fun σ2 H2 => tb { D with nx := uForL ok g tb D r, ct := uForL ok g tb D r, bk := D.nx } σ2 H2
def uFor (wi : TI') (g : TG') (tb : TS') : TS' := fun D σ H => wi σ H fun J H1 => uForL J.ok g tb D J.items σ H1
theorem qs_for {iter tg : Expr} {body : List Stmt} {wi : TI'} {g : TG'} (hp : PassesOwn (model X.prog X.w) X.A X.env X.xe) (hc : X.calm = true) (hi : PI' X B tg iter wi) (hg : PG' X B tg g) (hb : PSs' X B body t)
    (hs : ∀ x, foldedSetIterable iter X.env x = pure x := by intro _; rfl) : PS' X B (.For tg iter body [] pos) (uFor wi g t) := ps_imp (ps_for hp hc hi hg hb hs) fun D σ H ⟨σ', H', D', s, h, d⟩ => by
  refine ⟨σ', H', _, s, h, fun J' H1' J H1 h1 wk s1 e1 => ?_⟩
  refine ⟨fun i m σ2 H2 => i ≤ J'.items.length ∧ m = J'.items.length - i ∧ ∃ σ2' H2', SR X.K B σ2' H2' σ2 H2 ∧ Ev H1' H1 H2' H2 ∧ uForL J'.ok g t D' (J'.items.drop i) σ2' H2', ⟨J'.items.length, Nat.zero_le _, by simp, σ', H1', s1, Ev.refl _ _, h1⟩, ?_⟩
  rintro i m σ2 H2 ⟨hi, rfl, σ2', H2', s2, e2, h2⟩
  have k2 := e2.kp s1.hp
  by_cases hlt : i < J'.items.length
  · obtain ⟨x', hx⟩ : ∃ x', J'.items[i]? = some x' := ⟨_, List.getElem?_eq_getElem hlt⟩
    have hd : J'.items.drop i = x' :: J'.items.drop (i + 1) := by
      rw [List.drop_eq_getElem_cons hlt]
      rw [List.getElem?_eq_getElem hlt] at hx
      cases hx; rfl
    rw [hd] at h2
    obtain ⟨ok2, h2⟩ := (show J'.ok H2' ∧ _ from h2)
    refine .inr ⟨wk.go H2' H2 i k2 s2.hp ok2 hlt, fun σ3 H3 => ∃ σ3' H3', SR X.K B σ3' H3' σ3 H3 ∧ Ev H1' H1 H3' H3 ∧ uForL J'.ok g t D' (J'.items.drop (i + 1)) σ3' H3', ?_, fun x H3 y => ?_⟩
    · rintro σ3 H3 ⟨σ3', H3', s3, e3, h3⟩
      exact ⟨J'.items.length - (i + 1), by omega, hlt, rfl, σ3', H3', s3, e3, h3⟩
    · obtain ⟨rfl, rx⟩ := wk.yld H2' H2 i x H3 k2 s2.hp ok2 y
      refine ⟨x', σ2', H2', _, rx x' hx, s2, h2, fun σ3' H3' σ3 H3 h3 s3 e3 => ⟨σ3', H3', _, s3, h3, ?_, ?_, ?_, ?_⟩⟩
      · intro σ4' H4' σ4 H4 h4 s4 e4
        exact ⟨σ4', H4', s4, e2.trans (e3.trans e4), h4⟩
      · intro v' H4' v H4 h4 r4 s4 e4
        exact d.rt _ _ _ _ h4 r4 s4 (e1.trans (e2.trans (e3.trans e4)))
      · intro σ4' H4' σ4 H4 h4 s4 e4
        exact d.nx _ _ _ _ h4 s4 (e1.trans (e2.trans (e3.trans e4)))
      · intro σ4' H4' σ4 H4 h4 s4 e4
        exact ⟨σ4', H4', s4, e2.trans (e3.trans e4), h4⟩
  · have hi' : i = J'.items.length := by omega
    subst hi'
    rw [List.drop_length] at h2
    obtain ⟨ok2, h2⟩ := (show J'.ok H2' ∧ _ from h2)
    exact .inl ⟨wk.stop H2' H2 _ k2 s2.hp ok2 (Nat.le_refl _), d.nx _ _ _ _ h2 s2 (e1.trans e2)⟩
def itOf (x : PV) (H1 : PHp) (R : It' → PHp → Prop) : Prop := match x with
  | .tup l => R ⟨l, fun _ => True⟩ H1
  | .fls l => R ⟨l, fun _ => True⟩ H1
  | .ref a => ∃ l, H1 a = some (.lst l) ∧ R ⟨l, fun H => H a = some (.lst l)⟩ H1
  | _ => False
def uSeqI (ta : TE') : TI' := fun σ H R => ta σ H fun x H1 => itOf x H1 R
def iSeq (K : PySem.W.Frag) (tl : TE) : TI := fun σ H R => tl σ H fun x H1 => ∃ a, x = .ref a ∧ ((∃ xs, SqL K H1 a xs) ∧ R (Itl K a) H1 ∨ (∃ xs, SqT K H1 a xs) ∧ R (Itt K a) H1)
theorem pi_seq {tg l : Expr} {tl : TE} (hl : PE X l tl) : PI X tg l (iSeq X.K tl) := by
  intro pins s σ H R I h
  refine thn (hl pins s σ H _ I h) fun v s1 ⟨x, H1, I1, r1, q1⟩ => ?_
  obtain ⟨a, e, ⟨⟨xs, hq⟩, q⟩ | ⟨⟨xs, hq⟩, q⟩⟩ := q1
  · subst e
    cases r1
    obtain ⟨its, rv, p, hz⟩ := I1.list hq
    refine wpAny_pyIter_list p.isList ?_
    refine ⟨s1.heap.objs.size, [s1.heap.objs.size], _, _, H1, rfl, I1.kept (t' := s1.toks) fun b o e => Heap.get?_push_of_some _ e, turn_list a _, ⟨_, Heap.get?_push_size _ rfl, rfl, rfl⟩, fun b hb => ?_, q⟩
    have e : b = s1.heap.objs.size := by simpa using hb
    subst e
    exact I1.fpOk (Nat.le_refl _) (I1.hok.fresh (Nat.le_refl _))
  · subst e
    cases r1
    obtain ⟨its, rv, p, hz⟩ := I1.tuple hq
    refine wpAny_pyIter_tuple (show s1.heap.IsTuple a its.toArray from p) ?_
    refine ⟨s1.heap.objs.size, [s1.heap.objs.size], _, _, H1, rfl, I1.kept (t' := s1.toks) fun b o e => Heap.get?_push_of_some _ e, turn_tuple a _, ⟨_, Heap.get?_push_size _ rfl, rfl, rfl⟩, fun b hb => ?_, q⟩
    have e : b = s1.heap.objs.size := by simpa using hb
    subst e
    exact I1.fpOk (Nat.le_refl _) (I1.hok.fresh (Nat.le_refl _))
theorem walks_list {K : PySem.W.Frag} {H1 : Hp} {J' : It'} {a : Addr} (h : ∀ H' H, Kp H1 H → HR K H' H → J'.ok H' → ∃ us, SqL K H a us ∧ RPs K H J'.items us) : Walks K H1 (Itl K a) J' where
  go := fun H' H i k s o hi => by
    obtain ⟨us, q, r⟩ := h H' H k s o
    obtain ⟨u, e, _⟩ := RPs.get _ r (List.getElem?_eq_getElem hi)
    exact ⟨us, u, q, e⟩
  yld := fun H' H i x H2 k s o y => by
    obtain ⟨us, q, r⟩ := h H' H k s o
    refine ⟨y.1, fun x' hx => ?_⟩
    obtain ⟨u, e, ru⟩ := RPs.get _ r hx
    have := y.2 us q
    rw [e] at this; cases this; exact ru
  stop := fun H' H i k s o hi => by
    obtain ⟨us, q, r⟩ := h H' H k s o
    exact ⟨us, q, by rw [RPs.length _ r]; exact hi⟩
theorem walks_tup {K : PySem.W.Frag} {H1 : Hp} {J' : It'} {a : Addr} (h : ∀ H' H, Kp H1 H → HR K H' H → J'.ok H' → ∃ us, SqT K H a us ∧ RPs K H J'.items us) : Walks K H1 (Itt K a) J' where
  go := fun H' H i k s o hi => by
    obtain ⟨us, q, r⟩ := h H' H k s o
    obtain ⟨u, e, _⟩ := RPs.get _ r (List.getElem?_eq_getElem hi)
    exact ⟨us, u, q, e⟩
  yld := fun H' H i x H2 k s o y => by
    obtain ⟨us, q, r⟩ := h H' H k s o
    refine ⟨y.1, fun x' hx => ?_⟩
    obtain ⟨u, e, ru⟩ := RPs.get _ r hx
    have := y.2 us q
    rw [e] at this; cases this; exact ru
  stop := fun H' H i k s o hi => by
    obtain ⟨us, q, r⟩ := h H' H k s o
    exact ⟨us, q, by rw [RPs.length _ r]; exact hi⟩
theorem qi_seq {tg : Expr} (ha : PE' X B a ta) : PI' X B tg a (uSeqI ta) := pi_imp (pi_seq ha) fun σ H R ⟨σ', H', R', s, h, k⟩ => by
  refine ⟨σ', H', _, s, h, fun x' H1' x H1 h1 r1 s1 e1 => ?_⟩
  cases x' with
  | tup l =>
    simp only [RP] at r1
    obtain ⟨p, us, rfl, q, r⟩ := r1
    exact ⟨p, rfl, .inr ⟨⟨us, q⟩, k _ H1' _ H1 h1 (walks_tup fun _ H2 k2 _ _ => ⟨us, k2.sqT q, RPs.kp _ k2 r⟩) s1 e1⟩⟩
  | fls l =>
    simp only [RP] at r1
    obtain ⟨p, us, rfl, q, r⟩ := r1
    exact ⟨p, rfl, .inl ⟨⟨us, q.sq⟩, k _ H1' _ H1 h1 (walks_list fun _ H2 k2 _ _ => ⟨us, (k2.fzL q).sq, RPs.kp _ k2 r⟩) s1 e1⟩⟩
  | ref p =>
    simp only [RP] at r1
    obtain ⟨l, q, h1⟩ := h1
    obtain ⟨us, q2, r⟩ := s1.hp _ _ q
    refine ⟨p, r1, .inl ⟨⟨us, SqL.of q2⟩, k _ H1' _ H1 h1 (walks_list fun H2' H2 k2 s2 o2 => ?_) s1 e1⟩⟩
    obtain ⟨us2, q3, r3⟩ := s2 _ _ o2
    exact ⟨us2, SqL.of q3, r3⟩
  | _ => exact h1.elim
def rngL (lo : Int) (n : Nat) : List PV := (List.range n).map fun k => PV.int (lo + (k : Nat))
theorem walks_rng {K : PySem.W.Frag} {H1 : Hp} {lo : Int} {n : Nat} : Walks K H1 (Itr lo n) ⟨rngL lo n, fun _ => True⟩ where
  go := fun H' H i k s o hi => by
    have h : i < n := by simpa [rngL] using hi
    exact h
  yld := fun H' H i x H2 k s o y => by
    obtain ⟨e, rfl⟩ := y
    refine ⟨e, fun x' hx => ?_⟩
    simp only [rngL, List.getElem?_map] at hx
    cases q : (List.range n)[i]? with
    | none => rw [q] at hx; cases hx
    | some j =>
      rw [q] at hx
      obtain ⟨h1, h2⟩ := List.getElem?_eq_some_iff.mp q
      rw [List.getElem_range] at h2
      subst h2
      cases hx
      simp [RP]
  stop := fun H' H i k s o hi => by
    have h : n ≤ i := by simpa [rngL] using hi
    exact h
def rng1 (vs : List PV) (H1 : PHp) (R : It' → PHp → Prop) : Prop := match vs with
  | [.int j] => (-(2 ^ 62) ≤ j ∧ j < 2 ^ 62) ∧ R ⟨rngL 0 j.toNat, fun _ => True⟩ H1
  | _ => False
def uRng1 (t : TA') : TI' := fun σ H R => t σ H fun vs H1 => rng1 vs H1 R
def rng2 (vs : List PV) (H1 : PHp) (R : It' → PHp → Prop) : Prop := match vs with
  | [.int i, .int j] => (-(2 ^ 62) ≤ i ∧ i < 2 ^ 62 ∧ -(2 ^ 62) ≤ j ∧ j < 2 ^ 62) ∧ R ⟨rngL i (j - i).toNat, fun _ => True⟩ H1
  | _ => False
def uRng2 (t : TA') : TI' := fun σ H R => t σ H fun vs H1 => rng2 vs H1 R
theorem qi_range1 {tg : Expr} {t : TA'} {p : Pos} (hg : Gl X "range") (hm : X.mg "range" = none) (ha : PA' X B [a] t) (hs : starEach [a] X.env = [(false, eval a X.env)] := by rfl) : PI' X B tg (.Call (.Name "range" p) [a] [] pos) (uRng1 t) :=
  pi_imp (pi_range1 hg hm ha hs) fun σ H R ⟨σ', H', R', s, h, k⟩ => by
  refine ⟨σ', H', _, s, h, fun vs' H1' vs H1 h1 r1 s1 e1 => ?_⟩
  unfold rng1 at h1
  split at h1
  · rename_i j
    simp only [RPs, RP] at r1
    obtain ⟨u, r, rfl, rfl, rfl⟩ := r1
    exact ⟨j, rfl, h1.1.1, h1.1.2, k _ H1' _ H1 h1.2 walks_rng s1 e1⟩
  · exact h1.elim
end
end U


set_option linter.all false
set_option maxRecDepth 100000
set_option maxHeartbeats 4000000
namespace U
open PySem PySem.Spec PyProof.Rows L2
variable {B : Bs}
abbrev Sp' := List PV → PHp → VK' → XK' → Prop
def lowSp (K : PySem.W.Frag) (sp : Sp') : Sp := fun vs H Q E => ∃ vs' H' Q' E', RPs K H vs' vs ∧ HR K H' H ∧ sp vs' H' Q' E' ∧ (∀ v' H1' v H1, Q' v' H1' → RP K H1 v' v → HR K H1' H1 → Ev H' H H1' H1 → Q v H1) ∧
  (∀ c d H1' H1, E' c d H1' → HR K H1' H1 → Ev H' H H1' H1 → E c d H1)
abbrev FnOk' (P : Program) (w : World) (K : PySem.W.Frag) (mg : Str → Option Value) (base : Heap) (CX : CXT) (k : Nat) (f : Addr) (fd : FuncData) (ps : List Str) (sp : Sp') : Prop := FnOk P w K mg base CX k f fd ps (lowSp K sp)
def start' (N : List Str) (vs : List PV) : St' := vs.map some ++ List.replicate (N.length - vs.length) none
theorem sr_start {K : PySem.W.Frag} {N : List Str} {vs' : List PV} {vs : List V} {H' : PHp} {H : Hp} (r : RPs K H vs' vs) (h : HR K H' H) : SR K (H', H) (start' N vs') H' (L2.start N vs) H := by
  have hl := RPs.length _ r
  refine ⟨by simp [start', L2.start, hl], fun i v' e => ?_, h, Ev.refl _ _⟩
  unfold start' at e
  unfold L2.start
  by_cases hi : i < vs'.length
  · rw [List.getElem?_append_left (by simpa using hi)] at e
    rw [List.getElem?_append_left (by simpa [hl] using hi)]
    rw [List.getElem?_map] at e ⊢
    cases q : vs'[i]? with
    | none => rw [q] at e; cases e
    | some w =>
      rw [q] at e
      cases e
      obtain ⟨u, e1, e2⟩ := RPs.get _ r q
      exact ⟨u, by rw [e1]; rfl, e2⟩
  · rw [List.getElem?_append_right (by simpa using hi)] at e
    rw [List.getElem?_replicate] at e
    split at e <;> cases e
def ends (Q : VK') : Ends' where
  nx := fun _ H => ∃ H3, Sub H3 H ∧ Q .non H3
  rt := fun v H => ∃ H3, Sub H3 H ∧ Q v H3
section
variable {P : Program} {w : World} {K : PySem.W.Frag} {mg : Str → Option Value} {base : Heap}
theorem okU {x qual : Str} {st : Stmt} {f : Addr} {fd : FuncData} {N ps : List Str} {k : Nat} {sp : Sp'} (F : Fun K x qual st f fd) (S : FnScope N ps (defScope st)) (len : ∀ vs H Q E, sp vs H Q E → vs.length = ps.length)
    (hbody : ∀ (cdv : Value) (A : Around) (outer : List Env) (s : Shared) (H : Hp) (E : XK) (B : Bs), Room k (A.deeper (envOfC qual (defScope st) s.heap.objs.size f cdv)) →
      ∃ t, PSs' (cxOf CX0 P w K mg base N qual (defScope st) f cdv A outer s H E).nox B (defBody st) t ∧ ∀ vs' H' Q' E', sp vs' H' Q' E' → t (ends Q') (start' N vs') H') : FnOk' P w K mg base CX0 (k + 1) f fd ps sp := by
  refine F.ok S (fun vs H Q E zz => ?_) (fun cdv A outer s H vs Q E hr h => ?_)
  · obtain ⟨vs', H', Q', E', r, hr, h, _⟩ := zz
    rw [RPs.length _ r]; exact len _ _ _ _ h
  · obtain ⟨vs', H', Q', E', r, hh, h, k1, k2⟩ := h
    obtain ⟨t, ht, hq⟩ := hbody cdv A outer s H E (H', H) hr
    refine ⟨_, ht, start' N vs', H', _, sr_start r hh, hq vs' H' Q' E' h, ?_, ?_, ?_, ?_⟩
    · rintro σ1' H1' σ1 H1 ⟨H3, sb, q⟩ s1 e1
      exact k1 _ H3 _ H1 q (by simp [RP]) (s1.hp.sub sb) (e1.sub sb)
    · rintro v' H1' v H1 ⟨H3, sb, q⟩ r1 s1 e1
      exact k1 _ H3 _ H1 q r1 (s1.sub sb) (e1.sub sb)
    · intro _ _ _ _ z; exact z.elim
    · intro _ _ _ _ z; exact z.elim
end
section
variable {X : Cx} {CX : CXT} {k : Nat} {f C : Addr} {fd : FuncData} {ps : List Str} {sp : Sp'} {E : XK} {E' : XK'} {x m : Str} {p pos apos : Pos} {e o : Expr} {es : List Expr} {ta : TE'} {t : TA'}
def uCall (sp : Sp') (E' : XK') (t : TA') : TE' := fun σ H Q => t σ H fun vs H1 => sp vs H1 Q E'
abbrev X0 : XK' := fun _ _ _ => False
theorem low_call0 {K : PySem.W.Frag} {σ : L2.St} {H : Hp} {Q : VK} (h : low K B (uCall sp X0 t) σ H Q) : tCall (lowSp K sp) [] E0 (lowA K B t) σ H Q := by
  obtain ⟨σ', H', Q', s, h, k⟩ := h
  refine ⟨σ', H', _, s, h, fun vs' H1' vs H1 h1 r1 s1 e1 => ?_⟩
  show lowSp K sp (vs ++ []) H1 Q E0
  rw [List.append_nil]
  exact ⟨vs', H1', Q', X0, r1, s1.hp, h1, fun v' H2' v H2 q r2 h2 e2 => k v' H2' v H2 q r2 (s1.kp e2 h2) (e1.trans e2), fun _ _ _ _ z => z.elim⟩
theorem qe_call (F : FnOk' X.prog X.w X.K X.mg X.base CX0 k f fd ps sp) (hr : Room k X.A) (hg : Gl X x) (hm : X.mg x = some (.ref f)) (hk : PySem.W.keepIn X.K (.ref f) = true) (hb : Binds X.K fd ps [])
    (ha : PA' X B (e :: es) t) (hdb : (x == ("__debug__" : Str)) = false := by decide) (he : starEach (e :: es) X.env = (false, eval e X.env) :: starEach es X.env := by rfl) (hpl : (backTo pos (starEach es X.env)).any (·.1) = false := by rfl) :
    PE' X B (.Call (.Name x p) (e :: es) [] pos) (uCall sp X0 t) := pe_imp (pe_call F hr hg hm hk hb .nil pass0 ha hdb he hpl) fun _ _ _ h => low_call0 h
theorem fz_of {K : PySem.W.Frag} {H : Hp} {a : Addr} {xs : List V} (o : Only H) (h : SqL K H a xs) : FzL K H a xs := by
  rcases h with (h | h) | h
  · rcases o a with z | ⟨ob, ys, z⟩
    · rw [z] at h; cases h
    · rw [z] at h; cases h
  · exact .inl h
  · exact .inr h
def spL : Sp' := fun vs H Q _ => match vs with
  | [.fls l] => ∃ ns : List Int, l = ns.map PV.int ∧ ns.length ≤ 63 ∧ Q (.bl true) H
  | _ => False
theorem spL_start {K : PySem.W.Frag} {H : Hp} {a : Addr} {ns : List Int} (hl : ns.length ≤ 63) (o : Only H) (h : SqL K H a (ns.map V.int)) : lowSp K spL [.ref a] H (fun v _ => v = .bl true) fun _ _ _ => False := by
  refine ⟨[.fls (ns.map PV.int)], fun _ => none, fun v _ => v = .bl true, X0, ?_, fun _ _ z => (nomatch z), ⟨ns, rfl, hl, rfl⟩, fun v' _ v _ q r _ _ => ?_, fun _ _ _ _ z => z.elim⟩
  · refine RPs.cons _ ?_ (RPs.nil _)
    simp only [RP]
    exact ⟨a, _, rfl, fz_of o h, RPs.ints _ _⟩
  · subst q
    simpa [RP] using r
end
end U


set_option linter.all false
set_option maxRecDepth 100000
set_option maxHeartbeats 4000000
namespace U
open PySem PySem.Spec PyProof.Rows L2
variable {B : Bs}
mutual
def deq : PV → PV → Bool
  | .non, .non => true
  | .bl a, .bl b => a == b
  | .int a, .int b => a == b
  | .bl a, .int b => (if a then 1 else 0) == b
  | .int a, .bl b => a == (if b then 1 else 0)
  | .str a, .str b => a == b
  | .tup l, .tup m => deqs l m
  | .fls l, .fls m => deqs l m
  | _, _ => false
def deqs : List PV → List PV → Bool
  | [], [] => true
  | x :: l, y :: m => deq x y && deqs l m
  | _, _ => false
end
def flat : Nat → PV → Bool
  | _, .non => true
  | _, .bl _ => true
  | _, .int _ => true
  | _, .str _ => true
  | n + 1, .tup l => l.all (flat n)
  | n + 1, .fls l => l.all (flat n)
  | _, _ => false
theorem deqs_range : ∀ (l m : List PV), deqs l m = ((List.range (min l.length m.length)).all (fun i => deq (l.getD i .non) (m.getD i .non)) && l.length == m.length)
  | [], [] => by simp [deqs]
  | [], _ :: _ => by simp [deqs]
  | _ :: _, [] => by simp [deqs]
  | x :: l, y :: m => by
    simp only [deqs, deqs_range l m, List.length_cons]
    rw [show min (l.length + 1) (m.length + 1) = min l.length m.length + 1 by omega, List.range_succ_eq_map, List.all_cons, List.all_map]
    simp only [List.getD_cons_zero, Bool.and_assoc]
    congr 1
    congr 1
    simp
theorem deqs_refl {n : Nat} : ∀ (l : List PV), (∀ x ∈ l, deq x x = true) → deqs l l = true
  | [], _ => rfl
  | x :: l, h => by
    have h1 := h x (by simp)
    have h2 := deqs_refl (n := n) l fun y hy => h y (by simp [hy])
    simp only [deqs, h1, h2, Bool.and_self]
theorem deq_refl : ∀ {n : Nat} {x : PV}, flat n x = true → deq x x = true
  | _, .non, _ => by simp [deq]
  | _, .bl _, _ => by simp [deq]
  | _, .int _, _ => by simp [deq]
  | _, .str _, _ => by simp [deq]
  | n + 1, .tup l, h => by
    simp only [flat, List.all_eq_true] at h
    simp only [deq]
    exact deqs_refl (n := 0) l fun x hx => deq_refl (h x hx)
  | n + 1, .fls l, h => by
    simp only [flat, List.all_eq_true] at h
    simp only [deq]
    exact deqs_refl (n := 0) l fun x hx => deq_refl (h x hx)
  | 0, .tup _, h => by cases h
  | 0, .fls _, h => by cases h
  | n, .ref _, h => by cases n <;> cases h
  | n, .oth _, h => by cases n <;> cases h
section
variable {X : Cx} {pins : List (Addr × Obj)} {σ : L2.St} {H : Hp} {s : Shared}
def RR (K : PySem.W.Frag) (H : Hp) (x : PV) (u : Value) : Prop := ∃ v, RP K H x v ∧ RelV v u
def RL (K : PySem.W.Frag) (H : Hp) (l : List PV) (us : List Value) : Prop := ∃ vs, RPs K H l vs ∧ Vals vs us
def RD (K : PySem.W.Frag) (H : Hp) (x : PV) (u : Value) : Prop := match x with
  | .fls l => ∃ a vs, u = .ref a ∧ SqL K H a vs ∧ RPs K H l vs
  | x => RR K H x u
theorem RL.get {K : PySem.W.Frag} {l : List PV} {us : List Value} (r : RL K H l us) {i : Nat} {u : Value} (e : us[i]? = some u) : ∃ x, l[i]? = some x ∧ RR K H x u := by
  obtain ⟨vs, r1, r2⟩ := r
  have hl := r2.length
  have hl2 := RPs.length _ r1
  have hi : i < l.length := by
    have := (List.getElem?_eq_some_iff.mp e).1
    omega
  obtain ⟨v, e1, e2⟩ := RPs.get _ r1 (List.getElem?_eq_getElem hi)
  obtain ⟨w, e3, e4⟩ := r2.get e1
  rw [e] at e3; cases e3
  exact ⟨_, List.getElem?_eq_getElem hi, v, e2, e4⟩
theorem RL.length {K : PySem.W.Frag} {l : List PV} {us : List Value} (r : RL K H l us) : us.length = l.length := by
  obtain ⟨vs, r1, r2⟩ := r
  rw [← r2.length, RPs.length _ r1]
theorem RR.rd {K : PySem.W.Frag} {x : PV} {u : Value} (r : RR K H x u) : RD K H x u := by
  cases x with
  | fls l =>
    obtain ⟨v, r1, r2⟩ := r
    simp only [RP] at r1
    obtain ⟨a, us, rfl, q, rr⟩ := r1
    cases r2
    exact ⟨a, us, rfl, q.sq, rr⟩
  | _ => exact r
theorem rd_tup (I : Inv X pins σ H s) {l : List PV} {u : Value} (r : RD X.K H (.tup l) u) : ∃ a its, u = .ref a ∧ RL X.K H l its ∧ s.heap.IsTuple a its.toArray := by
  obtain ⟨v, r1, r2⟩ := r
  simp only [RP] at r1
  obtain ⟨a, us, rfl, q, rr⟩ := r1
  cases r2
  obtain ⟨its, rv, p, _⟩ := I.tuple q
  exact ⟨a, its, rfl, ⟨us, rr, rv⟩, p⟩
theorem rd_lst (I : Inv X pins σ H s) {l : List PV} {u : Value} (r : RD X.K H (.fls l) u) : ∃ a its, u = .ref a ∧ RL X.K H l its ∧ s.heap.IsList a its.toArray := by
  obtain ⟨a, us, rfl, q, rr⟩ := r
  obtain ⟨its, rv, p, _⟩ := I.list q
  exact ⟨a, its, rfl, ⟨us, rr, rv⟩, p.isList⟩
theorem isTuple_inj {a : Addr} {x y : Array Value} (h1 : s.heap.IsTuple a x) (h2 : s.heap.IsTuple a y) : x = y := by
  obtain ⟨o, e, c, n, d⟩ := h1
  obtain ⟨o', e', c', n', d'⟩ := h2
  rw [e] at e'; cases e'; rw [d] at d'; cases d'; rfl
theorem isList_inj {a : Addr} {x y : Array Value} (h1 : s.heap.IsList a x) (h2 : s.heap.IsList a y) : x = y := by
  obtain ⟨o, e, c, n, d⟩ := h1
  obtain ⟨o', e', c', n', d'⟩ := h2
  rw [e] at e'; cases e'; rw [d] at d'; cases d'; rfl
theorem not_both {a : Addr} {x y : Array Value} (h1 : s.heap.IsTuple a x) (h2 : s.heap.IsList a y) : False := by
  obtain ⟨o, e, c, n, d⟩ := h1
  obtain ⟨o', e', c', n', d'⟩ := h2
  rw [e] at e'; cases e'; rw [c] at c'; exact absurd c' (by decide)
theorem RL.list_inj {K : PySem.W.Frag} {n : Nat} (ih : ∀ {x y : PV} {u : Value}, flat n x = true → flat n y = true → RD K H x u → RD K H y u → x = y) {l m : List PV} {us : List Value} (h1 : l.all (flat n) = true) (h2 : m.all (flat n) = true)
    (r1 : RL K H l us) (r2 : RL K H m us) : l = m := by
  rw [List.all_eq_true] at h1 h2
  refine List.ext_getElem? fun i => ?_
  cases e : us[i]? with
  | none =>
    have := List.getElem?_eq_none_iff.mp e
    rw [List.getElem?_eq_none (by rw [← r1.length]; exact this), List.getElem?_eq_none (by rw [← r2.length]; exact this)]
  | some u =>
    obtain ⟨x, ex, rx⟩ := r1.get e
    obtain ⟨y, ey, ry⟩ := r2.get e
    rw [ex, ey, ih (h1 x (List.mem_of_getElem? ex)) (h2 y (List.mem_of_getElem? ey)) rx.rd ry.rd]
theorem rd_inj (I : Inv X pins σ H s) : ∀ (n : Nat) {x y : PV} {u : Value}, flat n x = true → flat n y = true → RD X.K H x u → RD X.K H y u → x = y := by
  have sc : ∀ {x : PV} {u : Value}, RD X.K H x u → (∀ l, x ≠ .fls l) → RR X.K H x u := fun {x u} r h => by
    cases x with
    | fls l => exact absurd rfl (h l)
    | _ => exact r
  intro n
  induction n with
  | zero =>
    intro x y u hx hy rx ry
    cases x <;> first | (cases hx; done) | skip
    all_goals cases y <;> first | (cases hy; done) | skip
    all_goals
      obtain ⟨v, r1, r2⟩ := sc rx (by intro l z; cases z)
      obtain ⟨v', r1', r2'⟩ := sc ry (by intro l z; cases z)
      simp only [RP] at r1 r1'
      subst r1; subst r1'
      have := RelV.inj r2 r2'
      first | rfl | (cases this; done) | (cases this; rfl)
  | succ n ih =>
    intro x y u hx hy rx ry
    cases x with
    | tup l =>
      obtain ⟨a, its, rfl, rl, p⟩ := rd_tup I rx
      cases y with
      | tup m =>
        obtain ⟨b, its', e, rl', p'⟩ := rd_tup I ry
        cases e
        have := isTuple_inj p p'
        have e2 : its = its' := by simpa using this
        subst e2
        rw [RL.list_inj (n := n) ih hx hy rl rl']
      | fls m =>
        obtain ⟨b, its', e, rl', p'⟩ := rd_lst I ry
        cases e
        exact (not_both p p').elim
      | ref a => cases hy
      | oth a => cases hy
      | _ =>
        obtain ⟨v', r1', r2'⟩ := sc ry (by intro l z; cases z)
        simp only [RP] at r1'
        subst r1'
        simp [L2.RelV] at r2'
    | fls l =>
      obtain ⟨a, its, rfl, rl, p⟩ := rd_lst I rx
      cases y with
      | tup m =>
        obtain ⟨b, its', e, rl', p'⟩ := rd_tup I ry
        cases e
        exact (not_both p' p).elim
      | fls m =>
        obtain ⟨b, its', e, rl', p'⟩ := rd_lst I ry
        cases e
        have := isList_inj p p'
        have e2 : its = its' := by simpa using this
        subst e2
        rw [RL.list_inj (n := n) ih hx hy rl rl']
      | ref a => cases hy
      | oth a => cases hy
      | _ =>
        obtain ⟨v', r1', r2'⟩ := sc ry (by intro l z; cases z)
        simp only [RP] at r1'
        subst r1'
        simp [L2.RelV] at r2'
    | ref a => cases hx
    | oth a => cases hx
    | _ =>
      cases y with
      | tup m =>
        obtain ⟨b, its', e, rl', p'⟩ := rd_tup I ry
        subst e
        obtain ⟨v', r1', r2'⟩ := sc rx (by intro l z; cases z)
        simp only [RP] at r1'
        subst r1'
        simp [L2.RelV] at r2'
      | fls m =>
        obtain ⟨b, its', e, rl', p'⟩ := rd_lst I ry
        subst e
        obtain ⟨v', r1', r2'⟩ := sc rx (by intro l z; cases z)
        simp only [RP] at r1'
        subst r1'
        simp [L2.RelV] at r2'
      | ref a => cases hy
      | oth a => cases hy
      | _ =>
        obtain ⟨v, r1, r2⟩ := sc rx (by intro l z; cases z)
        obtain ⟨v', r1', r2'⟩ := sc ry (by intro l z; cases z)
        simp only [RP] at r1 r1'
        subst r1; subst r1'
        have := RelV.inj r2 r2'
        first | rfl | (cases this; done) | (cases this; rfl)

open SeqAt in
theorem eq_core (I : Inv X pins σ H s) : ∀ (n : Nat) {A : Around} {x y : PV} {u w : Value}, A.units + n < cLine → flat n x = true → flat n y = true → RD X.K H x u → RD X.K H y w → EqAt A s u w (deq x y) ∧ RcAt A s u w (deq x y) := by
  have sc : ∀ {x : PV} {u : Value}, RD X.K H x u → (∀ l, x ≠ .fls l) → RR X.K H x u := fun {x u} r h => by
    cases x with
    | fls l => exact absurd rfl (h l)
    | _ => exact r
  have v_non : ∀ {u : Value}, RD X.K H .non u → u = .none := fun {u} r => by
    obtain ⟨v, r1, r2⟩ := sc r (by intro l z; cases z); simp only [RP] at r1; subst r1; exact r2
  have v_bl : ∀ {b : Bool} {u : Value}, RD X.K H (.bl b) u → u = .bool b := fun {b u} r => by
    obtain ⟨v, r1, r2⟩ := sc r (by intro l z; cases z); simp only [RP] at r1; subst r1; exact r2
  have v_int : ∀ {i : Int} {u : Value}, RD X.K H (.int i) u → ∃ t, u = .int i t := fun {b u} r => by
    obtain ⟨v, r1, r2⟩ := sc r (by intro l z; cases z); simp only [RP] at r1; subst r1; exact r2
  have v_str : ∀ {i : Str} {u : Value}, RD X.K H (.str i) u → ∃ t, u = .str i t := fun {b u} r => by
    obtain ⟨v, r1, r2⟩ := sc r (by intro l z; cases z); simp only [RP] at r1; subst r1; exact r2
  intro n
  induction n with
  | zero =>
    intro A x y u w hu hx hy rx ry
    cases x with
    | non =>
      rw [v_non rx]
      cases y with
      | non => rw [v_non ry]; exact ⟨EqAt.same _, RcAt.none_none⟩
      | bl b => rw [v_bl ry]; exact ⟨EqAt.none_bool b, RcAt.none_bool b⟩
      | int b => obtain ⟨t, rfl⟩ := v_int ry; exact ⟨EqAt.none_int b t, RcAt.none_int b t⟩
      | str b => obtain ⟨t, rfl⟩ := v_str ry; exact ⟨EqAt.none_str b t, RcAt.none_str b t⟩
      | _ => cases hy
    | bl a =>
      rw [v_bl rx]
      cases y with
      | non => rw [v_non ry]; exact ⟨EqAt.bool_none a, RcAt.bool_none a⟩
      | bl b => rw [v_bl ry]; exact ⟨EqAt.bool_bool a b, RcAt.bool_bool a b⟩
      | int b => obtain ⟨t, rfl⟩ := v_int ry; exact ⟨EqAt.bool_int a b t, RcAt.bool_int a b t⟩
      | str b => obtain ⟨t, rfl⟩ := v_str ry; exact ⟨EqAt.bool_str a b t, RcAt.bool_str a b t⟩
      | _ => cases hy
    | int a =>
      obtain ⟨t0, rfl⟩ := v_int rx
      cases y with
      | non => rw [v_non ry]; exact ⟨EqAt.int_none a t0, RcAt.int_none a t0⟩
      | bl b => rw [v_bl ry]; exact ⟨EqAt.int_bool a t0 b, RcAt.int_bool a t0 b⟩
      | int b => obtain ⟨t, rfl⟩ := v_int ry; exact ⟨EqAt.int_int a t0 b t, RcAt.int_int a t0 b t⟩
      | str b => obtain ⟨t, rfl⟩ := v_str ry; exact ⟨EqAt.int_str a t0 b t, RcAt.int_str a t0 b t⟩
      | _ => cases hy
    | str a =>
      obtain ⟨t0, rfl⟩ := v_str rx
      cases y with
      | non => rw [v_non ry]; exact ⟨EqAt.str_none a t0, RcAt.str_none a t0⟩
      | bl b => rw [v_bl ry]; exact ⟨EqAt.str_bool a t0 b, RcAt.str_bool a t0 b⟩
      | int b => obtain ⟨t, rfl⟩ := v_int ry; exact ⟨EqAt.str_int a t0 b t, RcAt.str_int a t0 b t⟩
      | str b => obtain ⟨t, rfl⟩ := v_str ry; exact ⟨EqAt.str_str a t0 b t, RcAt.str_str a t0 b t⟩
      | _ => cases hy
    | _ => cases hx
  | succ n ih =>
    intro A x y u w hu hx hy rx ry
    have hu0 : A.units < cLine := by omega
    have hu1 : A.in1.units + n < cLine := by show A.units + 1 + n < cLine; omega
    cases x with
    | tup l =>
      obtain ⟨a, its, rfl, rl, p⟩ := rd_tup I rx
      cases y with
      | non => rw [v_non ry]; exact ⟨EqAt.tuple_none p hu0, RcAt.tuple_none p hu0⟩
      | bl b => rw [v_bl ry]; exact ⟨EqAt.tuple_bool b p hu0, RcAt.tuple_bool b p hu0⟩
      | int b => obtain ⟨t, rfl⟩ := v_int ry; exact ⟨EqAt.tuple_int b t p hu0, RcAt.tuple_int b t p hu0⟩
      | str b => obtain ⟨t, rfl⟩ := v_str ry; exact ⟨EqAt.tuple_str b t p hu0, RcAt.tuple_str b t p hu0⟩
      | tup m =>
        obtain ⟨b, its', rfl, rl', p'⟩ := rd_tup I ry
        have key : RcAt A s (.ref a) (.ref b) (deq (.tup l) (.tup m)) := by
          have := RcAt.tuples (e := fun i => deq (l.getD i .non) (m.getD i .non)) p p' hu0 fun j h1 h2 => by
            have h1' : j < its.length := by simpa using h1
            have h2' : j < its'.length := by simpa using h2
            obtain ⟨x, ex, rx'⟩ := rl.get (List.getElem?_eq_getElem h1')
            obtain ⟨y, ey, ry'⟩ := rl'.get (List.getElem?_eq_getElem h2')
            have q := ih hu1 (List.all_eq_true.mp hx x (List.mem_of_getElem? ex)) (List.all_eq_true.mp hy y (List.mem_of_getElem? ey)) rx'.rd ry'.rd
            have e1 : l.getD j .non = x := by rw [List.getD_eq_getElem?_getD, ex]; rfl
            have e2 : m.getD j .non = y := by rw [List.getD_eq_getElem?_getD, ey]; rfl
            rw [e1, e2]
            simpa using q.1
          have e : deq (.tup l) (.tup m) = ((List.range (min its.toArray.size its'.toArray.size)).all (fun i => deq (l.getD i .non) (m.getD i .non)) && its.toArray.size == its'.toArray.size) := by
            simp only [deq, deqs_range, List.size_toArray, rl.length, rl'.length]
          rw [e]; exact this
        refine ⟨?_, key⟩
        by_cases hab : a = b
        · subst hab
          have := rd_inj I (n + 1) hx hy rx ry
          rw [← this, deq_refl hx]; exact EqAt.same _
        · exact EqAt.of_refs hab key
      | fls m =>
        obtain ⟨b, its', rfl, rl', p'⟩ := rd_lst I ry
        exact ⟨EqAt.tuple_list p p' hu0, RcAt.tuple_list p p' hu0⟩
      | _ => cases hy
    | fls l =>
      obtain ⟨a, its, rfl, rl, p⟩ := rd_lst I rx
      cases y with
      | non => rw [v_non ry]; exact ⟨EqAt.list_none p hu0, RcAt.list_none p hu0⟩
      | bl b => rw [v_bl ry]; exact ⟨EqAt.list_bool b p hu0, RcAt.list_bool b p hu0⟩
      | int b => obtain ⟨t, rfl⟩ := v_int ry; exact ⟨EqAt.list_int b t p hu0, RcAt.list_int b t p hu0⟩
      | str b => obtain ⟨t, rfl⟩ := v_str ry; exact ⟨EqAt.list_str b t p hu0, RcAt.list_str b t p hu0⟩
      | tup m =>
        obtain ⟨b, its', rfl, rl', p'⟩ := rd_tup I ry
        exact ⟨EqAt.list_tuple p p' hu0, RcAt.list_tuple p p' hu0⟩
      | fls m =>
        obtain ⟨b, its', rfl, rl', p'⟩ := rd_lst I ry
        have key : RcAt A s (.ref a) (.ref b) (deq (.fls l) (.fls m)) := by
          by_cases hs : its.length = its'.length
          · have := RcAt.lists (e := fun i => deq (l.getD i .non) (m.getD i .non)) p p' (by simpa using hs) hu0 fun j h1 h2 => by
              have h1' : j < its.length := by simpa using h1
              have h2' : j < its'.length := by simpa using h2
              obtain ⟨x, ex, rx'⟩ := rl.get (List.getElem?_eq_getElem h1')
              obtain ⟨y, ey, ry'⟩ := rl'.get (List.getElem?_eq_getElem h2')
              have q := ih hu1 (List.all_eq_true.mp hx x (List.mem_of_getElem? ex)) (List.all_eq_true.mp hy y (List.mem_of_getElem? ey)) rx'.rd ry'.rd
              have e1 : l.getD j .non = x := by rw [List.getD_eq_getElem?_getD, ex]; rfl
              have e2 : m.getD j .non = y := by rw [List.getD_eq_getElem?_getD, ey]; rfl
              rw [e1, e2]
              simpa using q.1
            have e : deq (.fls l) (.fls m) = (List.range its.toArray.size).all (fun i => deq (l.getD i .non) (m.getD i .non)) := by
              have e0 : l.length = m.length := by rw [← rl.length, ← rl'.length]; exact hs
              simp [deq, deqs_range, rl.length, e0]
            rw [e]; exact this
          · have e : deq (.fls l) (.fls m) = false := by
              have e0 : l.length ≠ m.length := by rw [← rl.length, ← rl'.length]; exact hs
              simp [deq, deqs_range, e0]
            rw [e]
            exact RcAt.lists_lengths p p' (by simpa using hs) hu0
        refine ⟨?_, key⟩
        by_cases hab : a = b
        · subst hab
          have := rd_inj I (n + 1) hx hy rx ry
          rw [← this, deq_refl hx]; exact EqAt.same _
        · exact EqAt.of_refs hab key
      | _ => cases hy
    | ref a => cases hx
    | oth a => cases hx
    | non =>
      cases y with
      | tup m => obtain ⟨b, its', rfl, rl', p'⟩ := rd_tup I ry; rw [v_non rx]; exact ⟨EqAt.none_tuple p' hu0, RcAt.none_tuple p' hu0⟩
      | fls m => obtain ⟨b, its', rfl, rl', p'⟩ := rd_lst I ry; rw [v_non rx]; exact ⟨EqAt.none_list p' hu0, RcAt.none_list p' hu0⟩
      | ref a => cases hy
      | oth a => cases hy
      | _ => exact ih (by omega) (by cases n <;> rfl) (by cases n <;> rfl) rx ry
    | bl i =>
      cases y with
      | tup m => obtain ⟨b, its', rfl, rl', p'⟩ := rd_tup I ry; rw [v_bl rx]; exact ⟨EqAt.bool_tuple i p' hu0, RcAt.bool_tuple i p' hu0⟩
      | fls m => obtain ⟨b, its', rfl, rl', p'⟩ := rd_lst I ry; rw [v_bl rx]; exact ⟨EqAt.bool_list i p' hu0, RcAt.bool_list i p' hu0⟩
      | ref a => cases hy
      | oth a => cases hy
      | _ => exact ih (by omega) (by cases n <;> rfl) (by cases n <;> rfl) rx ry
    | int i =>
      cases y with
      | tup m => obtain ⟨b, its', rfl, rl', p'⟩ := rd_tup I ry; obtain ⟨t, rfl⟩ := v_int rx; exact ⟨EqAt.int_tuple i t p' hu0, RcAt.int_tuple i t p' hu0⟩
      | fls m => obtain ⟨b, its', rfl, rl', p'⟩ := rd_lst I ry; obtain ⟨t, rfl⟩ := v_int rx; exact ⟨EqAt.int_list i t p' hu0, RcAt.int_list i t p' hu0⟩
      | ref a => cases hy
      | oth a => cases hy
      | _ => exact ih (by omega) (by cases n <;> rfl) (by cases n <;> rfl) rx ry
    | str i =>
      cases y with
      | tup m => obtain ⟨b, its', rfl, rl', p'⟩ := rd_tup I ry; obtain ⟨t, rfl⟩ := v_str rx; exact ⟨EqAt.str_tuple i t p' hu0, RcAt.str_tuple i t p' hu0⟩
      | fls m => obtain ⟨b, its', rfl, rl', p'⟩ := rd_lst I ry; obtain ⟨t, rfl⟩ := v_str rx; exact ⟨EqAt.str_list i t p' hu0, RcAt.str_list i t p' hu0⟩
      | ref a => cases hy
      | oth a => cases hy
      | _ => exact ih (by omega) (by cases n <;> rfl) (by cases n <;> rfl) rx ry
end
end U


set_option linter.all false
set_option maxRecDepth 100000
set_option maxHeartbeats 4000000
namespace U
open PySem PySem.Spec PyProof.Rows L2
variable {B : Bs}
section
variable {X : Cx} {pins : List (Addr × Obj)} {σ : L2.St} {H : Hp} {s : Shared}
open SeqAt in
theorem ne_core (I : Inv X pins σ H s) : ∀ (n : Nat) {A : Around} {x y : PV} {u w : Value}, A.units + n < cLine → flat n x = true → flat n y = true → RD X.K H x u → RD X.K H y w → RcNeAt A s u w (!deq x y) := by
  have sc : ∀ {x : PV} {u : Value}, RD X.K H x u → (∀ l, x ≠ .fls l) → RR X.K H x u := fun {x u} r h => by
    cases x with
    | fls l => exact absurd rfl (h l)
    | _ => exact r
  have v_non : ∀ {u : Value}, RD X.K H .non u → u = .none := fun {u} r => by
    obtain ⟨v, r1, r2⟩ := sc r (by intro l z; cases z); simp only [RP] at r1; subst r1; exact r2
  have v_bl : ∀ {b : Bool} {u : Value}, RD X.K H (.bl b) u → u = .bool b := fun {b u} r => by
    obtain ⟨v, r1, r2⟩ := sc r (by intro l z; cases z); simp only [RP] at r1; subst r1; exact r2
  have v_int : ∀ {i : Int} {u : Value}, RD X.K H (.int i) u → ∃ t, u = .int i t := fun {b u} r => by
    obtain ⟨v, r1, r2⟩ := sc r (by intro l z; cases z); simp only [RP] at r1; subst r1; exact r2
  have v_str : ∀ {i : Str} {u : Value}, RD X.K H (.str i) u → ∃ t, u = .str i t := fun {b u} r => by
    obtain ⟨v, r1, r2⟩ := sc r (by intro l z; cases z); simp only [RP] at r1; subst r1; exact r2
  intro n
  induction n with
  | zero =>
    intro A x y u w hu hx hy rx ry
    cases x with
    | non =>
      rw [v_non rx]
      cases y with
      | non => rw [v_non ry]; exact RcNeAt.none_none
      | bl b => rw [v_bl ry]; exact RcNeAt.none_bool b
      | int b => obtain ⟨t, rfl⟩ := v_int ry; exact RcNeAt.none_int b t
      | str b => obtain ⟨t, rfl⟩ := v_str ry; exact RcNeAt.none_str b t
      | _ => cases hy
    | bl a =>
      rw [v_bl rx]
      cases y with
      | non => rw [v_non ry]; exact RcNeAt.bool_none a
      | bl b => rw [v_bl ry]; exact RcNeAt.bool_bool a b
      | int b => obtain ⟨t, rfl⟩ := v_int ry; exact RcNeAt.bool_int a b t
      | str b => obtain ⟨t, rfl⟩ := v_str ry; exact RcNeAt.bool_str a b t
      | _ => cases hy
    | int a =>
      obtain ⟨t0, rfl⟩ := v_int rx
      cases y with
      | non => rw [v_non ry]; exact RcNeAt.int_none a t0
      | bl b => rw [v_bl ry]; exact RcNeAt.int_bool a t0 b
      | int b => obtain ⟨t, rfl⟩ := v_int ry; exact RcNeAt.int_int a t0 b t
      | str b => obtain ⟨t, rfl⟩ := v_str ry; exact RcNeAt.int_str a t0 b t
      | _ => cases hy
    | str a =>
      obtain ⟨t0, rfl⟩ := v_str rx
      cases y with
      | non => rw [v_non ry]; exact RcNeAt.str_none a t0
      | bl b => rw [v_bl ry]; exact RcNeAt.str_bool a t0 b
      | int b => obtain ⟨t, rfl⟩ := v_int ry; exact RcNeAt.str_int a t0 b t
      | str b => obtain ⟨t, rfl⟩ := v_str ry; exact RcNeAt.str_str a t0 b t
      | _ => cases hy
    | _ => cases hx
  | succ n ih =>
    intro A x y u w hu hx hy rx ry
    have hu0 : A.units < cLine := by omega
    have hu1 : A.in1.units + n < cLine := by show A.units + 1 + n < cLine; omega
    cases x with
    | tup l =>
      obtain ⟨a, its, rfl, rl, p⟩ := rd_tup I rx
      cases y with
      | non => rw [v_non ry]; exact RcNeAt.tuple_none p hu0
      | bl b => rw [v_bl ry]; exact RcNeAt.tuple_bool b p hu0
      | int b => obtain ⟨t, rfl⟩ := v_int ry; exact RcNeAt.tuple_int b t p hu0
      | str b => obtain ⟨t, rfl⟩ := v_str ry; exact RcNeAt.tuple_str b t p hu0
      | tup m =>
        obtain ⟨b, its', rfl, rl', p'⟩ := rd_tup I ry
        have key : RcNeAt A s (.ref a) (.ref b) (!deq (.tup l) (.tup m)) := by
          have := RcNeAt.tuples (e := fun i => deq (l.getD i .non) (m.getD i .non)) p p' hu0 fun j h1 h2 => by
            have h1' : j < its.length := by simpa using h1
            have h2' : j < its'.length := by simpa using h2
            obtain ⟨x, ex, rx'⟩ := rl.get (List.getElem?_eq_getElem h1')
            obtain ⟨y, ey, ry'⟩ := rl'.get (List.getElem?_eq_getElem h2')
            have q := eq_core I n hu1 (List.all_eq_true.mp hx x (List.mem_of_getElem? ex)) (List.all_eq_true.mp hy y (List.mem_of_getElem? ey)) rx'.rd ry'.rd
            have e1 : l.getD j .non = x := by rw [List.getD_eq_getElem?_getD, ex]; rfl
            have e2 : m.getD j .non = y := by rw [List.getD_eq_getElem?_getD, ey]; rfl
            rw [e1, e2]
            simpa using q.1
          have e : deq (.tup l) (.tup m) = ((List.range (min its.toArray.size its'.toArray.size)).all (fun i => deq (l.getD i .non) (m.getD i .non)) && its.toArray.size == its'.toArray.size) := by
            simp only [deq, deqs_range, List.size_toArray, rl.length, rl'.length]
          rw [e]; exact this
        exact key
      | fls m =>
        obtain ⟨b, its', rfl, rl', p'⟩ := rd_lst I ry
        exact RcNeAt.tuple_list p p' hu0
      | _ => cases hy
    | fls l =>
      obtain ⟨a, its, rfl, rl, p⟩ := rd_lst I rx
      cases y with
      | non => rw [v_non ry]; exact RcNeAt.list_none p hu0
      | bl b => rw [v_bl ry]; exact RcNeAt.list_bool b p hu0
      | int b => obtain ⟨t, rfl⟩ := v_int ry; exact RcNeAt.list_int b t p hu0
      | str b => obtain ⟨t, rfl⟩ := v_str ry; exact RcNeAt.list_str b t p hu0
      | tup m =>
        obtain ⟨b, its', rfl, rl', p'⟩ := rd_tup I ry
        exact RcNeAt.list_tuple p p' hu0
      | fls m =>
        obtain ⟨b, its', rfl, rl', p'⟩ := rd_lst I ry
        have key : RcNeAt A s (.ref a) (.ref b) (!deq (.fls l) (.fls m)) := by
          by_cases hs : its.length = its'.length
          · have := RcNeAt.lists (e := fun i => deq (l.getD i .non) (m.getD i .non)) p p' (by simpa using hs) hu0 fun j h1 h2 => by
              have h1' : j < its.length := by simpa using h1
              have h2' : j < its'.length := by simpa using h2
              obtain ⟨x, ex, rx'⟩ := rl.get (List.getElem?_eq_getElem h1')
              obtain ⟨y, ey, ry'⟩ := rl'.get (List.getElem?_eq_getElem h2')
              have q := eq_core I n hu1 (List.all_eq_true.mp hx x (List.mem_of_getElem? ex)) (List.all_eq_true.mp hy y (List.mem_of_getElem? ey)) rx'.rd ry'.rd
              have e1 : l.getD j .non = x := by rw [List.getD_eq_getElem?_getD, ex]; rfl
              have e2 : m.getD j .non = y := by rw [List.getD_eq_getElem?_getD, ey]; rfl
              rw [e1, e2]
              simpa using q.1
            have e : deq (.fls l) (.fls m) = (List.range its.toArray.size).all (fun i => deq (l.getD i .non) (m.getD i .non)) := by
              have e0 : l.length = m.length := by rw [← rl.length, ← rl'.length]; exact hs
              simp [deq, deqs_range, rl.length, e0]
            rw [e]; exact this
          · have e : deq (.fls l) (.fls m) = false := by
              have e0 : l.length ≠ m.length := by rw [← rl.length, ← rl'.length]; exact hs
              simp [deq, deqs_range, e0]
            rw [e]
            exact RcNeAt.lists_lengths p p' (by simpa using hs) hu0
        exact key
      | _ => cases hy
    | ref a => cases hx
    | oth a => cases hx
    | non =>
      cases y with
      | tup m => obtain ⟨b, its', rfl, rl', p'⟩ := rd_tup I ry; rw [v_non rx]; exact RcNeAt.none_tuple p' hu0
      | fls m => obtain ⟨b, its', rfl, rl', p'⟩ := rd_lst I ry; rw [v_non rx]; exact RcNeAt.none_list p' hu0
      | ref a => cases hy
      | oth a => cases hy
      | _ => exact ih (by omega) (by cases n <;> rfl) (by cases n <;> rfl) rx ry
    | bl i =>
      cases y with
      | tup m => obtain ⟨b, its', rfl, rl', p'⟩ := rd_tup I ry; rw [v_bl rx]; exact RcNeAt.bool_tuple i p' hu0
      | fls m => obtain ⟨b, its', rfl, rl', p'⟩ := rd_lst I ry; rw [v_bl rx]; exact RcNeAt.bool_list i p' hu0
      | ref a => cases hy
      | oth a => cases hy
      | _ => exact ih (by omega) (by cases n <;> rfl) (by cases n <;> rfl) rx ry
    | int i =>
      cases y with
      | tup m => obtain ⟨b, its', rfl, rl', p'⟩ := rd_tup I ry; obtain ⟨t, rfl⟩ := v_int rx; exact RcNeAt.int_tuple i t p' hu0
      | fls m => obtain ⟨b, its', rfl, rl', p'⟩ := rd_lst I ry; obtain ⟨t, rfl⟩ := v_int rx; exact RcNeAt.int_list i t p' hu0
      | ref a => cases hy
      | oth a => cases hy
      | _ => exact ih (by omega) (by cases n <;> rfl) (by cases n <;> rfl) rx ry
    | str i =>
      cases y with
      | tup m => obtain ⟨b, its', rfl, rl', p'⟩ := rd_tup I ry; obtain ⟨t, rfl⟩ := v_str rx; exact RcNeAt.str_tuple i t p' hu0
      | fls m => obtain ⟨b, its', rfl, rl', p'⟩ := rd_lst I ry; obtain ⟨t, rfl⟩ := v_str rx; exact RcNeAt.str_list i t p' hu0
      | ref a => cases hy
      | oth a => cases hy
      | _ => exact ih (by omega) (by cases n <;> rfl) (by cases n <;> rfl) rx ry

def RDv (K : PySem.W.Frag) (H : Hp) (d : PV) (x : V) : Prop := match d with
  | .fls l => ∃ a vs, x = .ref a ∧ SqL K H a vs ∧ RPs K H l vs
  | d => RP K H d x
theorem RDv.rd {K : PySem.W.Frag} {d : PV} {x : V} {u : Value} (h : RDv K H d x) (r : L2.RelV x u) : RD K H d u := by
  cases d with
  | fls l => obtain ⟨a, vs, rfl, q, rr⟩ := h; cases r; exact ⟨a, vs, rfl, q, rr⟩
  | _ => exact ⟨x, h, r⟩
def withD (x : PV) (H : PHp) (k : PV → Prop) : Prop := match x with
  | .ref a => ∃ l, H a = some (.lst l) ∧ k (.fls l)
  | x => k x
theorem withD.ex {K : PySem.W.Frag} {σ' : St'} {x : PV} {v : V} {H' : PHp} {k : PV → Prop} (h : withD x H' k) (s : SR K B σ' H' σ H) (r : RP K H x v) : ∃ d, RDv K H d v ∧ k d := by
  cases x with
  | ref a =>
    obtain ⟨l, e, h⟩ := h
    obtain ⟨us, q, r2⟩ := s.hp _ _ e
    simp only [RP] at r
    exact ⟨.fls l, ⟨a, us, r, SqL.of q, r2⟩, h⟩
  | fls l =>
    simp only [RP] at r
    obtain ⟨a, us, e, q, r⟩ := r
    exact ⟨.fls l, ⟨a, us, e, q.sq, r⟩, h⟩
  | non => exact ⟨.non, r, h⟩
  | bl b => exact ⟨.bl b, r, h⟩
  | int b => exact ⟨.int b, r, h⟩
  | str b => exact ⟨.str b, r, h⟩
  | tup b => exact ⟨.tup b, r, h⟩
  | oth b => exact ⟨.oth b, r, h⟩
def rEqU (K : PySem.W.Frag) (g : Bool → Bool) : R2 := fun x y H Q => ∃ d1 d2, flat 9 d1 = true ∧ flat 9 d2 = true ∧ RDv K H d1 x ∧ RDv K H d2 y ∧ Q (.bl (g (deq d1 d2))) H
theorem op_eqU (hu : X.A.units + 64 < cLine) : OpR X (compareOp .Eq) (rEqU X.K fun b => b) := by
  intro pins s σ H x y v u Q I rx ry h
  obtain ⟨d1, d2, f1, f2, r1, r2, q⟩ := h
  exact (eq_core I 9 (by omega) f1 f2 (r1.rd rx) (r2.rd ry)).2 _ _ _ _ ⟨.bl _, H, I, rfl, q⟩
theorem op_neU (hu : X.A.units + 64 < cLine) : OpR X (compareOp .NotEq) (rEqU X.K fun b => !b) := by
  intro pins s σ H x y v u Q I rx ry h
  obtain ⟨d1, d2, f1, f2, r1, r2, q⟩ := h
  exact ne_core I 9 (by omega) f1 f2 (r1.rd rx) (r2.rd ry) _ _ _ _ ⟨.bl _, H, I, rfl, q⟩
def uEqG (g : Bool → Bool) : R2' := fun x y H Q => withD x H fun d1 => withD y H fun d2 => flat 9 d1 = true ∧ flat 9 d2 = true ∧ Q (.bl (g (deq d1 d2))) H
theorem vr_eq {K : PySem.W.Frag} {g : Bool → Bool} : VR K B (uEqG g) (rEqU K g) := by
  intro σ' σ H' H x' y' x y Q' Q s rx ry h k
  obtain ⟨d1, r1, h1⟩ := withD.ex h s rx
  obtain ⟨d2, r2, f1, f2, q⟩ := withD.ex h1 s ry
  exact ⟨d1, d2, f1, f2, r1, r2, k _ H' _ H q (by simp [RP]) s (Ev.refl _ _)⟩
def uInG (g : Bool → Bool) : R2' := fun x y H Q => withD x H fun d => withS y H fun l => flat 8 d = true ∧ l.all (flat 8) = true ∧ Q (.bl (g (l.any fun z => deq z d))) H
def uIsN (g : Bool → Bool) : R2' := fun x y H Q => match y, x with
  | .non, .non => Q (.bl (g true)) H
  | .non, .oth _ => False
  | .non, _ => Q (.bl (g false)) H
  | _, _ => False
theorem isN_ex {K : PySem.W.Frag} {g : Bool → Bool} {x y : PV} {v w : V} {H' : PHp} {Q' : VK'} (h : uIsN g x y H' Q') (rx : RP K H x v) (ry : RP K H y w) : w = .non ∧ Q' (.bl (g (decide (v = .non)))) H' := by
  cases y with
  | non =>
    simp only [RP] at ry
    refine ⟨ry, ?_⟩
    cases x with
    | non => simp only [RP] at rx; subst rx; exact h
    | oth _ => exact h.elim
    | tup l =>
      simp only [RP] at rx
      obtain ⟨a, us, rfl, _⟩ := rx
      exact h
    | fls l =>
      simp only [RP] at rx
      obtain ⟨a, us, rfl, _⟩ := rx
      exact h
    | _ => simp only [RP] at rx; subst rx; exact h
  | _ => cases x <;> exact h.elim
theorem vr_isN {K : PySem.W.Frag} : VR K B (uIsN fun b => b) (fun x y H Q => y = .non ∧ Q (.bl (decide (x = .non))) H) := by
  intro σ' σ H' H x' y' x y Q' Q s rx ry h k
  obtain ⟨e, q⟩ := isN_ex h rx ry
  exact ⟨e, k _ H' _ H q (by simp [RP]) s (Ev.refl _ _)⟩
inductive BT where | non | bool | int | str | list | tuple
def BT.nm : BT → String | .non => "NoneType" | .bool => "bool" | .int => "int" | .str => "str" | .list => "list" | .tuple => "tuple"
def BT.sub : BT → BT → Bool
  | .non, .non => true | .bool, .bool => true | .int, .int => true | .str, .str => true | .list, .list => true | .tuple, .tuple => true
  | .bool, .int => true
  | _, _ => false
theorem kit_bt (K : PySem.W.Frag) (t c : BT) : PySem.W.kitOne K (.type t.nm) (.type c.nm) = some (t.sub c) := by
  cases t <;> cases c <;> kernel_rfl
def btV (K : PySem.W.Frag) (H : Hp) (t : BT) (x : V) : Prop := match t with
  | .non => x = .non
  | .bool => ∃ b, x = .bl b
  | .int => ∃ b, x = .int b
  | .str => ∃ b, x = .str b
  | .list => ∃ a us, x = .ref a ∧ SqL K H a us
  | .tuple => ∃ a us, x = .ref a ∧ SqT K H a us
theorem call_isiB (c : BT) : CallR X (.builtin "isinstance") (fun xs H Q => ∃ x t, xs = [x, .ty c.nm] ∧ btV X.K H t x ∧ Q (.bl (t.sub c)) H) := by
  intro pins s σ H xs us Q I r h
  obtain ⟨x, t, rfl, ht, q⟩ := h
  obtain ⟨u, w', rfl, rx, rc⟩ := vals2 r
  have e1 : w' = Value.type c.nm := rc
  subst e1
  have k := kit_bt X.K t c
  have fin : ∀ tk, EP X pins σ Q (.bool (t.sub c)) { s with toks := tk } := fun tk => ⟨.bl _, H, I.tok _, rfl, q⟩
  cases t with
  | non => cases (show x = V.non from ht); exact isinst_ok I rx .non k fin
  | bool => obtain ⟨b, rfl⟩ := ht; exact isinst_ok I rx (.bl b) k fin
  | int => obtain ⟨b, rfl⟩ := ht; exact isinst_ok I rx (.int b) k fin
  | str => obtain ⟨b, rfl⟩ := ht; exact isinst_ok I rx (.str b) k fin
  | list =>
    obtain ⟨a, us, rfl, hq⟩ := ht
    cases rx
    obtain ⟨its, rv, pl, _⟩ := I.list hq
    obtain ⟨o, e, hc, _⟩ := pl.isList
    exact PySem.W.kia_one PySem.W.kitx_list I.kIn ⟨o, e, hc⟩ k (fun z => nomatch z) fin
  | tuple =>
    obtain ⟨a, us, rfl, hq⟩ := ht
    cases rx
    obtain ⟨its, rv, pl, _⟩ := I.tuple hq
    obtain ⟨o, e, hc, _⟩ := pl
    exact PySem.W.kia_one PySem.W.kitx_tuple I.kIn ⟨o, e, hc⟩ k (fun z => nomatch z) fin
def withTy (x : PV) (H : PHp) (k : BT → Prop) : Prop := match x with
  | .non => k .non
  | .bl _ => k .bool
  | .int _ => k .int
  | .str _ => k .str
  | .tup _ => k .tuple
  | .fls _ => k .list
  | .ref a => ∃ l, H a = some (.lst l) ∧ k .list
  | _ => False
theorem withTy.ex {K : PySem.W.Frag} {σ' : St'} {x : PV} {v : V} {H' : PHp} {k : BT → Prop} (h : withTy x H' k) (s : SR K B σ' H' σ H) (r : RP K H x v) : ∃ t, btV K H t v ∧ k t := by
  cases x with
  | non => simp only [RP] at r; exact ⟨.non, r, h⟩
  | bl b => simp only [RP] at r; exact ⟨.bool, ⟨b, r⟩, h⟩
  | int b => simp only [RP] at r; exact ⟨.int, ⟨b, r⟩, h⟩
  | str b => simp only [RP] at r; exact ⟨.str, ⟨b, r⟩, h⟩
  | tup l => simp only [RP] at r; obtain ⟨a, us, e, q, _⟩ := r; exact ⟨.tuple, ⟨a, us, e, q⟩, h⟩
  | fls l => simp only [RP] at r; obtain ⟨a, us, e, q, _⟩ := r; exact ⟨.list, ⟨a, us, e, q.sq⟩, h⟩
  | ref a =>
    simp only [RP] at r
    obtain ⟨l, e, h⟩ := h
    obtain ⟨us, q, _⟩ := s.hp _ _ e
    exact ⟨.list, ⟨a, us, r, SqL.of q⟩, h⟩
  | oth _ => exact h.elim
def uIsi (c : BT) : List PV → PHp → VK' → Prop := fun xs H Q => match xs with
  | [x, .oth (.ty n)] => n = c.nm ∧ withTy x H fun t => Q (.bl (t.sub c)) H
  | _ => False
theorem vc_isi {K : PySem.W.Frag} (c : BT) : VC K B (uIsi c) (fun xs H Q => ∃ x t, xs = [x, .ty c.nm] ∧ btV K H t x ∧ Q (.bl (t.sub c)) H) := by
  intro σ' σ H' H xs' xs Q' Q s r h k
  unfold uIsi at h
  split at h
  · rename_i x n
    obtain ⟨rfl, h⟩ := h
    simp only [RPs, RP] at r
    obtain ⟨u, r1, rfl, rx, w, r2, rfl, rfl, rfl⟩ := r
    obtain ⟨t, bt, h⟩ := withTy.ex h s rx
    exact ⟨u, t, rfl, bt, k _ H' _ H h (by simp [RP]) s (Ev.refl _ _)⟩
  · exact h.elim
theorem qe_bty {x : Str} {n : String} {pos : Pos} (hg : Gl X x) (hm : X.mg x = none) (hv : bootBuiltins x = some (.type n)) (hn : x ≠ "__name__" := by decide) (hd : (x == ("__debug__" : Str)) = false := by decide) : PE' X B (.Name x pos) (uC (.oth (.ty n))) :=
  pe_imp (pe_bltn (v := .ty n) hg hm hv rfl hn hd) fun _ _ _ h => lowC (fun _ => by simp [RP]) h
variable {e o : Expr} {es : List Expr} {to : TE'} {t : TA'} {name : Str} {apos cpos : Pos}
def isL (x : PV) (H1 : PHp) : Prop := match x with
  | .ref a => ∃ l, H1 a = some (.lst l)
  | _ => False
def uBM (r : PV → List PV → PHp → VK' → Prop) (to : TE') (t : TA') : TE' := fun σ H Q => to σ H fun x H1 => isL x H1 ∧ t σ H1 fun xs H2 => r x xs H2 Q
def uBM0 (r : PV → List PV → PHp → VK' → Prop) (to : TE') : TE' := fun σ H Q => to σ H fun x H1 => r x [] H1 Q
def VM (K : PySem.W.Frag) (B : Bs) (r' : PV → List PV → PHp → VK' → Prop) (r : V → List V → Hp → VK → Prop) : Prop := ∀ (σ' : St') (σ : L2.St) (H' : PHp) (H : Hp) x' xs' x xs (Q' : VK') (Q : VK), SR K B σ' H' σ H → RP K H x' x → RPs K H xs' xs → r' x' xs' H' Q' →
  (∀ v' H1' v H1, Q' v' H1' → RP K H1 v' v → SR K B σ' H1' σ H1 → Ev H' H H1' H1 → Q v H1) → r x xs H Q
theorem low_bm {K : PySem.W.Frag} {r' : PV → List PV → PHp → VK' → Prop} {r : V → List V → Hp → VK → Prop} (v : VM K B r' r) {σ : L2.St} {H : Hp} {Q : VK} (h : low K B (uBM r' to t) σ H Q) : tBM K "list" r (low K B to) (lowA K B t) σ H Q := by
  obtain ⟨σ', H', Q', s, h, k⟩ := h
  refine ⟨σ', H', _, s, h, fun x' H1' x H1 h1 rx s1 e1 => ?_⟩
  obtain ⟨ty, h1⟩ := h1
  constructor
  · cases x' with
    | ref a =>
      obtain ⟨l, e⟩ := ty
      obtain ⟨us, q, _⟩ := s1.hp _ _ e
      simp only [RP] at rx
      subst rx
      exact .inl ⟨rfl, us, SqL.of q⟩
    | _ => exact ty.elim
  · refine ⟨σ', H1', _, s1, h1, fun xs' H2' xs H2 h2 r2 s2 e2 => ?_⟩
    exact v σ' σ H2' H2 x' xs' x xs Q' Q s2 (RP.kp K (e2.kp s1.hp) rx) r2 h2 fun v' H3' v H3 q rv s3 e3 => k v' H3' v H3 q rv s3 (e1.trans (e2.trans e3))
theorem qe_bm {id : String} {r' : PV → List PV → PHp → VK' → Prop} {r : V → List V → Hp → VK → Prop} (slot : Slot "list" name id) (hty : typeOf (.builtin id) = pure (.type "method_descriptor")) (hm : MtR X id r) (v : VM X.K B r' r) (ho : PE' X B o to) (ha : PA' X B (e :: es) t)
    (hbase : attributeBase o name X.env (eval o X.env) = eval o X.env := by rfl)
    (hfew : ((backTo cpos (starEach (e :: es) X.env)).all (fun x => !x.1) && (backToKw cpos (keywordEach [] X.env)).all (fun x => x.1.isSome)
      && decide ((e :: es).length + ([] : List Keyword).length + (if ([] : List Keyword).isEmpty then 0 else 1) < 30)) = true := by rfl)
    (hline : (apos.endLine == cpos.line) = true := by rfl) (hs : starEach (e :: es) X.env = (false, eval e X.env) :: starEach es X.env := by rfl) (hplain : (backTo cpos (starEach es X.env)).any (·.1) = false := by rfl) :
    PE' X B (.Call (.Attribute o name apos) (e :: es) [] cpos) (uBM r' to t) := pe_imp (pe_bm PySem.F.plainAttrs_list slot hty hm ho ha hbase hfew hline hs hplain) fun _ _ _ h => low_bm v h
def uAppend : PV → List PV → PHp → VK' → Prop := fun x vs H Q => match x, vs with
  | .ref a, [y] => ∃ l, H a = some (.lst l) ∧ l.length < sizeLine ∧ Q .non (put H a (.lst (l ++ [y])))
  | _, _ => False
theorem vm_append {K : PySem.W.Frag} : VM K B uAppend rAppend := by
  intro σ' σ H' H x' xs' x xs Q' Q s rx r h k
  unfold uAppend at h
  split at h
  · rename_i a y
    obtain ⟨l, e, hl, h⟩ := h
    obtain ⟨us, q, r2⟩ := s.hp _ _ e
    simp only [RP, RPs] at rx r
    obtain ⟨u, r1, rfl, ru, rfl⟩ := r
    subst rx
    exact ⟨a, us, u, rfl, rfl, q, by rw [RPs.length _ r2]; exact hl, k _ _ _ _ h (by simp [RP]) (s.wr e (wrL s.hp e (RPs.append _ r2 (RPs.cons _ ru (RPs.nil _))))) (Ev.wr e)⟩
  · exact h.elim
def uExtend : PV → List PV → PHp → VK' → Prop := fun x vs H Q => match x, vs with
  | .ref a, [.ref b] => ∃ l m, H a = some (.lst l) ∧ H b = some (.lst m) ∧ l.length + m.length ≤ sizeLine ∧ Q .non (put H a (.lst (l ++ m)))
  | _, _ => False
def uPop : PV → List PV → PHp → VK' → Prop := fun x vs H Q => match x, vs with
  | .ref a, [] => ∃ l y, H a = some (.lst l) ∧ l[l.length - 1]? = some y ∧ Q y (put H a (.lst l.dropLast))
  | _, _ => False
end
end U


set_option linter.all false
set_option maxRecDepth 100000
set_option maxHeartbeats 4000000
namespace U
open PySem L2
variable {B : Bs}
theorem rngL_drop (lo : Int) (n i : Nat) (h : i < n) : (rngL lo n).drop i = PV.int (lo + (i : Nat)) :: (rngL lo n).drop (i + 1) := by
  have hl : i < (rngL lo n).length := by simpa [rngL] using h
  rw [List.drop_eq_getElem_cons hl]
  simp [rngL]
theorem rngL_end (lo : Int) (n : Nat) : (rngL lo n).drop n = [] := by
  apply List.drop_of_length_le
  simp [rngL]
theorem for_rng {ok : PHp → Prop} {g : TG'} {tb : TS'} {D : Ends'} {lo : Int} {n : Nat} (Pv : Nat → St' → PHp → Prop) (hd : ∀ σ H, Pv n σ H → ok H ∧ D.nx σ H)
    (hs : ∀ (G : St' → PHp → Prop) i σ H, i < n → Pv i σ H → (∀ σ' H', Pv (i + 1) σ' H' → G σ' H') → ok H ∧ g (.int (lo + (i : Nat))) σ H fun σ2 H2 => tb { D with nx := G, ct := G, bk := D.nx } σ2 H2)
    {σ : St'} {H : PHp} (h0 : Pv 0 σ H) : uForL ok g tb D (rngL lo n) σ H := by
  have key : ∀ (k i : Nat) {σ : St'} {H : PHp}, i + k = n → Pv i σ H → uForL ok g tb D ((rngL lo n).drop i) σ H := by
    intro k
    induction k with
    | zero =>
      intro i σ H hk p
      have : i = n := hk
      subst this
      rw [rngL_end]
      exact hd σ H p
    | succ k ih =>
      intro i σ H hk p
      have hi : i < n := hk ▸ Nat.lt_add_of_pos_right (Nat.succ_pos k)
      rw [rngL_drop lo n i hi]
      exact hs _ i σ H hi p fun σ' H' p' => ih (i + 1) ((Nat.succ_add_eq_add_succ i k).trans hk) p'
  exact key n 0 (Nat.zero_add n) h0
theorem for_at {ok : PHp → Prop} {g : TG'} {tb : TS'} {D : Ends'} {xs : List PV} (Pv : Nat → St' → PHp → Prop) (hd : ∀ σ H, Pv xs.length σ H → ok H ∧ D.nx σ H)
    (hs : ∀ (G : St' → PHp → Prop) i x σ H, xs[i]? = some x → Pv i σ H → (∀ σ' H', Pv (i + 1) σ' H' → G σ' H') → ok H ∧ g x σ H fun σ2 H2 => tb { D with nx := G, ct := G, bk := D.nx } σ2 H2)
    {σ : St'} {H : PHp} (h0 : Pv 0 σ H) : uForL ok g tb D xs σ H := by
  have key : ∀ (k i : Nat) {σ : St'} {H : PHp}, xs.length - i = k → i ≤ xs.length → Pv i σ H → uForL ok g tb D (xs.drop i) σ H := by
    intro k
    induction k with
    | zero =>
      intro i σ H hk hi p
      have : i = xs.length := by omega
      subst this
      rw [List.drop_length]
      exact hd σ H p
    | succ k ih =>
      intro i σ H hk hi p
      have hl : i < xs.length := by omega
      rw [List.drop_eq_getElem_cons hl]
      exact hs _ i _ σ H (List.getElem?_eq_getElem hl) p fun σ' H' p' => ih (i + 1) (by omega) (by omega) p'
  have := key xs.length 0 (by omega) (by omega) h0
  simpa using this
theorem atI_int {m : List Int} {z : Int} (h0 : 0 ≤ z) (h1 : z < m.length) : atI (m.map PV.int) z = some (.int (m.getD z.toNat 0)) := by
  unfold atI ixN
  rw [if_pos h0, List.length_map, if_pos h1]
  show (m.map PV.int)[z.toNat]? = _
  rw [List.getElem?_map, List.getD_eq_getElem?_getD]
  have : z.toNat < m.length := by omega
  rw [List.getElem?_eq_getElem this]
  rfl
theorem w_V {v : PV} {k : PV → Prop} : withV (some (some v)) k = k v := rfl
theorem w_B {b : Bool} {k : Bool → Prop} : withB (.bl b) k = k b := rfl
theorem w_I {b : Int} {k : Int → Prop} : withI (.int b) k = k b := rfl
theorem w_O {b : PV} {k : PV → Prop} : withO (some b) k = k b := rfl
theorem w_St {l : List PV} {H : PHp} {k : List PV → Prop} : withS (.tup l) H k = k l := rfl
theorem w_Sf {l : List PV} {H : PHp} {k : List PV → Prop} : withS (.fls l) H k = k l := rfl
theorem w_Sr {a : Addr} {H : PHp} {k : List PV → Prop} : withS (.ref a) H k = ∃ l, H a = some (.lst l) ∧ k l := rfl
theorem w_Dr {a : Addr} {H : PHp} {k : PV → Prop} : withD (.ref a) H k = ∃ l, H a = some (.lst l) ∧ k (.fls l) := rfl
theorem w_Dn {H : PHp} {k : PV → Prop} : withD .non H k = k .non := rfl
theorem w_Db {b : Bool} {H : PHp} {k : PV → Prop} : withD (.bl b) H k = k (.bl b) := rfl
theorem w_Di {b : Int} {H : PHp} {k : PV → Prop} : withD (.int b) H k = k (.int b) := rfl
theorem w_Ds {b : Str} {H : PHp} {k : PV → Prop} : withD (.str b) H k = k (.str b) := rfl
theorem w_Dt {b : List PV} {H : PHp} {k : PV → Prop} : withD (.tup b) H k = k (.tup b) := rfl
theorem w_Df {b : List PV} {H : PHp} {k : PV → Prop} : withD (.fls b) H k = k (.fls b) := rfl
theorem w_Tn {H : PHp} {k : BT → Prop} : withTy .non H k = k .non := rfl
theorem w_Tb {b : Bool} {H : PHp} {k : BT → Prop} : withTy (.bl b) H k = k .bool := rfl
theorem w_Ti {b : Int} {H : PHp} {k : BT → Prop} : withTy (.int b) H k = k .int := rfl
theorem w_Ts {b : Str} {H : PHp} {k : BT → Prop} : withTy (.str b) H k = k .str := rfl
theorem w_Tt {b : List PV} {H : PHp} {k : BT → Prop} : withTy (.tup b) H k = k .tuple := rfl
theorem w_Tf {b : List PV} {H : PHp} {k : BT → Prop} : withTy (.fls b) H k = k .list := rfl
theorem w_Tr {a : Addr} {H : PHp} {k : BT → Prop} : withTy (.ref a) H k = ∃ l, H a = some (.lst l) ∧ k .list := rfl
theorem w_Ni {b : Int} {k : Int → Prop} : intOf (.int b) k = k b := rfl
theorem w_Nb {b : Bool} {k : Int → Prop} : intOf (.bl b) k = k (b2n b) := rfl
theorem w_Lf {l : List PV} {lo hi : Option Int} {H : PHp} {Q : VK'} : sliceOf (.fls l) lo hi H Q = ∀ p, H p = none → Q (.ref p) (put H p (.lst (cutP l lo hi))) := rfl
theorem w_Lr {a : Addr} {lo hi : Option Int} {H : PHp} {Q : VK'} : sliceOf (.ref a) lo hi H Q = ∃ l, H a = some (.lst l) ∧ ∀ p, H p = none → Q (.ref p) (put H p (.lst (cutP l lo hi))) := rfl
theorem w_Lt {l : List PV} {lo hi : Option Int} {H : PHp} {Q : VK'} : sliceOf (.tup l) lo hi H Q = (¬ (HT.sIx l.length 0 lo = 0 ∧ HT.sIx l.length l.length hi = l.length) ∧ Q (.tup (cutP l lo hi)) H) := rfl
theorem w_Xt {l : List PV} {H : PHp} {R : It' → PHp → Prop} : itOf (.tup l) H R = R ⟨l, fun _ => True⟩ H := rfl
theorem w_Xf {l : List PV} {H : PHp} {R : It' → PHp → Prop} : itOf (.fls l) H R = R ⟨l, fun _ => True⟩ H := rfl
theorem w_Xr {a : Addr} {H : PHp} {R : It' → PHp → Prop} : itOf (.ref a) H R = ∃ l, H a = some (.lst l) ∧ R ⟨l, fun H => H a = some (.lst l)⟩ H := rfl
theorem w_1 {f : PV → PHp → VK' → Prop} {x : PV} {H : PHp} {Q : VK'} : arg1 f [x] H Q = f x H Q := rfl
theorem w_isi {c : BT} {x : PV} {n : String} {H : PHp} {Q : VK'} : uIsi c [x, .oth (.ty n)] H Q = (n = c.nm ∧ withTy x H fun t => Q (.bl (t.sub c)) H) := rfl
theorem w_n0 {g : Bool → Bool} {H : PHp} {Q : VK'} : uIsN g .non .non H Q = Q (.bl (g true)) H := rfl
theorem w_n1 {g : Bool → Bool} {a : Addr} {H : PHp} {Q : VK'} : uIsN g (.ref a) .non H Q = Q (.bl (g false)) H := rfl
theorem w_n2 {g : Bool → Bool} {l : List PV} {H : PHp} {Q : VK'} : uIsN g (.tup l) .non H Q = Q (.bl (g false)) H := rfl
theorem w_n3 {g : Bool → Bool} {l : Int} {H : PHp} {Q : VK'} : uIsN g (.int l) .non H Q = Q (.bl (g false)) H := rfl
theorem w_n4 {g : Bool → Bool} {l : Bool} {H : PHp} {Q : VK'} : uIsN g (.bl l) .non H Q = Q (.bl (g false)) H := rfl
theorem w_vt {n : Nat} {t : TGs'} {l : List PV} {σ : St'} {H : PHp} {Q : St' → PHp → Prop} : vTup n t (.tup l) σ H Q = (l.length = n ∧ t l σ H Q) := rfl
theorem w_vc {t : TG'} {u : TGs'} {v : PV} {r : List PV} {σ : St'} {H : PHp} {Q : St' → PHp → Prop} : vCons t u (v :: r) σ H Q = t v σ H fun σ' H' => u r σ' H' Q := rfl
theorem w_vn {σ : St'} {H : PHp} {Q : St' → PHp → Prop} : vNil [] σ H Q = (True ∧ Q σ H) := by simp [vNil]
theorem w_r1 {t : TA'} {σ : St'} {H : PHp} {R : It' → PHp → Prop} : uRng1 t σ H R = t σ H fun vs H1 => rng1 vs H1 R := rfl
theorem w_r1' {j : Int} {H1 : PHp} {R : It' → PHp → Prop} : rng1 [.int j] H1 R = ((-(2 ^ 62) ≤ j ∧ j < 2 ^ 62) ∧ R ⟨rngL 0 j.toNat, fun _ => True⟩ H1) := rfl
theorem w_r2 {t : TA'} {σ : St'} {H : PHp} {R : It' → PHp → Prop} : uRng2 t σ H R = t σ H fun vs H1 => rng2 vs H1 R := rfl
theorem w_r2' {i j : Int} {H1 : PHp} {R : It' → PHp → Prop} : rng2 [.int i, .int j] H1 R = ((-(2 ^ 62) ≤ i ∧ i < 2 ^ 62 ∧ -(2 ^ 62) ≤ j ∧ j < 2 ^ 62) ∧ R ⟨rngL i (j - i).toNat, fun _ => True⟩ H1) := rfl
theorem w_ap {a : Addr} {y : PV} {H : PHp} {Q : VK'} : uAppend (.ref a) [y] H Q = ∃ l, H a = some (.lst l) ∧ l.length < sizeLine ∧ Q .non (put H a (.lst (l ++ [y]))) := rfl
theorem w_ex {a b : Addr} {H : PHp} {Q : VK'} : uExtend (.ref a) [.ref b] H Q = ∃ l m, H a = some (.lst l) ∧ H b = some (.lst m) ∧ l.length + m.length ≤ sizeLine ∧ Q .non (put H a (.lst (l ++ m))) := rfl
theorem w_po {a : Addr} {H : PHp} {Q : VK'} : uPop (.ref a) [] H Q = ∃ l y, H a = some (.lst l) ∧ l[l.length - 1]? = some y ∧ Q y (put H a (.lst l.dropLast)) := rfl
theorem w_bm {r : PV → List PV → PHp → VK' → Prop} {to : TE'} {t : TA'} {σ : St'} {H : PHp} {Q : VK'} : uBM r to t σ H Q = to σ H fun x H1 => isL x H1 ∧ t σ H1 fun xs H2 => r x xs H2 Q := rfl
theorem w_il {a : Addr} {H : PHp} : isL (.ref a) H = ∃ l, H a = some (.lst l) := rfl
theorem small_size {n : Nat} (h : n ≤ 1000) : n ≤ sizeLine := Nat.le_of_lt (small1000 h)
end U
namespace U
open PySem L2
theorem seq_abs {t u : TS'} {D : Ends'} {σ : St'} {H : PHp} (h : ∀ R : TS', R = u → uSeq t R D σ H) : uSeq t u D σ H := h u rfl
end U


set_option linter.all false
set_option maxRecDepth 100000
set_option maxHeartbeats 4000000
namespace U
open PySem PySem.Spec PyProof.Rows L2
variable {B : Bs}
section
variable {X : Cx} {pins : List (Addr × Obj)} {σ : L2.St} {H H' : Hp} {s : Shared} {h' : Heap} {a C T : Addr} {fl : Value}
structure Plain (X : Cx) : Prop where
  ex : X.ex = []
  stk : X.stack = X.env :: X.outer
  fr : X.env.frame = some X.env.locals
variable {M : Model} {E : Value → Shared → Prop} {Q : Unit → Shared → Prop}
end
end U


set_option linter.all false
set_option maxHeartbeats 4000000
set_option maxRecDepth 100000
namespace U
open PySem PySem.Spec PyProof.Rows L2 PySem.W
section
variable {prog : Program} {w : World} {A : Around} {E : Value → Shared → Prop} {h : Heap} {g : Array GenState} {d : Drawn} {t : Nat} {os : OsState} {a C : Addr} {o : Obj} {K : Frag}
end
end U


set_option linter.all false
set_option maxRecDepth 100000
set_option maxHeartbeats 4000000
namespace U
open PySem PySem.Spec PyProof.Rows L2
variable {B : Bs}
section
variable {P : Program} {w : World} {K : PySem.W.Frag} {mg : Str → Option Value} {base : Heap}
end
section
variable {X : Cx} {k : Nat} {f C D : Addr} {fd : FuncData} {ps : List Str} {sp : Sp'} {E : XK} {E' : XK'} {x m n : Str} {p np pos apos cpos : Pos} {e o : Expr} {es : List Expr} {ta : TE'} {t : TA'}
end
end U


set_option linter.all false
set_option maxRecDepth 100000
set_option maxHeartbeats 4000000
namespace U
open PySem PySem.Spec PyProof.Rows L2
variable {B : Bs}
section
variable {X : Cx} {pins : List (Addr × Obj)} {σ : L2.St} {H : Hp} {s : Shared} {a C T : Addr} {fl : Value}
end
end U


set_option linter.all false
set_option maxRecDepth 100000
set_option maxHeartbeats 4000000
namespace U
open PySem PySem.Spec PyProof.Rows L2
variable {B : Bs}
section
variable {X : Cx} {k : Nat} {f C D : Addr} {fd : FuncData} {ps : List Str} {sp : Sp'} {x m n : Str} {p np pos apos cpos : Pos} {e o : Expr} {es : List Expr} {ta : TE'} {t : TA'}
end
end U


set_option linter.all false
set_option maxRecDepth 100000
set_option maxHeartbeats 4000000
namespace U
open PySem L2
def pr (p : Str × Bool) : PV := .tup [.str p.1, .bl p.2]
end U
namespace U
open PySem L2
def pairs : List (Str × TE') → List Bool → List PV
  | (n, _) :: r, b :: bs => .tup [.str n, .bl b] :: pairs r bs
  | _, _ => []
end U
namespace U
open PySem
theorem len0 {P : List Value → Prop} (h : P []) (us : List Value) (hl : us.length = 0) : P us := by
  cases us with
  | nil => exact h
  | cons a r => exact absurd hl (Nat.succ_ne_zero _)
theorem len1 {P : List Value → Prop} (h : ∀ a, P [a]) (us : List Value) (hl : us.length = 1) : P us := by
  cases us with
  | nil => exact absurd hl.symm (Nat.succ_ne_zero _)
  | cons a r => exact len0 (P := fun r => P (a :: r)) (h a) r (Nat.succ.inj hl)
theorem len2 {P : List Value → Prop} (h : ∀ a b, P [a, b]) (us : List Value) (hl : us.length = 2) : P us := by
  cases us with
  | nil => exact absurd hl.symm (Nat.succ_ne_zero _)
  | cons a r => exact len1 (P := fun r => P (a :: r)) (h a) r (Nat.succ.inj hl)
theorem len3 {P : List Value → Prop} (h : ∀ a b c, P [a, b, c]) (us : List Value) (hl : us.length = 3) : P us := by
  cases us with
  | nil => exact absurd hl.symm (Nat.succ_ne_zero _)
  | cons a r => exact len2 (P := fun r => P (a :: r)) (h a) r (Nat.succ.inj hl)
theorem len4 {P : List Value → Prop} (h : ∀ a b c d, P [a, b, c, d]) (us : List Value) (hl : us.length = 4) : P us := by
  cases us with
  | nil => exact absurd hl.symm (Nat.succ_ne_zero _)
  | cons a r => exact len3 (P := fun r => P (a :: r)) (h a) r (Nat.succ.inj hl)
end U
namespace U
open PySem PySem.Spec PyProof.Rows L2
variable {B : Bs} {X : Cx}
end U


set_option linter.all false
set_option maxRecDepth 100000
set_option maxHeartbeats 4000000
namespace L2
open PySem PySem.Spec PyProof.Rows
def compCx (X : Cx) (N2 : List Str) (scope : Scope) (cl : List (Str × Addr)) (s0 : Shared) (H0 : Hp) (fp : List Addr) (ps : List (Addr × Obj)) : Cx :=
  { X with N := N2, s₀ := s0, H₀ := H0, env := compEnvC scope cl s0.heap.objs.size X.env, outer := X.stack, stack := X.stack, ex := fp, fn := fun x => (cl.lookup x).isNone, pn := ps, xe := fun _ _ => False }
def sig0 (nt : Nat) (js : List Nat) (σ : St) : St := List.replicate nt none ++ js.map fun j => (σ[j]?).join
theorem lookup_relabel_free {env : Env} : ∀ {names : List (Str × NameKind)} {x : Str}, names.lookup x = some .free →
    (names.map fun (n, k) => if (k == NameKind.free && env.scope.kind == .function && env.kindOf n == some .cell) then (n, NameKind.cell) else (n, k)).lookup x = some .cell ∨
    (names.map fun (n, k) => if (k == NameKind.free && env.scope.kind == .function && env.kindOf n == some .cell) then (n, NameKind.cell) else (n, k)).lookup x = some .free
  | [], _, h => by simp at h
  | (n, k) :: r, x, h => by
    have ih := @lookup_relabel_free env r x
    show List.lookup x ((if (k == NameKind.free && env.scope.kind == .function && env.kindOf n == some .cell) = true then (n, NameKind.cell) else (n, k)) :: _) = _ ∨ List.lookup x ((if (k == NameKind.free && env.scope.kind == .function && env.kindOf n == some .cell) = true then (n, NameKind.cell) else (n, k)) :: _) = _
    cases hx : x == n with
    | true =>
      simp only [List.lookup_cons, hx] at h
      cases h
      by_cases hc : (NameKind.free == NameKind.free && env.scope.kind == .function && env.kindOf n == some .cell) = true
      · rw [if_pos hc]; simp [List.lookup_cons, hx]
      · rw [if_neg hc]; simp [List.lookup_cons, hx]
    | false =>
      simp only [List.lookup_cons, hx] at h
      by_cases hc : (k == NameKind.free && env.scope.kind == .function && env.kindOf n == some .cell) = true
      · rw [if_pos hc]; simp only [List.lookup_cons, hx]; exact ih h
      · rw [if_neg hc]; simp only [List.lookup_cons, hx]; exact ih h
structure CompOk (X : Cx) (N2 : List Str) (nt : Nat) (js : List Nat) (scope : Scope) (cl : List (Str × Addr)) (sc : Scope) : Prop where
  clos : closureFor scope X.env = pure cl
  sub : ∀ x c, cl.lookup x = some c → X.env.cells.lookup x = some c
  xsc : X.env.scope = sc
  kind : scope.kind = .function
  nocell : ∀ y ∈ scope.names, y.2 ≠ .cell
  loc : ∀ y ∈ scope.names, y.2 = .local → scope.names.lookup y.1 = some .local
  has : ∀ y ∈ scope.names, y.2 = .free → y.1 ∈ cl.map (·.1)
  frs : ∀ x ∈ N2.drop nt, scope.names.lookup x = some .free ∧ sc.names.lookup x = some .cell
  len : N2.length = nt + js.length
  pl : ∀ (k j : Nat), js[k]? = some j → X.N[j]? = N2[nt + k]?
theorem mem_lookup {α : Type} : ∀ {l : List (Str × α)} {x : Str}, x ∈ l.map (·.1) → ∃ c, l.lookup x = some c
  | [], _, h => by simp at h
  | (n, k) :: r, x, h => by
    cases hx : x == n with
    | true => exact ⟨k, by simp [List.lookup_cons, hx]⟩
    | false =>
      have h' : x = n ∨ x ∈ r.map (·.1) := by simpa using h
      have hn : x ≠ n := by intro e; subst e; simp at hx
      obtain ⟨c, e⟩ := mem_lookup (h'.resolve_left hn)
      exact ⟨c, by simp [List.lookup_cons, hx, e]⟩
theorem lookup_mem {α : Type} : ∀ {l : List (Str × α)} {x : Str} {c : α}, l.lookup x = some c → (x, c) ∈ l
  | [], _, _, h => by simp at h
  | (n, k) :: r, x, c, h => by
    cases hx : x == n with
    | true =>
      simp only [List.lookup_cons, hx] at h
      have e : x = n := by simpa using hx
      cases h; subst e; exact List.mem_cons_self
    | false =>
      simp only [List.lookup_cons, hx] at h
      exact List.mem_cons_of_mem _ (lookup_mem h)
section
variable {X : Cx} {pins : List (Addr × Obj)} {σ : St} {H : Hp} {s : Shared} {N2 : List Str} {nt : Nat} {js : List Nat} {scope sc : Scope} {cl : List (Str × Addr)} {fp : List Addr}
theorem CompOk.kindOf (O : CompOk X N2 nt js scope cl sc) {x : Str} {C : Addr} (h : (compEnvC scope cl C X.env).kindOf x = some .cell ∨ (compEnvC scope cl C X.env).kindOf x = some .free) : ∃ c, cl.lookup x = some c := by
  have h' : (relabel scope X.env).names.lookup x = some .cell ∨ (relabel scope X.env).names.lookup x = some .free := h
  have key : ∀ (k : NameKind), (relabel scope X.env).names.lookup x = some k → (k = .cell ∨ k = .free) → ∃ y ∈ scope.names, y.1 = x ∧ (y.2 = .cell ∨ y.2 = .free) := fun k e hk => by
    have m := lookup_mem e
    obtain ⟨⟨n, k'⟩, hm, e'⟩ := List.mem_map.mp m
    by_cases hc : (k' == NameKind.free && X.env.scope.kind == .function && X.env.kindOf n == some .cell) = true
    · simp only [hc, if_true] at e'
      have e1 : n = x := congrArg Prod.fst e'
      refine ⟨(n, k'), hm, e1, .inr ?_⟩
      rw [Bool.and_eq_true, Bool.and_eq_true] at hc
      exact beq_iff_eq.mp hc.1.1
    · have e'' : (n, k') = (x, k) := by
        dsimp only at e'
        rw [if_neg hc] at e'
        exact e'
      cases e''
      exact ⟨(x, k), hm, rfl, hk⟩
  obtain ⟨y, hy, rfl, hk⟩ := h'.elim (fun e => key _ e (.inl rfl)) fun e => key _ e (.inr rfl)
  rcases hk with hk | hk
  · exact absurd hk (O.nocell y hy)
  · exact mem_lookup (O.has y hy hk)
theorem compCx_ok (O : CompOk X N2 nt js scope cl sc) (I : Inv X pins σ H s) (hf : ∀ b ∈ fp, FpOk X pins H b) (hlt : ∀ b ∈ fp, b < s.heap.objs.size) : (compCx X N2 scope cl s H fp (X.pn ++ pins)).Ok where
  mod := I.ok.mod
  kind := O.kind
  glob := I.ok.glob
  blt := I.ok.blt
  above := Nat.le_refl _
  inj := fun x y c h1 h2 => I.ok.inj x y c (O.sub x c h1) (O.sub y c h2)
  has := fun x h => O.kindOf h
  cab := fun x c h1 h2 => by
    have h1' : (cl.lookup x).isNone = true := h1
    have h2' : cl.lookup x = some c := h2
    rw [h2'] at h1'; cases h1'
  hd := I.ok.hd
  frames := I.ok.frames
  stk := .inl rfl
  exf := fun b hb => ⟨Nat.ne_of_lt (hlt b hb), fun x c e => (hf b hb).2.2.2.2.1 x c (O.sub x c e)⟩
  bs := I.bs
  bsz := Nat.le_trans I.ok.bsz I.sz
  noex := fun b o e hb => by
    obtain ⟨_, _, _, h3, _⟩ := hf b hb
    rcases h3 with h3 | h3
    · exact I.ok.noex b o e h3
    · exact absurd (Nat.lt_of_lt_of_le (Heap.lt_size (I.ok.bs b o e).1) h3) (Nat.lt_irrefl _)
  exfs := fun b hb hs => by
    obtain ⟨_, h1, h2, _⟩ := hf b hb
    rcases List.mem_cons.mp (I.stkSub b hs) with e | e
    · exact h1 e
    · exact h2 e
  funs := I.stack
  frf := I.stkFree
theorem comp_start (O : CompOk X N2 nt js scope cl sc) (I : Inv X pins σ H s) (hf : ∀ b ∈ fp, FpOk X pins H b) (hlt : ∀ b ∈ fp, b < s.heap.objs.size) {h4 : Heap} {t4 : Nat} (hn : h4.Ns s.heap.objs.size fun _ => none)
    (hk : ∀ b o, s.heap.get? b = some o → h4.get? b = some o) : Inv (compCx X N2 scope cl s H fp (X.pn ++ pins)) [] (sig0 nt js σ) H { s with heap := h4, toks := t4 } := by
  refine ⟨compCx_ok O I hf hlt, rfl, I.bare, Un.kept hk, ⟨_, hn, fun i x v e1 e2 e3 => ?_⟩, fun x c e => ?_, I.hok.fresh (Nat.le_refl _), fun x c e => I.freeC x c (O.sub x c e), fun p hp => ?_, I.hok.kept hk, ?_⟩
  · unfold sig0 at e2
    by_cases hi : i < nt
    · rw [List.getElem?_append_left (by simpa using hi), List.getElem?_replicate] at e2
      split at e2 <;> cases e2
    · obtain ⟨k, rfl⟩ : ∃ k, i = nt + k := ⟨i - nt, by omega⟩
      rw [List.getElem?_append_right (by simp), List.length_replicate, Nat.add_sub_cancel_left, List.getElem?_map] at e2
      cases ej : js[k]? with
      | none => rw [ej] at e2; cases e2
      | some j =>
        rw [ej] at e2
        have e2' : (σ[j]?).join = some v := Option.some.inj e2
        have eσ : σ[j]? = some (some v) := by
          cases q : σ[j]? with
          | none => rw [q] at e2'; cases e2'
          | some o => rw [q] at e2'; exact congrArg some e2'
        have eN : X.N[j]? = some x := (O.pl k j ej).trans e1
        have hx : x ∈ N2.drop nt := by
          have : (N2.drop nt)[k]? = some x := by rw [List.getElem?_drop]; exact e1
          exact List.mem_of_getElem? this
        obtain ⟨f1, f2⟩ := O.frs x hx
        have vis : Vis X.env.scope x := .inr (.inl (by rw [O.xsc]; exact f2))
        obtain ⟨m, hnX, hl⟩ := I.loc
        obtain ⟨u, r, l⟩ := hl j x v eN eσ vis
        refine ⟨u, r, .inr ⟨?_, ?_⟩⟩
        · exact lookup_relabel_free f1
        · rcases l with ⟨k1, _⟩ | ⟨_, c, ec, ic⟩
          · have k2 : sc.names.lookup x = some .local := by rw [← O.xsc]; exact k1
            rw [f2] at k2; cases k2
          · obtain ⟨c', ec'⟩ := mem_lookup (O.has (x, .free) (lookup_mem f1) rfl)
            have := O.sub x c' ec'
            rw [ec] at this; cases this
            obtain ⟨o, ho, hd⟩ := ic
            exact ⟨c, ec', o, hk _ _ ho, hd⟩
  · obtain ⟨v, o, ho, hd⟩ := I.cell x c (O.sub x c e)
    exact ⟨v, o, hk _ _ ho, hd⟩
  · have hp' : p ∈ X.pn ++ pins := by
      have hp2 : p ∈ (X.pn ++ pins) ++ [] := hp
      rwa [List.append_nil] at hp2
    obtain ⟨e, n, ne, nf, d⟩ := I.pin p hp'
    refine ⟨hk _ _ e, n, Nat.ne_of_lt (Heap.lt_size e), fun hb => ?_, d⟩
    rcases List.mem_cons.mp (I.stkSub p.1 hb) with z | z
    · exact ne z
    · exact nf z
  · unfold sig0
    show _ = N2.length
    rw [List.length_append, List.length_replicate, List.length_map, O.len]
theorem comp_end {σ' : St} {H' : Hp} {s' : Shared} {pl : List (Addr × Obj)} (I : Inv X pins σ H s) (hf : ∀ b ∈ fp, FpOk X pins H b) (J : Inv (compCx X N2 scope cl s H fp (X.pn ++ pins)) pl σ' H' s') : Inv X pins σ H' s' :=
  I.call' (ch := fp) J.os J.base J.hok J.bare fun b hb => by
    obtain ⟨h0, h1, h2, h3, h4, h5⟩ := hf b hb
    exact ⟨h3, h1, h4, h5⟩
end
end L2
namespace L2
open PySem PySem.Spec PyProof.Rows
def PIf (Y : Cx) (ifs : List Expr) (t : TT) : Prop :=
  ∀ (pins : List (Addr × Obj)) (s : Shared) (σ : St) (H : Hp) (Q : Bool → Hp → Prop), Inv Y pins σ H s → t σ H Q →
    wpAny (model Y.prog Y.w) Y.A (forIn ifs true fun c r => if r = true then do let ok ← isTrue c Y.env (eval c Y.env); pure (ForInStep.yield ok) else pure (ForInStep.yield r)) (TP Y pins σ Q) Y.xe s
def tYes : TT := fun _ H Q => Q true H
theorem pif_nil {Y : Cx} : PIf Y [] tYes := fun _ _ _ H _ I h => wpAny_tests_nil ⟨H, I, h⟩
theorem pif_one {Y : Cx} {c : Expr} {t : TT} (h : PT Y c t) : PIf Y [c] t := fun pins s σ H Q I hw => wpAny_tests_one (h pins s σ H Q I hw)
def turnC (acc : Addr) (J : It) (g : TG) (tt : TT) (te : TE) (W : Nat → Nat → L2.St → Hp → Prop) (i m : Nat) (σ0 : L2.St) (H : Hp) : Prop :=
  J.go i H ∧ ∀ x H', J.yld i H x H' → g x σ0 H' fun σ3 H2 => tt σ3 H2 fun b H3 =>
    if b = true then te σ3 H3 fun y H4 => ∃ ys, H4 acc = some (.lst ys) ∧ ys.length < sizeLine ∧ ∃ m', m' < m ∧ W (i + 1) m' σ3 (upd H4 acc (.lst (ys ++ [y])))
    else ∃ m', m' < m ∧ W (i + 1) m' σ3 H3
def tComp (nt : Nat) (js : List Nat) (wi : TI) (g : TG) (tt : TT) (te : TE) : TE := fun σ H Q => wi σ H fun J H1 => ∀ acc, H1 acc = none →
  ∃ W : Nat → Nat → L2.St → Hp → Prop, (∃ m, W 0 m (sig0 nt js σ) (upd H1 acc (.lst []))) ∧ ∀ i m σ0 H, W i m σ0 H → (J.stop i H ∧ Q (.ref acc) H) ∨ turnC acc J g tt te W i m σ0 H
structure CompB (Y : Cx) (tg : Expr) (ifs : List Expr) (elt : Expr) (g : TG) (tt : TT) (te : TE) : Prop where
  tgt : PG Y tg g
  tst : PIf Y ifs tt
  elt : PE Y elt te
theorem compLoop_own {prog : Program} {w : World} {A : Around} {R : Result → Shared → Prop} {s : Shared} {elt target iter : Expr} {ifs : List Expr} {scope : Scope} {pos : Pos} {it acc : Value} {env : Env} (I : Nat → Shared → Prop)
    (turn : ∀ n s, I n s → wpAny (model prog w) A (pyNext it) (fun r s₁ => match r with
      | none => R (.ok .next) s₁
      | some v => wpAny (model prog w) A (letOwnedTupleGo target it v) (fun _ s₀ => wpAny (model prog w) A (assign target env v) (fun _ s₂ =>
          wpAny (model prog w) A (forIn ifs true fun c r => if r = true then do let ok ← isTrue c env (eval c env); pure (ForInStep.yield ok) else pure (ForInStep.yield r)) (fun ok s₃ =>
            if ok = true then wpAny (model prog w) A (eval elt env) (fun x s₄ =>
              wpAny (model prog w) A (call (.builtin "list.append") [acc, x]) (fun _ s₅ => ∃ m, m < n ∧ I m s₅) (fun _ _ => False) s₄) (fun _ _ => False) s₃
            else ∃ m, m < n ∧ I m s₃) (fun _ _ => False) s₂) (fun _ _ => False) s₀) (fun _ _ => False) s₁) (fun _ _ => False) s)
    (n : Nat) (h : I n s) :
    codeAny (model prog w) A (.compLoop (.ListComp elt [⟨target, iter, ifs, 0⟩] scope pos) 0 it acc env) R s := by
  refine codeAny_loop rfl I (fun n s hI => ?_) n h
  show wpAny _ A ((compTurn (.ListComp elt [⟨target, iter, ifs, 0⟩] scope pos) 0 it acc env).onRaise (fun x => do noteFrame x env; theTreesLotGoes x)) _ _ s
  refine wpAny_noted ?_
  rw [compTurn_list]
  refine wpAny_bind (wpAny_standAt (wpAny_bind (wpAny_mono (turn n s hI) (fun r s₁ h₁ => ?_) fun _ _ h' => h'.elim)))
  cases r with
  | none => exact wpAny_pure h₁
  | some v =>
    refine wpAny_bind (wpAny_mono h₁ (fun _ s₀ h₀ => ?_) fun _ _ h' => h'.elim)
    refine wpAny_bind (wpAny_mono h₀ (fun _ s₂ h₂ => wpAny_bind (wpAny_mono h₂ (fun ok s₃ h₃ => ?_) fun _ _ h' => h'.elim)) fun _ _ h' => h'.elim)
    cases ok with
    | false => exact wpAny_pure ⟨rfl, h₃⟩
    | true =>
      exact wpAny_bind (wpAny_bind (wpAny_mono h₃ (fun x s₄ h₄ => wpAny_bind (wpAny_mono h₄ (fun _ s₅ h₅ => wpAny_pure (wpAny_pure ⟨rfl, h₅⟩)) fun _ _ h' => h'.elim)) fun _ _ h' => h'.elim))
section
variable {X : Cx} {pins : List (Addr × Obj)} {σ : St} {H : Hp} {s : Shared} {N2 : List Str} {nt : Nat} {js : List Nat} {scope sc : Scope} {cl : List (Str × Addr)} {fp : List Addr} {elt iter tg : Expr} {ifs : List Expr} {pos : Pos}
  {wi : TI} {g : TG} {tt : TT} {te : TE}
theorem comp_run (O : CompOk X N2 nt js scope cl sc) (hc : X.calm = true) (B : ∀ (s0 : Shared) (H0 : Hp) (fp : List Addr) (ps : List (Addr × Obj)), CompB (compCx X N2 scope cl s0 H0 fp ps) tg ifs elt g tt te)
    {it : Addr} {tn : Nat → Heap → Prop} {J : It} {E : Value → Shared → Prop} {Q : VK} {RR : Value → Addr → Result → Shared → Prop}
    (I : Inv X pins σ H s) (T : Turn X.prog X.w X.K tg J fp it tn) (st : tn 0 s.heap) (hf : ∀ b ∈ fp, FpOk X pins H b)
    (h : ∀ acc, H acc = none → ∃ W : Nat → Nat → L2.St → Hp → Prop, (∃ m, W 0 m (sig0 nt js σ) (upd H acc (.lst []))) ∧ ∀ i m σ0 H, W i m σ0 H → (J.stop i H ∧ Q (.ref acc) H) ∨ turnC acc J g tt te W i m σ0 H)
    (hRR : ∀ (acc C : Addr) (s' : Shared) (H' : Hp) (m : Str → Option Value), s'.heap.Ns C m → Inv X pins σ H' s' → H' C = none → C ≠ X.env.locals → X.s₀.heap.objs.size ≤ C → (∀ x c, X.env.cells.lookup x = some c → c ≠ C) → (∀ p ∈ X.pn ++ pins, p.1 ≠ C) → Q (.ref acc) H' → RR (.ref acc) C (.ok .next) s') :
    wpAny (model X.prog X.w) X.A (newList []) (fun acc s₃ => wpAny (model X.prog X.w) X.A (newFunctionEnv scope X.env.globals cl [] X.env.qual none .none (some X.env)) (fun cenv s₄ =>
      codeAny (model X.prog X.w) X.A (.compStart (.ListComp elt [⟨tg, iter, ifs, 0⟩] scope pos) 0 (.ref it) acc { cenv with scope := relabel scope X.env }) (RR acc cenv.locals) s₄) E s₃) E s := by
  have hlt : ∀ b ∈ fp, b < s.heap.objs.size := fun b hb => by
    obtain ⟨o, e, _⟩ := T.obj _ _ st b hb
    exact Heap.lt_size e
  have hnA : H s.heap.objs.size = none := I.hok.fresh (Nat.le_refl _)
  obtain ⟨W, ⟨m0, w0⟩, turn⟩ := h s.heap.objs.size hnA
  refine wpAny_newObj_type (wpAny_newFunctionEnv O.nocell (by intro y hy; simp at hy) (fun h₁ hns₁ hsb₁ => ?_) O.kind)
  dsimp only at hns₁ hsb₁ ⊢
  have I3 : Inv X pins σ (upd H s.heap.objs.size (.lst [])) { s with heap := s.heap.push { cls := .type "list", dict := none, data := .seq ([] : List Value).toArray } } :=
    I.laid (t' := s.toks) (fun b u e => Heap.get?_push_of_some _ e) (Nat.le_refl _) ⟨by show 0 ≤ sizeLine; exact Nat.zero_le _, [], 0, .nil, Heap.get?_push_size _ rfl⟩
  generalize hs3 : ({ s with heap := s.heap.push { cls := .type "list", dict := none, data := .seq ([] : List Value).toArray } } : Shared) = s3 at I3
  have e3 : s3.heap = s.heap.push { cls := .type "list", dict := none, data := .seq ([] : List Value).toArray } := by rw [← hs3]
  rw [← e3] at hns₁ hsb₁ ⊢
  have et : s3.toks = s.toks := by rw [← hs3]
  have hf3 : ∀ b ∈ fp, FpOk X pins (upd H s.heap.objs.size (.lst [])) b := fun b hb => by
    obtain ⟨f0, f⟩ := hf b hb
    exact ⟨by rw [upd_ne (Nat.ne_of_lt (hlt b hb))]; exact f0, f⟩
  have hlt3 : ∀ b ∈ fp, b < s3.heap.objs.size := fun b hb => by rw [e3, Heap.size_push]; exact Nat.lt_succ_of_lt (hlt b hb)
  have hk4 : ∀ b o, s3.heap.get? b = some o → h₁.get? b = some o := fun b o e => hsb₁.extBut b o (Nat.ne_of_lt (Heap.lt_size e)) (Heap.get?_push_of_some _ e)
  have hns' : h₁.Ns s3.heap.objs.size fun _ => none := hns₁
  have I4 := comp_start (t4 := s3.toks + ([] : List (Str × Value)).length) O I3 hf3 hlt3 hns' hk4
  have st4 : tn 0 h₁ := T.keep _ _ _ st fun b hb o e => hk4 b o (by rw [e3]; exact Heap.get?_push_of_some _ e)
  have B4 := B s3 (upd H s.heap.objs.size (.lst [])) fp (X.pn ++ pins)
  generalize hY : compCx X N2 scope cl s3 (upd H s.heap.objs.size (.lst [])) fp (X.pn ++ pins) = Y at I4 B4
  have yP : Y.prog = X.prog := by rw [← hY]; rfl
  have yw : Y.w = X.w := by rw [← hY]; rfl
  have yK : Y.K = X.K := by rw [← hY]; rfl
  have yA : Y.A = X.A := by rw [← hY]; rfl
  have yc : Y.calm = true := by rw [← hY]; exact hc
  have yx : Y.xe = fun _ _ => False := by rw [← hY]; rfl
  have ye : Y.env = compEnvC scope cl s3.heap.objs.size X.env := by rw [← hY]; rfl
  have fpY : ∀ {H' : Hp}, (∀ b ∈ fp, H' b = none) → ∀ b ∈ fp, FpOk Y [] H' b := fun hn b hb => by
    obtain ⟨f0, f1, f2, f3, f4, f5⟩ := hf3 b hb
    rw [← hY]
    refine ⟨hn b hb, Nat.ne_of_lt (hlt3 b hb), fun hs => ?_, .inl hb, fun x c e => f4 x c (O.sub x c e), fun p hp => ?_⟩
    · rcases List.mem_cons.mp (I3.stkSub b hs) with e | e
      · exact f1 e
      · exact f2 e
    · have hp2 : p ∈ (X.pn ++ pins) ++ [] := hp
      rw [List.append_nil] at hp2
      exact f5 p hp2
  have fin : ∀ {σ' : St} {H' : Hp} {s' : Shared} {pl : List (Addr × Obj)}, Inv Y pl σ' H' s' → Q (.ref s.heap.objs.size) H' → RR (.ref s.heap.objs.size) s3.heap.objs.size (.ok .next) s' := fun {σ' H' s' pl} I' q => by
    have J' : Inv X pins σ H' s' := comp_end I3 hf3 (hY ▸ I')
    obtain ⟨m, hn, _⟩ := I'.loc
    have hfr := I'.free
    rw [ye] at hn hfr
    refine hRR _ _ s' H' m hn J' hfr (Nat.ne_of_gt I3.lt) I3.sz (fun x c e z => ?_) (fun p hp z => ?_) q
    · obtain ⟨v, q⟩ := I3.cell x c e
      exact absurd (Nat.lt_of_lt_of_le q.lt (by rw [z]; exact Nat.le_refl _)) (Nat.lt_irrefl _)
    · exact absurd (Nat.lt_of_lt_of_le (Heap.lt_size (I3.pin p hp).1) (by rw [z]; exact Nat.le_refl _)) (Nat.lt_irrefl _)
  have loop : ∀ s4 : Shared, s4 = { s3 with heap := h₁, toks := s3.toks + ([] : List (Str × Value)).length } →
      codeAny (model X.prog X.w) X.A (.compLoop (.ListComp elt [⟨tg, iter, ifs, 0⟩] scope pos) 0 (.ref it) (.ref s.heap.objs.size) (compEnvC scope cl s3.heap.objs.size X.env)) (RR (.ref s.heap.objs.size) s3.heap.objs.size) s4 := by
    rintro s4 rfl
    refine compLoop_own (fun n s' => ∃ i σ0 H', Inv Y [] σ0 H' s' ∧ tn i s'.heap ∧ (∀ b ∈ fp, H' b = none) ∧ W i n σ0 H') ?_ m0
      ⟨0, _, _, I4, st4, fun b hb => (hf3 b hb).1, w0⟩
    rintro n s5 ⟨i, σ5, H5, I5, st5, fr5, w5⟩
    rcases turn i n σ5 H5 w5 with ⟨stop, q⟩ | ⟨go, step⟩
    · have r := T.done Y yP yw yK yc i [] s5 _ H5 (fun _ _ => False) I5 (fpY fr5) st5 stop
      rw [yA] at r
      refine thn r fun r s6 ⟨hr, I6⟩ => ?_
      subst hr
      exact fin I6 q
    · have r := T.item Y yP yw yK yc i [] s5 _ H5 (fun _ _ => False) I5 (fpY fr5) st5 go
      rw [yA] at r
      refine thn r fun r s6 ⟨u, hr, h6⟩ => ?_
      subst hr
      refine thn h6 fun _ s7 ⟨x, H7, I7, r7, y7, st7, fr7⟩ => ?_
      have I7' := I7.pinned (fpY fr7) (T.obj _ _ st7)
      have r := B4.tgt _ s7 _ H7 x u _ I7' r7 (step x H7 y7)
      rw [yP, yw, yA, yx, ye] at r
      refine thn r fun _ s8 ⟨σ8, H8, I8, q8⟩ => ?_
      have r := B4.tst _ s8 σ8 H8 _ I8 q8
      rw [yP, yw, yA, yx, ye] at r
      refine thn r fun ok s9 ⟨H9, I9, q9⟩ => ?_
      have back : ∀ {s' : Shared} {H' : Hp}, Inv Y ([] ++ pinsAt fp s7.heap) σ8 H' s' → (Inv Y [] σ8 H' s' ∧ tn (i + 1) s'.heap ∧ ∀ b ∈ fp, H' b = none) := fun {s' H'} I' => by
        refine ⟨I'.unpinned, T.keep _ _ _ st7 fun b hb o e => (I'.pin (b, o) (List.mem_append_right _ (List.mem_append_right _ (mem_pinsAt hb e)))).1, fun b hb => ?_⟩
        obtain ⟨o, e, d⟩ := T.obj _ _ st7 b hb
        exact (I'.pin (b, o) (List.mem_append_right _ (List.mem_append_right _ (mem_pinsAt hb e)))).2.1
      cases ok with
      | false =>
        have q9' : ∃ m', m' < n ∧ W (i + 1) m' σ8 H9 := q9
        obtain ⟨m', hm, w9⟩ := q9'
        obtain ⟨b1, b2, b3⟩ := back I9
        show ∃ m, m < n ∧ _
        exact ⟨m', hm, i + 1, σ8, H9, b1, b2, b3, w9⟩
      | true =>
        have q9' : te σ8 H9 fun y H4 => ∃ ys, H4 s.heap.objs.size = some (.lst ys) ∧ ys.length < sizeLine ∧ ∃ m', m' < n ∧ W (i + 1) m' σ8 (upd H4 s.heap.objs.size (.lst (ys ++ [y]))) := q9
        have r := B4.elt _ s9 σ8 H9 _ I9 q9'
        rw [yP, yw, yA, yx, ye] at r
        show wpAny _ _ (eval elt _) _ _ s9
        refine thn r fun y s10 ⟨yv, H10, I10, r10, q10⟩ => ?_
        obtain ⟨ys, a1, a2, m', hm, w10⟩ := q10
        have r := mt_append (X := Y) _ s10 σ8 H10 (.ref s.heap.objs.size) [yv] (.ref s.heap.objs.size) [y] (fun _ H' => H' = upd H10 s.heap.objs.size (.lst (ys ++ [yv]))) I10 rfl (.cons r10 .nil) ⟨_, ys, yv, rfl, rfl, a1, a2, rfl⟩
        rw [yP, yw, yA, yx] at r
        refine thn r fun _ s11 ⟨_, H11, I11, _, e11⟩ => ?_
        subst e11
        obtain ⟨b1, b2, b3⟩ := back I11
        exact ⟨m', hm, i + 1, σ8, _, b1, b2, b3, w10⟩
  have st4' : tn 0 ({ s3 with heap := h₁, toks := s3.toks + ([] : List (Str × Value)).length } : Shared).heap := st4
  have hs4 : ({ s with heap := h₁, toks := s.toks + ([] : List (Str × Value)).length } : Shared) = { s3 with heap := h₁, toks := s3.toks + ([] : List (Str × Value)).length } := by rw [← hs3]
  exact codeAny_compStart_list (loop _ hs4) (T.self _ 0 _ _ _ st4 (loop _ hs4))
theorem pe_compO (O : CompOk X N2 nt js scope cl sc) (hc : X.calm = true) (hi : PI X tg iter wi) (B : ∀ (s0 : Shared) (H0 : Hp) (fp : List Addr) (ps : List (Addr × Obj)), CompB (compCx X N2 scope cl s0 H0 fp ps) tg ifs elt g tt te)
    (hs : ∀ x, foldedSetIterable iter X.env x = pure x := by intro _; rfl) : PE X (.ListComp elt [⟨tg, iter, ifs, 0⟩] scope pos) (tComp nt js wi g tt te) := by
  intro pins s σ H Q I h
  rw [eval_ListComp]
  refine wpAny_comprehension_free (use := none) rfl hs O.clos O.kind O.loc (thn (hi pins s σ H _ I h) fun xv s1 h1 => thn h1 fun itv s2 h2 => ?_)
  obtain ⟨it, fp, tn, J, H2, e, I2, T, st2, f2, q⟩ := h2
  subst e
  refine comp_run (RR := fun acc C => compPost (model X.prog X.w) X.A X.xe none (EP X pins σ Q) acc C) O hc B I2 T st2 f2 q ?_
  intro acc C s' H' m hn J' c1 c2 c3 c4 c5 q'
  refine ⟨m, hn, fun h' hsb => ⟨.ref acc, H', ?_, rfl, q'⟩⟩
  exact J'.turned (t' := s'.toks) (fun b o hb e => hsb.extBut b o hb e) c1 (Ne.symm c2 |> fun z => fun y => z y.symm) (.inr c3) c4 c5
theorem ps_setCO {i : Nat} {y : Str} {py spos : Pos} (hN : X.N.Nodup) (hy : X.N[i]? = some y) (hl : Loc X.env.scope y) (O : CompOk X N2 nt js scope cl sc) (hc : X.calm = true) (hi : PI X tg iter wi)
    (B : ∀ (s0 : Shared) (H0 : Hp) (fp : List Addr) (ps : List (Addr × Obj)), CompB (compCx X N2 scope cl s0 H0 fp ps) tg ifs elt g tt te)
    (hsw : swapsWith (.ListComp elt [⟨tg, iter, ifs, 0⟩] scope pos) (some (.Name y py)) spos.line X.env = pure true := by rfl)
    (hs : ∀ x, foldedSetIterable iter X.env x = pure x := by intro _; rfl) (hfn : X.fn y = true ∨ X.env.scope.names.lookup y = some .local := by first | exact .inl rfl | exact .inr rfl | assumption) :
    PS X (.Assign [.Name y py] (.ListComp elt [⟨tg, iter, ifs, 0⟩] scope pos) spos) (tAsg (tComp nt js wi g tt te) (gName i)) := by
  intro pins s σ H D I h
  rw [exec_Assign_Name_used _ _ _ _ hsw]
  refine wpAny_bind (wpAny_standAt (wpAny_bind ?_))
  show wpAny _ X.A (do let _ ← comprehension (.ListComp elt [⟨tg, iter, ifs, 0⟩] scope pos) scope X.env _ (newList []) false (eval iter X.env) (some (assign (.Name y py) X.env))) _ _ s
  refine wpAny_bind (wpAny_mono (wpAny_comprehension_free (use := some (assign (.Name y py) X.env)) (Q := fun _ s' => SP X pins D .next s') rfl hs O.clos O.kind O.loc
    (thn (hi pins s σ H _ I h) fun xv s1 h1 => thn h1 fun itv s2 h2 => ?_)) (fun _ s' hq => wpAny_pure (wpAny_pure hq)) fun _ _ e => e)
  obtain ⟨it, fp, tn, J, H2, e, I2, T, st2, f2, q⟩ := h2
  subst e
  refine comp_run (Q := fun v H1 => gName i v σ H1 D.nx) (RR := fun acc C => compPost (model X.prog X.w) X.A X.xe (some (assign (.Name y py) X.env)) (fun _ s' => SP X pins D .next s') acc C) O hc B I2 T st2 f2 q ?_
  intro acc C s' H' m hn J' c1 c2 c3 c4 c5 q'
  show wpAny _ X.A (assign (.Name y py) X.env (.ref acc)) _ _ _
  refine wpAny_assign_Name (store_ok2 (v := .ref acc) J' hN hy hl rfl (fun s2 I2' ⟨a, sb, ha⟩ => ?_) hfn)
  have hCa : C ≠ a := by
    rcases ha with ha | ha
    · rw [ha]; exact c2
    · exact fun z => c4 y a ha z.symm
  refine ⟨m, hn.sameBut sb hCa, fun h' hsb => ⟨_, H', ?_, q'⟩⟩
  exact I2'.turned (t' := s2.toks) (fun b o hb e => hsb.extBut b o hb e) c1 c2 (.inr c3) c4 c5
end
end L2


set_option linter.all false
set_option maxRecDepth 100000
set_option maxHeartbeats 4000000
namespace U
open PySem PySem.Spec PyProof.Rows L2
variable {B : Bs} {X : Cx} {pos : Pos}
def sigU (nt : Nat) (js : List Nat) (σ : St') : St' := List.replicate nt none ++ js.map fun j => (σ[j]?).join
theorem SR.sig {K : PySem.W.Frag} {σ' : St'} {H' : PHp} {σ : L2.St} {H : Hp} (s : SR K B σ' H' σ H) (nt : Nat) (js : List Nat) : SR K B (sigU nt js σ') H' (sig0 nt js σ) H := by
  refine ⟨by simp [sigU, sig0], fun i v' e => ?_, s.hp, s.ev⟩
  unfold sigU at e
  unfold sig0
  by_cases hi : i < nt
  · rw [List.getElem?_append_left (by simpa using hi), List.getElem?_replicate] at e
    split at e <;> cases e
  · rw [List.getElem?_append_right (by simp; omega), List.length_replicate, List.getElem?_map] at e ⊢
    cases ej : js[i - nt]? with
    | none => rw [ej] at e; cases e
    | some j =>
      rw [ej] at e
      have e2 : (σ'[j]?).join = some v' := Option.some.inj e
      cases q : σ'[j]? with
      | none => rw [q] at e2; cases e2
      | some o =>
        rw [q] at e2
        have e3 : σ'[j]? = some (some v') := by rw [q]; exact congrArg some e2
        obtain ⟨v, a, b⟩ := s.loc j v' e3
        exact ⟨v, by show some ((σ[j]?).join) = _; rw [a]; rfl, b⟩
def uCompL (ok : PHp → Prop) (g : TG') (tt : TT') (te : TE') (acc : Addr) (Q : VK') : List PV → St' → PHp → Prop
  | [], σ, H => ok H ∧ Q (.ref acc) H
  | x :: r, σ, H => ok H ∧ g x σ H fun σ3 H2 => tt σ3 H2 fun b H3 => cif b (te σ3 H3 fun y H4 => ∃ l, H4 acc = some (.lst l) ∧ l.length < sizeLine ∧ uCompL ok g tt te acc Q r σ3 (put H4 acc (.lst (l ++ [y])))) (uCompL ok g tt te acc Q r σ3 H3)
def uComp (nt : Nat) (js : List Nat) (wi : TI') (g : TG') (tt : TT') (te : TE') : TE' := fun σ H Q => wi σ H fun J H1 => ∀ acc, H1 acc = none → uCompL J.ok g tt te acc Q J.items (sigU nt js σ) (put H1 acc (.lst []))
def PIf' (Y : Cx) (B : Bs) (ifs : List Expr) (t : TT') : Prop := PIf Y ifs (lowT Y.K B t)
def uYes : TT' := fun _ H Q => Q true H
theorem qif_nil {Y : Cx} : PIf' Y B [] uYes := fun pins s σ H Q I ⟨σ', H', Q', sr, h, k⟩ => pif_nil pins s σ H Q I (k true H' H h sr (Ev.refl _ _))
theorem qif_one {Y : Cx} {c : Expr} {t : TT'} (h : PT' Y B c t) : PIf' Y B [c] t := pif_one h
theorem low_comp {K : PySem.W.Frag} {nt : Nat} {js : List Nat} {wi : TI'} {g : TG'} {tt : TT'} {te : TE'} {σ : L2.St} {H : Hp} {Q : VK} (h : low K B (uComp nt js wi g tt te) σ H Q) :
    tComp nt js (lowI K B wi) (lowG K B g) (lowT K B tt) (low K B te) σ H Q := by
  obtain ⟨σ', H', Q', s, h, k⟩ := h
  refine ⟨σ', H', _, s, h, fun J' H1' J H1 h1 wk s1 e1 acc ha => ?_⟩
  have h1 := h1 acc (s1.hp.free ha)
  have sn : SR K B σ' (put H1' acc (.lst [])) σ (upd H1 acc (.lst [])) := s1.new ha ⟨[], upd_same, RPs.nil _⟩
  have en : Ev H1' H1 (put H1' acc (.lst [])) (upd H1 acc (.lst [])) := Ev.new ha
  refine ⟨fun i m σ2 H2 => i ≤ J'.items.length ∧ m = J'.items.length - i ∧ ∃ σ2' H2', SR K B σ2' H2' σ2 H2 ∧ SR K B σ' H2' σ H2 ∧ Ev H1' H1 H2' H2 ∧ uCompL J'.ok g tt te acc Q' (J'.items.drop i) σ2' H2',
    ⟨J'.items.length, Nat.zero_le _, by simp, _, _, sn.sig nt js, sn, en, h1⟩, ?_⟩
  rintro i m σ2 H2 ⟨hi, rfl, σ2', H2', s2, so, e2, h2⟩
  have k2 := e2.kp s1.hp
  by_cases hlt : i < J'.items.length
  · obtain ⟨x', hx⟩ : ∃ x', J'.items[i]? = some x' := ⟨_, List.getElem?_eq_getElem hlt⟩
    have hd : J'.items.drop i = x' :: J'.items.drop (i + 1) := by
      rw [List.drop_eq_getElem_cons hlt]
      rw [List.getElem?_eq_getElem hlt] at hx
      cases hx; rfl
    rw [hd] at h2
    obtain ⟨ok2, h2⟩ := (show J'.ok H2' ∧ _ from h2)
    refine .inr ⟨wk.go H2' H2 i k2 s2.hp ok2 hlt, fun x H3 y => ?_⟩
    obtain ⟨rfl, rx⟩ := wk.yld H2' H2 i x H3 k2 s2.hp ok2 y
    refine ⟨x', σ2', H2', _, rx x' hx, s2, h2, fun σ3' H3' σ3 H3 h3 s3 e3 => ⟨σ3', H3', _, s3, h3, fun b H4' H4 h4 s4 e4 => ?_⟩⟩
    cases b with
    | false =>
      have e24 := e3.trans e4
      exact iteF ⟨J'.items.length - (i + 1), by omega, hlt, rfl, σ3', H4', s4, so.kp e24 s4.hp, e2.trans e24, h4⟩
    | true =>
      refine iteT ⟨σ3', H4', _, s4, h4, fun y' H5' y H5 h5 ry5 s5 e5 => ?_⟩
      obtain ⟨l, a1, a2, h5⟩ := h5
      have e25 := (e3.trans e4).trans e5
      obtain ⟨us, q1, q2⟩ := s5.hp _ _ a1
      have wr := wrL s5.hp a1 (RPs.append _ q2 (RPs.cons _ ry5 (RPs.nil _)))
      refine ⟨us, q1, by rw [RPs.length _ q2]; exact a2, J'.items.length - (i + 1), by omega, hlt, rfl, σ3', _, s5.wr a1 wr, (so.kp e25 s5.hp).wr a1 wr, (e2.trans e25).trans (Ev.wr a1), h5⟩
  · have hi' : i = J'.items.length := by omega
    subst hi'
    rw [List.drop_length] at h2
    obtain ⟨ok2, h2⟩ := (show J'.ok H2' ∧ _ from h2)
    exact .inl ⟨wk.stop H2' H2 _ k2 s2.hp ok2 (Nat.le_refl _), k _ _ _ _ h2 (by simp [RP]) so (e1.trans e2)⟩

section
variable {N2 : List Str} {nt : Nat} {js : List Nat} {scope sc : Scope} {cl : List (Str × Addr)} {elt iter tg : Expr} {ifs : List Expr} {wi : TI'} {g : TG'} {tt : TT'} {te : TE'}
structure CompB' (Y : Cx) (B : Bs) (tg : Expr) (ifs : List Expr) (elt : Expr) (g : TG') (tt : TT') (te : TE') : Prop where
  tgt : PG' Y B tg g
  tst : PIf' Y B ifs tt
  elt : PE' Y B elt te
theorem qe_comp (O : CompOk X N2 nt js scope cl sc) (hc : X.calm = true) (hi : PI' X B tg iter wi) (b : ∀ (s0 : Shared) (H0 : Hp) (fp : List Addr) (ps : List (Addr × Obj)), CompB' (compCx X N2 scope cl s0 H0 fp ps) B tg ifs elt g tt te)
    (hs : ∀ x, foldedSetIterable iter X.env x = pure x := by intro _; rfl) : PE' X B (.ListComp elt [⟨tg, iter, ifs, 0⟩] scope pos) (uComp nt js wi g tt te) :=
  pe_imp (pe_compO (g := lowG X.K B g) (tt := lowT X.K B tt) (te := low X.K B te) O hc hi (fun s0 H0 fp ps => ⟨(b s0 H0 fp ps).tgt, (b s0 H0 fp ps).tst, (b s0 H0 fp ps).elt⟩) hs) fun _ _ _ h => low_comp h
theorem qs_setC {i : Nat} {y : Str} {py spos : Pos} (hN : X.N.Nodup) (hy : X.N[i]? = some y) (hl : Loc X.env.scope y) (O : CompOk X N2 nt js scope cl sc) (hc : X.calm = true) (hi : PI' X B tg iter wi)
    (b : ∀ (s0 : Shared) (H0 : Hp) (fp : List Addr) (ps : List (Addr × Obj)), CompB' (compCx X N2 scope cl s0 H0 fp ps) B tg ifs elt g tt te)
    (hsw : swapsWith (.ListComp elt [⟨tg, iter, ifs, 0⟩] scope pos) (some (.Name y py)) spos.line X.env = pure true := by rfl)
    (hs : ∀ x, foldedSetIterable iter X.env x = pure x := by intro _; rfl) (hfn : X.fn y = true ∨ X.env.scope.names.lookup y = some .local := by first | exact .inl rfl | exact .inr rfl | assumption) :
    PS' X B (.Assign [.Name y py] (.ListComp elt [⟨tg, iter, ifs, 0⟩] scope pos) spos) (uAsg (uComp nt js wi g tt te) (vName i)) :=
  ps_imp (ps_setCO (g := lowG X.K B g) (tt := lowT X.K B tt) (te := low X.K B te) hN hy hl O hc hi (fun s0 H0 fp ps => ⟨(b s0 H0 fp ps).tgt, (b s0 H0 fp ps).tst, (b s0 H0 fp ps).elt⟩) hsw hs hfn) fun D σ H ⟨σ', H', D', s, h, d⟩ => by
    refine low_comp ⟨σ', H', _, s, h, fun v' H1' v H1 q r s1 e1 => ?_⟩
    exact d.nx _ _ _ _ q (s1.set r i) e1
end
end U
namespace U
open PySem PySem.Spec PyProof.Rows L2
def AllL (cs : List (Str × Addr)) : List (Str × Addr) → Prop
  | [] => True
  | p :: r => cs.lookup p.1 = some p.2 ∧ AllL cs r
theorem AllL.mem {cs : List (Str × Addr)} : ∀ {l : List (Str × Addr)} {p : Str × Addr}, AllL cs l → p ∈ l → cs.lookup p.1 = some p.2
  | q :: r, p, h, m => by
    rcases List.mem_cons.mp m with rfl | m
    · exact h.1
    · exact AllL.mem h.2 m
theorem cok {X : Cx} {N2 : List Str} {nt : Nat} {js : List Nat} {scope sc : Scope} {cl : List (Str × Addr)} (clos : closureFor scope X.env = pure cl) (sub : AllL X.env.cells cl) (xsc : X.env.scope = sc) (kind : scope.kind = .function)
    (nocell : ∀ y ∈ scope.names, y.2 ≠ .cell) (loc : ∀ y ∈ scope.names, y.2 = .local → scope.names.lookup y.1 = some .local) (names : cl.map (·.1) = ((scope.names.filter (·.2 == .free)).map (·.1)).reverse)
    (frs : ∀ x ∈ N2.drop nt, scope.names.lookup x = some .free ∧ sc.names.lookup x = some .cell) (len : N2.length = nt + js.length) (pl : js.map (fun j => X.N[j]?) = (N2.drop nt).map some) : CompOk X N2 nt js scope cl sc :=
  ⟨clos, fun x c e => sub.mem (lookup_mem e), xsc, kind, nocell, loc, fun y m f => by rw [names]; exact List.mem_reverse.mpr (List.mem_map_of_mem (List.mem_filter.mpr ⟨m, by rw [f]; rfl⟩)), frs, len, fun k j e => by
    have h : (js.map (fun j => X.N[j]?))[k]? = ((N2.drop nt).map some)[k]? := by rw [pl]
    rw [List.getElem?_map, List.getElem?_map, e, List.getElem?_drop] at h
    cases q : N2[nt + k]? with
    | none => rw [q] at h; cases h
    | some x => rw [q] at h; exact Option.some.inj h⟩
end U
namespace U
open PySem PySem.Spec PyProof.Rows L2
end U


set_option linter.all false
set_option maxRecDepth 100000
set_option maxHeartbeats 4000000
namespace L2
open PySem PySem.Spec PyProof.Rows
variable {X : Cx} {a b c d : Expr} {pos : Pos} {ta tb tc td : TE}
def tChain3 (r r' r'' : R2) (ta tb tc td : TE) : TE := fun σ H Q => ta σ H fun x H1 => tb σ H1 fun y H2 => r x y H2 fun z H3 => ∃ k, z = .bl k ∧
  (if k = true then tc σ H3 fun w' H4 => r' y w' H4 fun z' H5 => ∃ k', z' = .bl k' ∧ (if k' = true then td σ H5 fun v' H6 => r'' w' v' H6 Q else Q (.bl false) H5) else Q (.bl false) H3)
theorem pe_chain3 {op op' op'' : CmpOp} {r r' r'' : R2} (ho : OpR X (compareOp op) r) (ho' : OpR X (compareOp op') r') (ho'' : OpR X (compareOp op'') r'') (ha : PE X a ta) (hb : PE X b tb) (hc : PE X c tc) (hd : PE X d td)
    (hm : lastMarks [op, op', op''] [b, c, d] = false := by with_unfolding_all rfl) : PE X (.Compare a [op, op', op''] [b, c, d] pos) (tChain3 r r' r'' ta tb tc td) := by
  intro pins s σ H Q I h
  refine Compare_chain (thn (ha pins s σ H _ I h) fun v s1 ⟨x, H1, I1, r1, q1⟩ => chain_link (thn (hb pins s1 σ H1 _ I1 q1) fun u s2 ⟨y, H2, I2, r2, q2⟩ =>
    thn (ho pins s2 σ H2 x y v u _ I2 r1 r2 q2) fun d s3 ⟨z, H3, I3, r3, k, e, q3⟩ => ?_)) hm
  subst e
  cases r3
  refine wpAny_truthy_bool ?_
  cases k with
  | false => exact ite_ff ⟨.bl false, H3, I3, rfl, q3⟩
  | true =>
    refine ite_tt (chain_link (thn (hc pins s3 σ H3 _ I3 q3) fun w' s4 ⟨z', H4, I4, r4, q4⟩ => thn (ho' pins s4 σ H4 y z' u w' _ I4 r2 r4 q4) fun d' s5 ⟨z5, H5, I5, r5, k5, e5, q5⟩ => ?_))
    subst e5
    cases r5
    refine wpAny_truthy_bool ?_
    cases k5 with
    | false => exact ite_ff ⟨.bl false, H5, I5, rfl, q5⟩
    | true => exact ite_tt (chain_last (thn (hd pins s5 σ H5 _ I5 q5) fun w6 s6 ⟨z6, H6, I6, r6, q6⟩ => ho'' pins s6 σ H6 z' z6 w' w6 Q I6 r4 r6 q6))
end L2
namespace U
open PySem PySem.Spec PyProof.Rows L2
variable {B : Bs} {X : Cx} {a b c d e o value : Expr} {pos pos' apos p : Pos} {ta tb tc td tv : TE'} {f m x : Str} {C g : Addr}
def uChain3 (r r' r'' : R2') (ta tb tc td : TE') : TE' := fun σ H Q => ta σ H fun x H1 => tb σ H1 fun y H2 => r x y H2 fun z H3 => withB z fun k => cif k (tc σ H3 fun w' H4 => r' y w' H4 fun z' H5 => withB z' fun k' => cif k' (td σ H5 fun v' H6 => r'' w' v' H6 Q) (Q (.bl false) H5)) (Q (.bl false) H3)
theorem qe_chain3 {op op' op'' : CmpOp} {r1' r2' r3' : R2'} {r1 r2 r3 : R2} (ho : OpR X (compareOp op) r1) (v1 : VR X.K B r1' r1) (ho' : OpR X (compareOp op') r2) (v2 : VR X.K B r2' r2) (ho'' : OpR X (compareOp op'') r3) (v3 : VR X.K B r3' r3)
    (ha : PE' X B a ta) (hb : PE' X B b tb) (hc : PE' X B c tc) (hd : PE' X B d td)
    (hm : lastMarks [op, op', op''] [b, c, d] = false := by with_unfolding_all rfl) : PE' X B (.Compare a [op, op', op''] [b, c, d] pos) (uChain3 r1' r2' r3' ta tb tc td) := pe_imp (pe_chain3 ho ho' ho'' ha hb hc hd hm) fun σ H Q ⟨σ', H', Q', s, h, k⟩ => by
  refine ⟨σ', H', _, s, h, fun x' H1' x H1 h1 rx s1 e1 => ⟨σ', H1', _, s1, h1, fun y' H2' y H2 h2 ry s2 e2 => ?_⟩⟩
  refine v1 σ' σ H2' H2 x' y' x y _ _ s2 (RP.kp X.K (e2.kp s1.hp) rx) ry h2 fun z' H3' z H3 q rz s3 e3 => ?_
  obtain ⟨b, rfl, q⟩ := q.ex
  simp only [RP] at rz
  refine ⟨b, rz, ?_⟩
  cases b with
  | false => exact iteF (k _ _ _ _ q (by simp [RP]) s3 ((e1.trans e2).trans e3))
  | true =>
    refine iteT ⟨σ', H3', _, s3, q, fun w' H4' w H4 h4 rw4 s4 e4 => ?_⟩
    refine v2 σ' σ H4' H4 y' w' y w _ _ s4 (RP.kp X.K ((e3.trans e4).kp s2.hp) ry) rw4 h4 fun z5' H5' z5 H5 q5 rz5 s5 e5 => ?_
    obtain ⟨b5, rfl, q5⟩ := q5.ex
    simp only [RP] at rz5
    refine ⟨b5, rz5, ?_⟩
    cases b5 with
    | false => exact iteF (k _ _ _ _ q5 (by simp [RP]) s5 ((((e1.trans e2).trans e3).trans e4).trans e5))
    | true =>
      refine iteT ⟨σ', H5', _, s5, q5, fun v' H6' v H6 h6 rv s6 e6 => ?_⟩
      exact v3 σ' σ H6' H6 w' v' w v _ _ s6 (RP.kp X.K ((e5.trans e6).kp s4.hp) rw4) rv h6 fun z7' H7' z7 H7 q7 rz7 s7 e7 => k _ _ _ _ q7 rz7 s7 ((((((e1.trans e2).trans e3).trans e4).trans e5).trans e6).trans e7)
def fldOf (C : Addr) (f : Str) (x : PV) (H : PHp) (Q : VK') : Prop := match x with
  | .ref a => ∃ dx fs v, H a = some (.ins C dx fs) ∧ fs.lookup f = some v ∧ Q v H
  | _ => False
def uFld (C : Addr) (f : Str) (ta : TE') : TE' := fun σ H Q => ta σ H fun x H1 => fldOf C f x H1 Q
theorem frel_lookup {K : PySem.W.Frag} {H : Hp} {f : Str} {v : PV} : ∀ {fs : List (Str × PV)} {gs : List (Str × V)}, FRel K H fs gs → fs.lookup f = some v → ∃ u, gs.lookup f = some u ∧ RP K H v u
  | [], [], _, e => by simp at e
  | (n, y) :: r, (m, z) :: q, .cons h t, e => by
    obtain ⟨rfl, hr⟩ := h
    dsimp only at hr
    cases hx : f == n with
    | true =>
      simp only [List.lookup_cons, hx] at e ⊢
      cases e
      exact ⟨z, rfl, hr⟩
    | false =>
      simp only [List.lookup_cons, hx] at e ⊢
      exact frel_lookup t e
theorem frel_len {K : PySem.W.Frag} {H : Hp} : ∀ {fs : List (Str × PV)} {gs : List (Str × V)}, FRel K H fs gs → gs.length = fs.length
  | [], [], _ => rfl
  | _ :: _, _ :: _, .cons _ t => by simp [frel_len t]
theorem qe_fld (ha : PE' X B e ta) (cl : Cls X.K C) (n : NoAttr X.K C f) (hb : attributeBase e f X.env (eval e X.env) = eval e X.env) : PE' X B (.Attribute e f pos) (uFld C f ta) := pe_imp (pe_fld ha hb) fun σ H Q ⟨σ', H', Q', s, h, k⟩ => by
  refine ⟨σ', H', _, s, h, fun x' H1' x H1 h1 rx s1 e1 => ?_⟩
  cases x' with
  | ref a =>
    obtain ⟨dx, fs, v, ea, l, q⟩ := h1
    simp only [RP] at rx
    subst rx
    obtain ⟨gs, eg, fr⟩ := s1.hp _ _ ea
    obtain ⟨u, lu, ru⟩ := frel_lookup fr l
    exact ⟨a, C, dx, gs, u, rfl, eg, cl, n, lu, k _ _ _ _ q ru s1 e1⟩
  | _ => exact h1.elim
def putU (f : Str) (v : PV) : List (Str × PV) → List (Str × PV)
  | [] => [(f, v)]
  | (g, x) :: r => if g = f then (g, v) :: r else (g, x) :: putU f v r
theorem frel_put {K : PySem.W.Frag} {H : Hp} {f : Str} {v : PV} {u : V} (rv : RP K H v u) : ∀ {fs : List (Str × PV)} {gs : List (Str × V)}, FRel K H fs gs → FRel K H (putU f v fs) (putF f u gs)
  | [], [], _ => .cons ⟨rfl, rv⟩ .nil
  | (n, y) :: r, (m, z) :: q, .cons h t => by
    obtain ⟨rfl, hr⟩ := h
    unfold putU putF
    by_cases hn : n = f
    · rw [if_pos hn, if_pos hn]; exact .cons ⟨rfl, rv⟩ t
    · rw [if_neg hn, if_neg hn]; exact .cons ⟨rfl, hr⟩ (frel_put rv t)
def stFld (C : Addr) (f : Str) (x y : PV) (H : PHp) (Q : PHp → Prop) : Prop := match x with
  | .ref a => ∃ dx fs, H a = some (.ins C dx fs) ∧ fs.length < 1000 ∧ Q (put H a (.ins C dx (putU f y fs)))
  | _ => False
def uStFld (C : Addr) (f : Str) (ta tv : TE') : TS' := fun D σ H => tv σ H fun y H1 => ta σ H1 fun x H2 => stFld C f x y H2 fun H3 => D.nx σ H3
theorem qs_fld (ha : PE' X B o ta) (hv : PE' X B value tv) (cl : Cls X.K C) (n : NoAttr X.K C f) (hs : swapsWith value (some (.Attribute o f pos')) pos.line X.env = pure false) : PS' X B (.Assign [.Attribute o f pos'] value pos) (uStFld C f ta tv) := ps_imp (ps_fld ha hv hs) fun D σ H ⟨σ', H', D', s, h, dd⟩ => by
  refine ⟨σ', H', _, s, h, fun y' H1' y H1 h1 ry s1 e1 => ⟨σ', H1', _, s1, h1, fun x' H2' x H2 h2 rx s2 e2 => ?_⟩⟩
  cases x' with
  | ref a =>
    obtain ⟨dx, fs, ea, l, q⟩ := h2
    simp only [RP] at rx
    subst rx
    obtain ⟨gs, eg, fr⟩ := s2.hp _ _ ea
    have ry2 := RP.kp X.K (e2.kp s1.hp) ry
    have new : OAt X.K (upd H2 a (.ins C dx (putF f y gs))) a (.ins C dx (putU f y' fs)) := ⟨_, upd_same, FRel.kp (s2.hp.kpw ea) (frel_put ry2 fr)⟩
    exact ⟨a, C, dx, gs, rfl, eg, cl, n, by rw [frel_len fr]; exact l, dd.nx _ _ _ _ q (s2.wr ea new) ((e1.trans e2).trans (Ev.wr ea))⟩
  | _ => exact h2.elim
def isIn (C : Addr) (m : Str) (x : PV) (H : PHp) : Prop := match x with
  | .ref a => ∃ dx fs, H a = some (.ins C dx fs) ∧ fs.lookup m = none
  | _ => False
def uMeth (C : Addr) (m : Str) (sp : Sp') (E' : XK') (ta : TE') (t : TA') : TE' := fun σ H Q => ta σ H fun x H1 => isIn C m x H1 ∧ t σ H1 fun vs H2 => sp (x :: vs) H2 Q E'
section
variable {k : Nat} {fd : FuncData} {ps : List Str} {sp : Sp'} {es : List Expr} {t : TA'}
def uMake (C : Addr) (sp : Sp') (E' : XK') (t : TA') : TE' := fun σ H Q => t σ H fun vs H1 => ∀ x dx, H1 x = none → H1 dx = none → dx ≠ x → sp (.ref x :: vs) (put H1 x (.ins C dx [])) (fun v H2 => v = .non ∧ Q (.ref x) H2) E'
theorem qe_make (M : Mk X.K C g) (F : FnOk' X.prog X.w X.K X.mg X.base CX0 k g fd ps sp) (hr : Room (k + 1) X.A) (hg : Gl X x) (hm : X.mg x = some (.ref C)) (hb : Binds X.K fd ps [])
    (ha : PA' X B (e :: es) t) (hdb : (x == ("__debug__" : Str)) = false := by decide) (he : starEach (e :: es) X.env = (false, eval e X.env) :: starEach es X.env := by rfl) (hpl : (backTo pos (starEach es X.env)).any (·.1) = false := by rfl) :
    PE' X B (.Call (.Name x p) (e :: es) [] pos) (uMake C sp X0 t) := pe_imp (pe_make M F hr hg hm hb .nil pass0 ha hdb he hpl) fun σ H Q ⟨σ', H', Q', s, h, k⟩ => by
  refine ⟨σ', H', _, s, h, fun vs' H1' vs H1 h1 r1 s1 e1 => ?_⟩
  intro x dx nx nd ne
  have h2 := h1 x dx (s1.hp.free nx) (s1.hp.free nd) ne
  have nx2 : upd H1 dx (.own x) x = none := by rw [upd_ne (Ne.symm ne)]; exact nx
  have sd := s1.hid (o := .own x) nd
  have new : OAt X.K (upd (upd H1 dx (.own x)) x (.ins C dx [])) x (.ins C dx []) := ⟨[], upd_same, .nil⟩
  have s2 := sd.new nx2 new
  have e2 : Ev H1' H1 (put H1' x (.ins C dx [])) (upd (upd H1 dx (.own x)) x (.ins C dx [])) := (Ev.hid nd).trans (Ev.new nx2)
  show lowSp X.K sp (.ref x :: (vs ++ [])) _ _ E0
  rw [List.append_nil]
  refine ⟨.ref x :: vs', _, _, X0, RPs.cons _ (by simp [RP]) (RPs.kp X.K (e2.kp s1.hp) r1), s2.hp, h2, fun v' H3' v H3 q r3 h3 e3 => ?_, fun _ _ _ _ z => z.elim⟩
  obtain ⟨rfl, q⟩ := q
  simp only [RP] at r3
  exact ⟨r3, k _ _ _ _ q (by simp [RP]) (s2.kp e3 h3) ((e1.trans e2).trans e3)⟩
end
end U


set_option linter.all false
set_option maxRecDepth 100000
set_option maxHeartbeats 4000000
namespace L2
open PySem PySem.Spec PyProof.Rows
variable {X : Cx}
def rAll (K : PySem.W.Frag) : List V → Hp → VK → Prop := fun xs H Q => ∃ (p : Addr) (bs : List Bool), xs = [.ref p] ∧ SqL K H p (bs.map V.bl) ∧ Q (.bl (bs.all id)) H
theorem vals_bools : ∀ {bs : List Bool} {us : List Value}, Vals (bs.map V.bl) us → us = bs.map Value.bool
  | [], _, .nil => rfl
  | b :: bs, _, .cons r t => by rw [vals_bools t]; cases r; rfl
theorem call_all (hc : X.calm = true) : CallR X (.builtin "all") (rAll X.K) := by
  intro pins s σ H xs us Q I r h
  obtain ⟨a, bs, rfl, hq, q⟩ := h
  obtain ⟨u, rfl, ru⟩ := Vals.one r
  cases ru
  obtain ⟨its, rv, p, hz⟩ := I.list hq
  have e := vals_bools rv
  subst e
  have hl : s.heap.IsList a (bs.map Value.bool).toArray := p.isList
  have llt : a < s.heap.objs.size := by obtain ⟨o, e, _⟩ := hl; exact Heap.lt_size e
  have hne : a ≠ s.heap.objs.size := Nat.ne_of_lt llt
  refine call_all_walk (wpAny_pyIter_list hl ?_)
  refine ⟨s.heap.objs.size, [s.heap.objs.size, a], [s.heap.objs.size], (bs.map Value.bool).toArray.size, _, _, fun i => bs.getD i false, rfl, Walks.list (by simpa using I.ok.hd hc) _ a hne _, ⟨⟨_, Heap.get?_push_size _ rfl, rfl, rfl⟩, hl.at fun o e => Heap.get?_push_of_some _ e⟩, ?_, ?_⟩
  · intro i v s' Q' E' hv hQ
    have : v = Value.bool (bs.getD i false) := by
      have hv' : (bs.map Value.bool)[i]? = some v := by simpa using hv
      rw [List.getElem?_map] at hv'
      cases hb : bs[i]? with
      | none => rw [hb] at hv'; cases hv'
      | some b => rw [hb] at hv'; cases hv'; rw [List.getD_eq_getElem?_getD, hb]; rfl
    subst this
    exact wpAny_truthy_bool hQ
  · intro h' tk kp
    have e : (List.range (bs.map Value.bool).toArray.size).all (fun i => bs.getD i false) = bs.all id := by
      have hs : (bs.map Value.bool).toArray.size = bs.length := by simp
      rw [hs]
      rw [Bool.eq_iff_iff, List.all_eq_true, List.all_eq_true]
      constructor
      · intro h b hb
        obtain ⟨i, hi, e⟩ := List.getElem_of_mem hb
        have := h i (List.mem_range.mpr hi)
        rw [List.getD_eq_getElem?_getD, List.getElem?_eq_getElem hi, e] at this
        exact this
      · intro h i hi
        have hi := List.mem_range.mp hi
        rw [List.getD_eq_getElem?_getD, List.getElem?_eq_getElem hi]
        exact h _ (List.getElem_mem hi)
    rw [e]
    refine ⟨.bl (bs.all id), H, I.kept (t' := tk) fun b o e => ?_, rfl, q⟩
    exact kp b o (by simpa using Nat.ne_of_lt (Heap.lt_size e)) (Heap.get?_push_of_some _ e)
end L2
namespace U
open PySem PySem.Spec PyProof.Rows L2
variable {B : Bs} {X : Cx}
theorem rps_bools {K : PySem.W.Frag} {H : Hp} : ∀ {bs : List Bool} {us : List V}, RPs K H (bs.map PV.bl) us → us = bs.map V.bl
  | [], us, h => by simpa [RPs] using h
  | b :: bs, us, h => by
    simp only [List.map_cons, RPs, RP] at h
    obtain ⟨u, r, rfl, rfl, h2⟩ := h
    rw [rps_bools h2]; rfl
def uAll : List PV → PHp → VK' → Prop := arg1 fun x H Q => match x with
  | .ref a => ∃ bs : List Bool, H a = some (.lst (bs.map PV.bl)) ∧ Q (.bl (bs.all id)) H
  | _ => False
theorem vc_all {K : PySem.W.Frag} : VC K B uAll (rAll K) := by
  intro σ' σ H' H xs' xs Q' Q s r h k
  obtain ⟨x', x, rfl, rfl, rx, h⟩ := arg1.ex h r
  cases x' with
  | ref a =>
    obtain ⟨bs, ea, q⟩ := h
    simp only [RP] at rx
    subst rx
    obtain ⟨us, e, r2⟩ := s.hp _ _ ea
    rw [rps_bools r2] at e
    exact ⟨a, bs, rfl, .inl (.inl e), k _ _ _ _ q (by simp [RP]) s (Ev.refl _ _)⟩
  | _ => exact h.elim
end U


namespace SP
open PySem
def hs : List Int := [-1950498447580522560, 7204814214171964562, -3550055125485641917, -4734289103435588629, -1440771752368011620,
  8409376899596376432, 1773351652666409796, -6333845781340707986, 3516302870623680066, 1079245023883434373,
  -3119722376306286570, 173794974761290439, -8422800446983873125, 7586885779985432798, -1009709641759730766]
def prs : List (Int × Int) := [(0, 1), (0, 2), (1, 2), (0, 3), (1, 3), (2, 3), (0, 4), (1, 4), (2, 4), (3, 4), (0, 5), (1, 5), (2, 5), (3, 5), (4, 5)]
def hp (p : Int × Int) : Int := reduceHash (Builtin.Tuple.tupleHashOf [p.1, p.2])
theorem hs_eq : prs.map hp = hs := by decide +kernel
theorem hp_mem {p : Int × Int} (h : p ∈ prs) : hp p ∈ hs := by rw [← hs_eq]; exact List.mem_map.mpr ⟨p, h, rfl⟩
theorem hp_inj : ∀ p ∈ prs, ∀ q ∈ prs, hp p = hp q → p = q := by decide +kernel
theorem mem_prs {u v : Int} (h0 : 0 ≤ u) (h1 : u < v) (h2 : v < 6) : (u, v) ∈ prs := by
  have hv : v = 1 ∨ v = 2 ∨ v = 3 ∨ v = 4 ∨ v = 5 := by omega
  have hu : u = 0 ∨ u = 1 ∨ u = 2 ∨ u = 3 ∨ u = 4 := by omega
  rcases hv with rfl | rfl | rfl | rfl | rfl <;> rcases hu with rfl | rfl | rfl | rfl | rfl <;> first | (exfalso; omega) | decide
def advM (mask : Nat) (p : SetTable.Probe) : SetTable.Probe :=
  if p.more > 0 then { p with j := p.j + 1, more := p.more - 1 } else
  let (i, perturb) := SetTable.leap mask p.i p.perturb
  { p with j := i, more := SetTable.runEnd mask i - i, i, perturb }
theorem adv_eq (t : SetTable) (p : SetTable.Probe) : t.advance p = advM t.mask p := rfl
theorem adv_dummy (mask : Nat) (p : SetTable.Probe) : (advM mask p).dummy = p.dummy := by unfold advM; split <;> rfl
def visit (mask : Nat) : Nat → SetTable.Probe → List Nat
  | 0, _ => []
  | f + 1, p => p.j :: visit mask f (advM mask p)
def startM (mask : Nat) (h : Int) : SetTable.Probe :=
  let i := SetTable.bits h % (mask + 1)
  { j := i, more := SetTable.runEnd mask i - i, i, perturb := SetTable.bits h, dummy := none }
theorem start_eq (t : SetTable) (h : Int) : t.probeStart h = startM t.mask h := rfl
theorem cover7 : ∀ h ∈ hs, ∀ j ∈ List.range 8, j ∈ visit 7 220 (startM 7 h) := by decide +kernel
theorem cover31 : ∀ h ∈ hs, ∀ j ∈ List.range 32, j ∈ visit 31 460 (startM 31 h) := by decide +kernel
theorem all_in : ∀ (n : Nat) (l : List Nat), (∀ j, j < n → j ∈ l) → n ≤ l.length
  | 0, _, _ => Nat.zero_le _
  | n + 1, l, h => by
    have hm := h n (Nat.lt_succ_self n)
    have := all_in n (l.erase n) fun j hj => (List.mem_erase_of_ne (by omega)).mpr (h j (by omega))
    rw [List.length_erase_of_mem hm] at this
    have : 0 < l.length := List.length_pos_of_mem hm
    omega
theorem free_one {n : Nat} {l : List Nat} (h : l.length < n) : ∃ j, j < n ∧ j ∉ l :=
  Classical.byContradiction fun c => absurd (all_in n l fun j hj => Classical.byContradiction fun q => c ⟨j, hj, q⟩) (by omega)
theorem slot_of {t : SetTable} (hd : t.dummies = #[]) (j : Nat) : t.slot j = .empty ∨ ∃ i, t.slot j = .live i ∧ i < t.place.size ∧ j ∈ t.place.toList := by
  unfold SetTable.slot
  dsimp only
  split
  · rename_i h
    have h' := beq_iff_eq.mp h
    obtain ⟨hi, e⟩ := Array.getElem?_eq_some_iff.mp h'
    refine .inr ⟨_, rfl, hi, ?_⟩
    rw [← e]
    exact Array.getElem_mem_toList hi
  · left
    have : SetTable.has t.dummies j = false := by
      rw [hd]; rfl
    rw [this]; rfl
theorem go_empty {t : SetTable} {hashAt : Nat → Int} {h : Int} (hd : t.dummies = #[]) (hn : ∀ i, i < t.place.size → hashAt i ≠ h) : ∀ (fuel : Nat) (p : SetTable.Probe), p.dummy = none →
    (∃ j ∈ visit t.mask fuel p, j ∉ t.place.toList) → ∃ j, SetTable.probe.go t hashAt h fuel p = some (.empty j none)
  | 0, _, _, ⟨_, hj, _⟩ => by simp [visit] at hj
  | f + 1, p, hp, ⟨j, hj, hjn⟩ => by
    unfold SetTable.probe.go
    rcases slot_of hd p.j with e | ⟨i, e, hi, hm⟩
    · rw [e]; dsimp only
      exact ⟨p.j, by rw [hp]⟩
    · rw [e]; dsimp only
      rw [if_neg (by intro q; exact hn i hi (beq_iff_eq.mp q)), adv_eq]
      refine go_empty hd hn f (advM t.mask p) (by rw [adv_dummy]; exact hp) ⟨j, ?_, hjn⟩
      have hj' : j = p.j ∨ j ∈ visit t.mask f (advM t.mask p) := List.mem_cons.mp hj
      rcases hj' with rfl | hj'
      · exact absurd hm hjn
      · exact hj'
theorem probe_ok {t : SetTable} {hashAt : Nat → Int} {h : Int} (hh : h ∈ hs) (hd : t.dummies = #[]) (hn : ∀ i, i < t.place.size → hashAt i ≠ h) (hm : t.mask = 7 ∨ t.mask = 31) (hsz : t.place.size ≤ t.mask) :
    ∃ j, t.probe hashAt h (t.probeStart h) = some (.empty j none) := by
  unfold SetTable.probe
  refine go_empty hd hn _ _ rfl ?_
  obtain ⟨j, hj, hjn⟩ := free_one (n := t.mask + 1) (l := t.place.toList) (by simpa using Nat.lt_succ_of_le hsz)
  refine ⟨j, ?_, hjn⟩
  rw [start_eq]
  rcases hm with e | e
  · rw [e] at hj ⊢
    exact cover7 h hh j (List.mem_range.mpr hj)
  · rw [e] at hj ⊢
    exact cover31 h hh j (List.mem_range.mpr hj)
theorem put_size (t : SetTable) (j : Nat) : (t.put j).1.place.size = t.place.size + 1 := by
  unfold SetTable.put SetTable.insertAt
  dsimp only
  simp only [Array.size_append, Array.size_push, Array.size_extract]
  omega
theorem put_dummies {t : SetTable} (hd : t.dummies = #[]) (j : Nat) : (t.put j).1.dummies = #[] := by
  unfold SetTable.put
  dsimp only
  rw [hd]; rfl
theorem put_rest (t : SetTable) (j : Nat) : (t.put j).1.mask = t.mask ∧ (t.put j).1.plain = t.plain := ⟨rfl, rfl⟩
theorem insertAt_perm {α : Type} (xs : Array α) (p : Nat) (x : α) : (SetTable.insertAt xs p x).toList.Perm (x :: xs.toList) := by
  unfold SetTable.insertAt
  rw [Array.toList_append, Array.toList_push, List.append_assoc]
  have e : xs.toList = (xs.extract 0 p).toList ++ (xs.extract p xs.size).toList := by
    rw [Array.toList_extract, Array.toList_extract]
    unfold List.extract
    rw [List.drop_zero, Nat.sub_zero]
    have e2 : (List.drop p xs.toList).take (xs.size - p) = List.drop p xs.toList := List.take_of_length_le (by rw [List.length_drop]; simp)
    rw [e2, List.take_append_drop]
  rw [e]
  exact List.perm_middle
def runs (mask : Nat) : Nat → Nat → Nat → List Nat
  | 0, _, _ => []
  | f + 1, i, pt => ((List.range (SetTable.runEnd mask i + 1 - i)).map (i + ·)) ++ runs mask f (SetTable.leap mask i pt).1 (SetTable.leap mask i pt).2
theorem coverR : ∀ h ∈ hs, ∀ j ∈ List.range 32, j ∈ runs 31 46 (SetTable.bits h % 32) (SetTable.bits h) := by decide +kernel
theorem free_some {mask : Nat} {owner : Array (Option Nat)} : ∀ (f i pt : Nat), (∃ j ∈ runs mask f i pt, (owner.getD j (some 0)).isNone = true) → ∃ j, SetTable.layClean.free mask owner f i pt = some j ∧ (owner.getD j (some 0)).isNone = true
  | 0, _, _, ⟨_, hj, _⟩ => by simp [runs] at hj
  | f + 1, i, pt, ⟨j, hj, hn⟩ => by
    unfold SetTable.layClean.free
    cases e : (List.range (SetTable.runEnd mask i + 1 - i)).find? fun k => (owner.getD (i + k) (some 0)).isNone with
    | some k =>
      dsimp only
      exact ⟨i + k, rfl, by have := List.find?_some e; exact this⟩
    | none =>
      dsimp only
      rcases List.mem_append.mp hj with hj | hj
      · obtain ⟨k, hk, rfl⟩ := List.mem_map.mp hj
        have := List.find?_eq_none.mp e k hk
        exact absurd hn this
      · exact free_some f _ _ ⟨j, hj, hn⟩
theorem set_perm {α : Type} : ∀ (l : List (Option α)) (j : Nat) (k : α), l[j]? = some none → ((l.set j (some k)).filterMap id).Perm (k :: l.filterMap id)
  | [], _, _, h => by simp at h
  | none :: l, 0, k, _ => by simp
  | some x :: l, 0, k, h => by simp at h
  | none :: l, j + 1, k, h => by
    have := set_perm l j k (by simpa using h)
    simpa using this
  | some x :: l, j + 1, k, h => by
    have := set_perm l j k (by simpa using h)
    simp only [List.set_cons_succ, List.filterMap_cons_some (f := id) rfl]
    exact (this.cons x).trans (List.Perm.swap k x _)
theorem filterMap_none_lt {α : Type} : ∀ (l : List (Option α)), (l.filterMap id).length < l.length → ∃ j : Nat, l[j]? = some none
  | [], h => by simp at h
  | none :: l, _ => ⟨0, rfl⟩
  | some x :: l, h => by
    have h' : (l.filterMap id).length < l.length := by simpa using h
    obtain ⟨j, e⟩ := filterMap_none_lt l h'
    exact ⟨j + 1, by simpa using e⟩
def layStep (mask : Nat) (acc : Option (Array (Option Nat) × Nat)) (h : Int) : Option (Array (Option Nat) × Nat) := do
  let (owner, k) ← acc
  let j ← SetTable.layClean.free mask owner (SetTable.turns mask) (SetTable.bits h % (mask + 1)) (SetTable.bits h)
  pure (owner.setIfInBounds j (some k), k + 1)
theorem lay_fold : ∀ (l : List Int) (owner : Array (Option Nat)) (k : Nat), (∀ h ∈ l, h ∈ hs) → owner.size = 32 → (owner.toList.filterMap id).Perm (List.range k) → k + l.length ≤ 32 →
    ∃ ow', l.foldl (layStep 31) (some (owner, k)) = some (ow', k + l.length) ∧ ow'.size = 32 ∧ (ow'.toList.filterMap id).Perm (List.range (k + l.length))
  | [], owner, k, _, hs, hp, _ => ⟨owner, rfl, hs, hp⟩
  | h :: l, owner, k, hh, hsz, hp, hl => by
    have hlen : (owner.toList.filterMap id).length = k := by rw [hp.length_eq, List.length_range]
    obtain ⟨j, hj⟩ := filterMap_none_lt owner.toList (by rw [hlen]; simp only [List.length_cons] at hl; rw [show owner.toList.length = 32 by simpa using hsz]; omega)
    have hjlt : j < 32 := by
      have := (List.getElem?_eq_some_iff.mp hj).1
      simpa [hsz] using this
    have hnone : ∀ j, (owner.getD j (some 0)).isNone = true → owner.toList[j]? = some none := fun j q => by
      rw [Array.getElem?_toList]
      unfold Array.getD at q
      split at q
      · rename_i hlt
        rw [Array.getElem?_eq_getElem hlt]
        cases e : owner[j] with
        | none => rfl
        | some x =>
          have q' : (owner[j]).isNone = true := q
          rw [e] at q'; cases q'
      · cases q
    obtain ⟨j', ej, hn⟩ := free_some (mask := 31) (owner := owner) 46 (SetTable.bits h % 32) (SetTable.bits h) ⟨j, coverR h (hh h List.mem_cons_self) j (List.mem_range.mpr hjlt), by
      unfold Array.getD
      rw [dif_pos (by rw [hsz]; exact hjlt)]
      rw [Array.getElem?_toList, Array.getElem?_eq_getElem (by rw [hsz]; exact hjlt)] at hj
      have := Option.some.inj hj
      show (owner[j]).isNone = true
      rw [this]; rfl⟩
    have est : layStep 31 (some (owner, k)) h = some (owner.setIfInBounds j' (some k), k + 1) := by
      unfold layStep
      show (SetTable.layClean.free 31 owner (SetTable.turns 31) (SetTable.bits h % 32) (SetTable.bits h) >>= fun j => pure (owner.setIfInBounds j (some k), k + 1)) = _
      rw [show SetTable.turns 31 = 46 from rfl, ej]
      rfl
    have hp' : ((owner.setIfInBounds j' (some k)).toList.filterMap id).Perm (List.range (k + 1)) := by
      rw [Array.toList_setIfInBounds]
      refine (set_perm _ _ _ (hnone j' hn)).trans ?_
      rw [List.range_succ]
      exact (hp.cons k).trans (List.perm_append_singleton k _).symm
    obtain ⟨ow', e1, e2, e3⟩ := lay_fold l (owner.setIfInBounds j' (some k)) (k + 1) (fun x hx => hh x (List.mem_cons_of_mem _ hx)) (by simpa using hsz) hp' (by simp only [List.length_cons] at hl; omega)
    refine ⟨ow', ?_, e2, ?_⟩
    · rw [List.foldl_cons, est, e1]
      simp only [List.length_cons]
      congr 2
      omega
    · rw [List.length_cons, show k + (l.length + 1) = k + 1 + l.length by omega]; exact e3
theorem relaid_ok {t : SetTable} {hashes : Array Int} {wanted : Nat} (hw : SetTable.sizeAbove wanted = 32) (hh : ∀ h ∈ hashes.toList, h ∈ hs) (hl : hashes.size ≤ 32) :
    ∃ t' order, t.relaid hashes wanted = some (t', order) ∧ t'.mask = 31 ∧ t'.dummies = #[] ∧ t'.place.size = hashes.size ∧ order.toList.Perm (List.range hashes.size) ∧ t'.plain = t.plain := by
  have e0 : (Array.replicate 32 (none : Option Nat)).toList.filterMap id = [] := by decide
  obtain ⟨ow, e1, e2, e3⟩ := lay_fold hashes.toList (Array.replicate 32 none) 0 hh (by simp) (by rw [e0]; exact List.Perm.refl _) (by simpa using hl)
  rw [Nat.zero_add] at e1 e3
  have hlc : SetTable.layClean 31 hashes = some ow := by
    unfold SetTable.layClean
    rw [← Array.foldl_toList]
    show Option.map (·.1) (hashes.toList.foldl (layStep 31) (some (Array.replicate 32 none, 0))) = _
    rw [e1]; rfl
  have live2 : ((List.range 32).filterMap fun j => (ow.getD j none).map ((j, ·) : Nat → Nat × Nat)).map (·.2) = ow.toList.filterMap id := by
    have gen : ∀ (l : List (Option Nat)) (n : Nat), ((l.zipIdx n).filterMap (fun q => q.1.map ((q.2, ·) : Nat → Nat × Nat))).map (·.2) = l.filterMap id := by
      intro l
      induction l with
      | nil => intro n; rfl
      | cons a l ih =>
        intro n
        rw [List.zipIdx_cons]
        cases a with
        | none => simpa using ih (n + 1)
        | some x => simpa using ih (n + 1)
    rw [← gen ow.toList 0]
    congr 1
    have ez : ow.toList.zipIdx 0 = (List.range 32).map fun j => (ow.getD j none, j) := by
      apply List.ext_getElem?
      intro j
      rw [List.getElem?_zipIdx, List.getElem?_map]
      by_cases hj : j < 32
      · rw [List.getElem?_range hj, Array.getElem?_toList, Array.getElem?_eq_getElem (by rw [e2]; exact hj)]
        simp [Array.getD, e2, hj]
      · rw [List.getElem?_eq_none (show ow.toList.length ≤ j by simpa [e2] using Nat.le_of_not_lt hj), List.getElem?_eq_none (show (List.range 32).length ≤ j by simpa using Nat.le_of_not_lt hj)]
        rfl
    rw [ez, List.filterMap_map]
    rfl
  have hlen : (ow.toList.filterMap id).length = hashes.size := by rw [e3.length_eq, List.length_range]; simp
  refine ⟨{ mask := 31, place := (((List.range 32).filterMap fun j => (ow.getD j none).map ((j, ·) : Nat → Nat × Nat)).map (·.1)).toArray, dummies := #[], finger := t.finger, led := t.led, moves := t.movedTo 31, plain := t.plain },
    (((List.range 32).filterMap fun j => (ow.getD j none).map ((j, ·) : Nat → Nat × Nat)).map (·.2)).toArray, by
    unfold SetTable.relaid SetTable.laid
    rw [hw]
    show (SetTable.layClean 31 hashes >>= _) = _
    rw [hlc]
    rfl, rfl, rfl, ?_, ?_, rfl⟩
  · show (((List.range 32).filterMap fun j => (ow.getD j none).map ((j, ·) : Nat → Nat × Nat)).map (·.1)).toArray.size = _
    rw [List.size_toArray, List.length_map, ← hlen, ← live2, List.length_map]
  · show ((((List.range 32).filterMap fun j => (ow.getD j none).map ((j, ·) : Nat → Nat × Nat)).map (·.2)).toArray).toList.Perm _
    rw [live2]
    have : hashes.size = hashes.toList.length := by simp
    rw [this]
    exact e3
theorem order_perm {α : Type} {es : Array α} {order : Array Nat} (h : order.toList.Perm (List.range es.size)) : (order.filterMap (es[·]?)).toList.Perm es.toList := by
  have e : (order.filterMap (es[·]?)).toList = order.toList.filterMap (es[·]?) := by simp
  rw [e]
  refine (h.filterMap _).trans ?_
  have : (List.range es.size).filterMap (es[·]?) = es.toList := by
    apply List.ext_getElem?
    intro i
    have gen : ∀ n, n ≤ es.size → (List.range n).filterMap (es[·]?) = es.toList.take n := by
      intro n
      induction n with
      | zero => intro _; simp
      | succ n ih =>
        intro hn
        rw [List.range_succ, List.filterMap_append, ih (by omega), List.take_add_one]
        simp [Array.getElem?_eq_getElem (show n < es.size by omega)]
    rw [gen es.size (Nat.le_refl _), List.take_of_length_le (by simp)]
  rw [this]
end SP


namespace SP
open PySem PyProof.Rows
set_option maxRecDepth 100000
section
variable {prog : Program} {w : World} {A : Around} {E : Value → Shared → Prop} {s : Shared}
structure PSet (h : Heap) (S : Addr) (done : List (Int × Int)) : Prop where
  is : ∃ es ep t, h.get? S = some { cls := .type "set", dict := none, data := .set es ep t } ∧ t.dummies = #[] ∧ t.place.size = es.size ∧ es.size = done.length ∧ ((t.mask = 7 ∧ es.size ≤ 4) ∨ (t.mask = 31 ∧ es.size ≤ 18)) ∧
    ∀ e ∈ es.toList, ∃ p ∈ done, e.1 = hp p
theorem fits_of {t : SetTable} {n : Nat} (hd : t.dummies = #[]) (h1 : t.place.size = n) (h2 : n ≤ t.mask) : t.fits n = true := by
  unfold SetTable.fits SetTable.fill
  rw [hd]
  simp [h1, h2]
theorem hash_pair (u v : Int) (h : (u, v) ∈ prs) : tupleKeyHash (intKind prog w) [u, v] = hp (u, v) := by
  have key : ∀ p ∈ prs, hashInt p.1 = p.1 ∧ hashInt p.2 = p.2 := by decide +kernel
  obtain ⟨h1, h2⟩ := key _ h
  show reduceHash (Builtin.Tuple.tupleHashOf [hashInt u, hashInt v]) = reduceHash (Builtin.Tuple.tupleHashOf [u, v])
  have h1' : hashInt u = u := h1
  have h2' : hashInt v = v := h2
  rw [h1', h2']
theorem ints_of {ks : List Int} {vs : List Value} (h : ItemsAre (intKind prog w) ks vs) : ∀ x ∈ vs, ∃ i t, x = .int i t := by
  induction h with
  | nil => intro x hx; simp at hx
  | cons h1 _ ih =>
    intro x hx
    rcases List.mem_cons.mp hx with rfl | hx
    · obtain ⟨t, rfl⟩ := Value.isInt_shape h1
      exact ⟨_, t, rfl⟩
    · exact ih x hx
theorem hashByValue_pair {a : Addr} {u v : Int} {Q : Bool → Shared → Prop} (hk : IsTupleKey (intKind prog w) s.heap [u, v] a) (h : Q true s) : wpAny (model prog w) A (hashByValue 8 (.ref a)) Q E s := by
  have hT := hk.typeIs
  obtain ⟨o, items, n, ho, hc, hd, hi⟩ := hk
  unfold hashByValue
  refine wpAny_bind (wpAny_specialOf hT F.slot_tuple_hash.lookup ?_)
  show wpAny _ _ (seqItems? (.ref a) >>= _) _ _ s
  refine wpAny_bind (wpAny_seqItems ho hd ?_)
  refine wpAny_bind ?_
  show wpAny _ _ (forIn items _ _) _ _ s
  rw [← Array.forIn_toList]
  have hall := ints_of hi
  refine wpAny_forIn_list _ (fun rest r s' => r.1 = none ∧ s' = s ∧ ∀ v ∈ rest, ∃ i t, v = .int i t) _ ?_ ?_ _ _ ⟨rfl, rfl, hall⟩
  · rintro v rest r s' ⟨hr, rfl, hall⟩
    obtain ⟨i, t, rfl⟩ := hall v List.mem_cons_self
    show wpAny _ _ (pure true >>= _) _ _ _
    refine wpAny_bind (wpAny_pure ?_)
    simp only [Bool.not_true, Bool.false_eq_true, if_false]
    exact wpAny_pure ⟨rfl, rfl, fun u hu' => hall u (List.mem_cons_of_mem _ hu')⟩
  · rintro ⟨r1, r2⟩ s' ⟨hr, rfl, _⟩
    simp only at hr
    subst hr
    exact wpAny_pure h
theorem setAdd_pair {S a : Addr} {done : List (Int × Int)} {u v : Int} {Q : Bool → Shared → Prop} (hu : A.units < cLine) (hk : IsTupleKey (intKind prog w) s.heap [u, v] a) (hP : PSet s.heap S done) (hin : (u, v) ∈ prs) (hd : ∀ p ∈ done, p ∈ prs)
    (hn : (u, v) ∉ done) (hlen : done.length < 15)
    (h : ∀ h' tk, Heap.SameBut S s.heap h' → PSet h' S (done ++ [(u, v)]) → Q true { s with heap := h', toks := tk }) : wpAny (model prog w) A (setAdd S (.ref a)) Q E s := by
  obtain ⟨es, ep, t, ho, htd, hts, hes, hm, hh⟩ := hP.is
  have hsa : S ≠ a := by
    rintro rfl
    obtain ⟨o, items, n, ho', hc, _⟩ := hk
    rw [ho] at ho'; cases ho'; exact absurd (show Value.type "set" = Value.type "tuple" from hc) (by decide)
  unfold setAdd
  refine wpAny_holding (wpAny_bind (wpAny_pyHash_tuple hu hk ?_))
  rw [hash_pair u v hin]
  generalize hs' : ({ s with toks := s.toks + ([u, v].length + 1) } : Shared) = s1
  have e1 : s1.heap = s.heap := by rw [← hs']
  have ho1 : s1.heap.get? S = some { cls := .type "set", dict := none, data := .set es ep t } := by rw [e1]; exact ho
  have hk1 : IsTupleKey (intKind prog w) s1.heap [u, v] a := by rw [e1]; exact hk
  have hmk : es.size ≤ t.mask := by omega
  have hf : t.fits es.size = true := fits_of htd hts hmk
  unfold setAddHashed
  refine wpAny_holding ?_
  show wpAny _ _ (setAddHashedIn S (.ref a) (hp (u, v)) (99999 + 1)) _ _ _
  unfold setAddHashedIn
  refine wpAny_bind (wpAny_setState_of ho1 rfl hf ?_)
  dsimp only
  have hbs : byScan (.ref a) es = false := rfl
  rw [hbs]
  simp only [Bool.false_eq_true, if_false]
  obtain ⟨j, hj⟩ := probe_ok (t := t) (hashAt := fun i => (es[i]?.map (·.1)).getD 0) (h := hp (u, v)) (hp_mem hin) htd (fun i hi q => by
    rw [hts] at hi
    rw [Array.getElem?_eq_getElem hi] at q
    have q' : (es[i]).1 = hp (u, v) := q
    obtain ⟨p, hpd, e⟩ := hh es[i] (Array.getElem_mem_toList hi)
    rw [e] at q'
    exact hn (hp_inj p (hd p hpd) _ hin q' ▸ hpd)) (by omega) (by omega)
  unfold setSearch
  show wpAny _ _ (setSearchFrom S (.ref a) (hp (u, v)) true (99999 + 1) none >>= _) _ _ _
  unfold setSearchFrom
  refine wpAny_bind (wpAny_bind (wpAny_setState_of ho1 rfl hf ?_))
  dsimp only
  have hgw : t.gaveWay = false := by
    unfold SetTable.gaveWay
    rcases hm with hm | hm <;> rw [hm.1] <;> rfl
  rw [hgw, if_neg (by decide)]
  generalize hX : t.probe _ (hp (u, v)) (none.getD (t.probeStart (hp (u, v)))) = X0
  have hX' : X0 = some (.empty j none) := by rw [← hX]; exact hj
  subst hX'
  dsimp only
  refine wpAny_pure ?_
  dsimp only
  refine wpAny_bind (wpAny_setState_of ho1 rfl hf ?_)
  dsimp only
  -- the new table
  have hps := put_size t j
  have hpd := put_dummies htd j
  obtain ⟨hpm, hpp⟩ := put_rest t j
  have hip := insertAt_perm es (t.put j).2 (hp (u, v), Value.ref a)
  have his : (SetTable.insertAt es (t.put j).2 (hp (u, v), Value.ref a)).size = es.size + 1 := by
    have := hip.length_eq
    simpa using this
  have hash' : ∀ e ∈ (SetTable.insertAt es (t.put j).2 (hp (u, v), Value.ref a)).toList, ∃ p ∈ done ++ [(u, v)], e.1 = hp p := fun e he => by
    rcases List.mem_cons.mp (hip.mem_iff.mp he) with rfl | he
    · exact ⟨(u, v), by simp, rfl⟩
    · obtain ⟨p, h1, h2⟩ := hh e he
      exact ⟨p, List.mem_append_left _ h1, h2⟩
  have last : wpAny (model prog w) A (do
      storeSet S (SetTable.insertAt es (t.put j).2 (hp (u, v), Value.ref a)) (t.put j).1
      if (!false && (t.put j).1.tooFull) = true then do
        setRelay S (SetTable.grown (es.size + 1))
        pure true
      else pure true) Q E s1 := by
    refine wpAny_bind (wpAny_storeSet_of ho1 rfl ?_ (by rw [his, sizeLine_eq]; omega))
    have hg : (s1.heap.update S (Obj.putSet (SetTable.insertAt es (t.put j).2 (hp (u, v), Value.ref a)) (t.put j).1)).get? S = some { cls := .type "set", dict := none, data := .set (SetTable.insertAt es (t.put j).2 (hp (u, v), Value.ref a)) (ep + 1) (t.put j).1 } :=
      Heap.get?_update_self _ ho1 rfl
    have sb1 : Heap.SameBut S s.heap (s1.heap.update S (Obj.putSet (SetTable.insertAt es (t.put j).2 (hp (u, v), Value.ref a)) (t.put j).1)) := by rw [e1]; exact Heap.SameBut.update ..
    have hs1 : ∀ hh' : Heap, ({ s1 with heap := hh' } : Shared) = { s with heap := hh', toks := s1.toks } := fun hh' => by rw [← hs']
    by_cases hfull : (t.put j).1.tooFull = true
    · rw [hfull, if_pos (by rfl)]
      have hfu : ((t.put j).1.place.size + (t.put j).1.dummies.size) * 5 ≥ (t.put j).1.mask * 3 := by
        have q := hfull
        unfold SetTable.tooFull SetTable.fill at q
        exact of_decide_eq_true q
      rw [hps, hpd, hpm, hts] at hfu
      have hz : (#[] : Array Nat).size = 0 := rfl
      rw [hz] at hfu
      have h5 : t.mask = 7 ∧ es.size = 4 := by omega
      have hw : SetTable.grown (es.size + 1) = 20 := by rw [h5.2]; rfl
      rw [hw]
      have hf2 : (t.put j).1.fits (SetTable.insertAt es (t.put j).2 (hp (u, v), Value.ref a)).size = true := fits_of hpd (by rw [hps, his, hts]) (by rw [his, hpm]; omega)
      obtain ⟨t', order, r1, r2, r3, r4, r5, r6⟩ := relaid_ok (t := (t.put j).1) (hashes := (SetTable.insertAt es (t.put j).2 (hp (u, v), Value.ref a)).map (·.1)) (wanted := 20) rfl (fun h0 hm0 => by
        rw [Array.toList_map] at hm0
        obtain ⟨e, he, rfl⟩ := List.mem_map.mp hm0
        obtain ⟨p, hp1, hp2⟩ := hash' e he
        rw [hp2]
        rcases List.mem_append.mp hp1 with q | q
        · exact hp_mem (hd p q)
        · rw [List.mem_singleton.mp q]; exact hp_mem hin) (by rw [Array.size_map, his]; omega)
      rw [Array.size_map] at r4 r5
      have op := order_perm r5
      have osz : (order.filterMap ((SetTable.insertAt es (t.put j).2 (hp (u, v), Value.ref a))[·]?)).size = (SetTable.insertAt es (t.put j).2 (hp (u, v), Value.ref a)).size := by
        rw [← Array.length_toList, ← Array.length_toList]; exact op.length_eq
      unfold setRelay
      refine wpAny_bind (wpAny_bind (wpAny_setState_of hg rfl hf2 ?_))
      dsimp only
      rw [if_neg (show ¬ SetTable.sizeAbove 20 > sizeLine by rw [sizeLine_eq]; decide)]
      refine wpAny_bind ?_
      rw [r1]
      show wpAny _ _ (if (Array.size (order.filterMap ((SetTable.insertAt es (t.put j).2 (hp (u, v), Value.ref a))[·]?)) != (SetTable.insertAt es (t.put j).2 (hp (u, v), Value.ref a)).size) = true then _ else _) _ _ _
      rw [if_neg (by rw [osz]; simp)]
      refine wpAny_pure ?_
      dsimp only
      refine wpAny_storeSet_of hg rfl ?_ (by rw [osz, his, sizeLine_eq]; omega)
      refine wpAny_pure ?_
      have hg3 := Heap.get?_update_self (Obj.putSet (order.filterMap ((SetTable.insertAt es (t.put j).2 (hp (u, v), Value.ref a))[·]?)) t') hg rfl
      rw [hs1]
      refine h _ _ (sb1.trans (Heap.SameBut.update ..)) ⟨_, _, _, hg3, r3, by rw [r4, osz], by rw [osz, his, hes]; simp, .inr ⟨r2, by rw [osz, his]; omega⟩, fun e he => hash' e (op.mem_iff.mp he)⟩
    · rw [Bool.not_eq_true] at hfull
      rw [hfull, if_neg (by decide)]
      refine wpAny_pure ?_
      rw [hs1]
      refine h _ _ sb1 ⟨_, _, _, hg, hpd, by rw [hps, his, hts], by rw [his, hes]; simp, ?_, hash'⟩
      have hfu : ¬ ((t.put j).1.place.size + (t.put j).1.dummies.size) * 5 ≥ (t.put j).1.mask * 3 := by
        have q := hfull
        unfold SetTable.tooFull SetTable.fill at q
        exact of_decide_eq_false q
      rw [hps, hpd, hpm, hts] at hfu
      have hz : (#[] : Array Nat).size = 0 := rfl
      rw [hz] at hfu
      rw [his, hpm]
      omega
  by_cases hpl : (t.put j).1.plain = true
  · rw [if_pos hpl]
    refine wpAny_bind (hashByValue_pair hk1 ?_)
    exact last
  · rw [if_neg hpl]
    refine wpAny_bind (wpAny_pure ?_)
    exact last
def TupsAt (h : Heap) (vs : List Value) (ps : List (Int × Int)) : Prop := ∀ (i : Nat) (v : Value), vs[i]? = some v → ∃ a p, v = .ref a ∧ ps[i]? = some p ∧ IsTupleKey (intKind prog w) h [p.1, p.2] a
theorem key_same {h h' : Heap} {S a : Addr} {u v : Int} {es : Array (Int × Value)} {ep : Nat} {t : SetTable} (x : IsTupleKey (intKind prog w) h [u, v] a) (ho : h.get? S = some { cls := .type "set", dict := none, data := .set es ep t })
    (sb : ∀ b o, b ≠ S → h.get? b = some o → h'.get? b = some o) : IsTupleKey (intKind prog w) h' [u, v] a := by
  obtain ⟨o, items, n, e, c, d, i⟩ := x
  refine ⟨o, items, n, sb a o ?_ e, c, d, i⟩
  rintro rfl
  rw [ho] at e; cases e; cases d
theorem fill_loop {S I l : Addr} {vs : List Value} {ps : List (Int × Int)} {R : Result → Shared → Prop} (hu : A.units + 1 < cLine) (hh : A.in1.handled = none) (hlen : vs.length = ps.length) (hl15 : ps.length ≤ 15) (hnd : ps.Nodup) (hin : ∀ p ∈ ps, p ∈ prs)
    (hSI : S ≠ I) (hSl : S ≠ l) (hlI : l ≠ I) : ∀ (k i : Nat) (s : Shared), ps.length - i = k → i ≤ ps.length → s.heap.IsListIter I l i → s.heap.IsList l vs.toArray → TupsAt (prog := prog) (w := w) s.heap vs ps → PSet s.heap S (ps.take i) →
      (∀ h' tk, (∀ b o, b ≠ S → b ≠ I → s.heap.get? b = some o → h'.get? b = some o) → PSet h' S ps → R (.ok (.ret .none)) { s with heap := h', toks := tk }) →
      codeAny (model prog w) A (.builtin "set.update.loop" ⟨[.ref S, .ref I], []⟩) R s := by
  intro k
  induction k with
  | zero =>
    intro i s hk hi hit hl hT hP hR
    have e : i = ps.length := by omega
    subst e
    rw [List.take_length] at hP
    refine codeAny_builtin F.entry_set_update_loop ?_
    rw [Around.under_plainId F.plain_set_update_loop _]
    show wpAny _ A.in1 (pyNext (.ref I) >>= _) _ _ s
    refine wpAny_bind (wpAny_pyNext_list_end hh hit hl (by simp [hlen]) fun h' eb => ?_)
    show wpAny _ A.in1 (ret Value.none) _ _ _
    refine wpAny_pure (hR h' s.toks (fun b o _ hb e => eb b o hb e) ?_)
    obtain ⟨es, ep, t, ho, r⟩ := hP.is
    exact ⟨es, ep, t, eb S _ hSI ho, r⟩
  | succ k ih =>
    intro i s hk hi hit hl hT hP hR
    have hlt : i < ps.length := by omega
    have hvi : vs[i]? = some vs[i] := List.getElem?_eq_getElem (by omega)
    obtain ⟨a, p, ev, ep, key⟩ := hT i _ hvi
    refine codeAny_builtin F.entry_set_update_loop ?_
    rw [Around.under_plainId F.plain_set_update_loop _]
    show wpAny _ A.in1 (pyNext (.ref I) >>= _) _ _ s
    refine wpAny_bind (wpAny_pyNext_list_item hit hl (x := .ref a) (by rw [← ev]; simp) fun h1 hit1 sb1 => ?_)
    have k1 : ∀ b o, b ≠ I → s.heap.get? b = some o → h1.get? b = some o := fun b o hb e => sb1.extBut b o hb e
    obtain ⟨es, epo, t, ho, r⟩ := id hP.is
    have hP1 : PSet h1 S (ps.take i) := ⟨es, epo, t, k1 S _ hSI ho, r⟩
    have key1 : IsTupleKey (intKind prog w) h1 [p.1, p.2] a := by
      obtain ⟨o, items, n, e, c, d, ii⟩ := key
      refine ⟨o, items, n, k1 a o ?_ e, c, d, ii⟩
      rintro rfl
      obtain ⟨oi, hoi, hci, _⟩ := hit
      rw [hoi] at e; cases e; rw [hci] at c; exact absurd c (by decide)
    show wpAny _ A.in1 (holding [Value.ref a] (setAdd S (.ref a)) >>= _) _ _ _
    have hmem : p ∈ ps := List.mem_of_getElem? ep
    have hnot : p ∉ ps.take i := fun hm => by
      obtain ⟨j, hj, e⟩ := List.mem_iff_getElem.mp hm
      rw [List.getElem_take] at e
      rw [List.length_take] at hj
      obtain ⟨hi', e'⟩ := List.getElem?_eq_some_iff.mp ep
      have := (List.getElem_inj hnd (h₀ := by omega) (h₁ := hi')).mp (e.trans e'.symm)
      omega
    refine wpAny_bind (wpAny_holding (setAdd_pair (u := p.1) (v := p.2) (A := A.in1) (by show A.units + 1 < cLine; exact hu) key1 hP1 (hin p hmem) (fun q hq => hin q (List.mem_of_mem_take hq)) hnot (by rw [List.length_take]; omega) fun h2 tk sb2 hP2 => ?_))
    have k2 : ∀ b o, b ≠ S → h1.get? b = some o → h2.get? b = some o := fun b o hb e => sb2.extBut b o hb e
    have et : ps.take i ++ [p] = ps.take (i + 1) := by rw [List.take_add_one, ep]; rfl
    refine wpAny_pure ⟨plainId_quiet F.plain_set_update_loop _, ih (i + 1) { s with heap := h2, toks := tk } (by omega) (by omega) (hit1.extBut (fun b o hb e => k2 b o hb e) (Ne.symm hSI)) ?_ ?_ (by rw [← et]; exact hP2) ?_⟩
    · exact (hl.extBut (fun b o hb e => k1 b o hb e) hlI).extBut (fun b o hb e => k2 b o hb e) (Ne.symm hSl)
    · intro j v hv
      obtain ⟨a', p', e1', e2', key'⟩ := hT j v hv
      refine ⟨a', p', e1', e2', key_same ?_ (k1 S _ hSI ho) k2⟩
      obtain ⟨o, items, n, e, c, d, ii⟩ := key'
      refine ⟨o, items, n, k1 a' o ?_ e, c, d, ii⟩
      rintro rfl
      obtain ⟨oi, hoi, hci, _⟩ := hit
      rw [hoi] at e; cases e; rw [hci] at c; exact absurd c (by decide)
    · intro h3 tk3 kp hP3
      exact hR h3 tk3 (fun b o hb hb' e => kp b o hb hb' (k2 b o hb (k1 b o hb' e))) hP3
set_option maxHeartbeats 4000000 in
theorem call_set_pairs {l : Addr} {vs : List Value} {ps : List (Int × Int)} {Q : Value → Shared → Prop} (hu : A.units + 8 < cLine) (hh : A.handled = none) (hl : s.heap.IsList l vs.toArray) (hlen : vs.length = ps.length) (hl15 : ps.length ≤ 15)
    (hnd : ps.Nodup) (hin : ∀ p ∈ ps, p ∈ prs) (hT : TupsAt (prog := prog) (w := w) s.heap vs ps)
    (h : ∀ h' tk, (∀ b o, b < s.heap.objs.size → s.heap.get? b = some o → h'.get? b = some o) → PSet h' s.heap.objs.size ps → Q (.ref s.heap.objs.size) { s with heap := h', toks := tk }) :
    wpAny (model prog w) A (call (.type "set") [.ref l]) Q E s := by
  obtain ⟨c0, tl0, mro0⟩ := F.called_set.mro
  have made0 := F.called_set.made
  have sub0 := F.called_set.sub
  have nt0 := F.called_set.notType
  have cc0 := F.called_set.canCreate
  have tc0 := F.typeCall_set_1 (.ref l)
  refine wpAny_call (codeAny_of_tree ?_)
  show wpAny _ _ (callAny (.type "set") _) _ _ _
  refine wpAny_pure ⟨Code.quiet_builtin _ (by decide +kernel), codeAny_builtin F.entry_type_call ?_⟩
  rw [Around.under_plain (weight_type_call_type "set" [.ref l] []) rfl]
  repeat (any_goals (first | assumption | wp_step))
  refine codeAny_mono (code_set_new_1 (.ref l) (E := E) (Q₁ := fun obj s1 => ∃ led : Bool, obj = .ref s.heap.objs.size ∧
    s1 = { s with heap := s.heap.push { cls := .type "set", dict := none, data := .set #[] 0 (.fresh 0 0 led) } }) fun led => ⟨led, rfl, rfl⟩) fun r s1 hr => ?_
  cases r with
  | error e => exact hr
  | ok fl =>
    cases fl with
    | ret obj =>
      obtain ⟨led, rfl, rfl⟩ := hr
      generalize hH : s.heap.push { cls := .type "set", dict := none, data := .set #[] 0 (.fresh 0 0 led) } = H1
      have hS : H1.get? s.heap.objs.size = some { cls := .type "set", dict := none, data := .set #[] 0 (.fresh 0 0 led) } := by rw [← hH]; exact Heap.get?_push_size _ rfl
      have old : ∀ b o, s.heap.get? b = some o → H1.get? b = some o := fun b o e => by rw [← hH]; exact Heap.get?_push_of_some _ e
      have hsz : H1.objs.size = s.heap.objs.size + 1 := by rw [← hH, Heap.size_push]
      have tyS : Shared.TypeIs { s with heap := H1 } (.ref s.heap.objs.size) "set" := ⟨_, hS, rfl⟩
      have li0 := F.called_set.init.lookup
      have bi0 := F.called_set.init.bind (.ref s.heap.objs.size)
      repeat (any_goals (first | assumption | wp_step))
      refine codeAny_mono (codeAny_call_builtin (R := wants (fun r s2 => r = .none ∧ ∃ h' tk, s2 = { s with heap := h', toks := tk } ∧ PSet h' s.heap.objs.size ps ∧
        (∀ b o, b < s.heap.objs.size → s.heap.get? b = some o → h'.get? b = some o)) E) F.called_set.init.plain F.entry_set_init (check_set_init_1 tyS ?_)) fun r2 s2 hr2 => ?_
      · obtain ⟨ol, hol, hcl, nl, hdl⟩ := hl
        obtain ⟨oc, od, oda, osl⟩ := ol
        simp only at hcl hdl
        subst hcl; subst hdl
        have hol1 : H1.get? l = some { cls := .type "list", dict := od, data := .seq vs.toArray nl, slots := osl } := old _ _ hol
        have sls := F.sub_list_set
        have slf := F.sub_list_frozenset
        have nld : (Value.type "list" == Value.type "dict") = false := by decide
        have hl1 : H1.IsList l vs.toArray := ⟨_, hol1, rfl, nl, rfl⟩
        have llt : l < s.heap.objs.size := Heap.lt_size hol
        unfold Builtin.«set.__init__» noKeywords Builtin.Frozenset.updateFrom
        generalize hPI : pyIter = PI
        wp_walk
        subst hPI
        refine wpAny_pyIter_list hl1 ?_
        refine wpAny_bind (wpAny_runValue ?_)
        generalize hH2 : H1.push { cls := .type "list_iterator", data := .fields #[.ref l, .int 0 0] } = H2
        have old2 : ∀ b o, H1.get? b = some o → H2.get? b = some o := fun b o e => by rw [← hH2]; exact Heap.get?_push_of_some _ e
        refine fill_loop (l := l) (ps := ps) (vs := vs) (by show A.units + 1 + 1 + 1 < cLine; omega) (by simp [hh]) hlen hl15 hnd hin (by show s.heap.objs.size ≠ H1.objs.size; rw [hsz]; exact Nat.ne_of_lt (Nat.lt_succ_self _)) (Nat.ne_of_gt llt) (by show l ≠ H1.objs.size; rw [hsz]; exact Nat.ne_of_lt (Nat.lt_succ_of_lt llt)) ps.length 0 _ (by omega) (Nat.zero_le _) ?_ ?_ ?_ ?_ ?_
        · rw [← hH2]
          exact ⟨_, Heap.get?_push_size _ rfl, rfl, rfl⟩
        · exact ⟨_, old2 _ _ hol1, rfl, nl, rfl⟩
        · intro i v hv
          obtain ⟨a, p, e1, e2, o, items, n, e, r⟩ := hT i v hv
          exact ⟨a, p, e1, e2, o, items, n, old2 _ _ (old _ _ e), r⟩
        · exact ⟨#[], 0, .fresh 0 0 led, old2 _ _ hS, rfl, rfl, rfl, .inl ⟨rfl, by decide⟩, fun e he => by simp at he⟩
        · intro h' tk kp hP
          show wpAny _ _ (pure ()) _ _ _
          refine wpAny_pure ?_
          show wpAny _ _ (ret Value.none) _ _ _
          refine wpAny_pure ⟨rfl, h', tk, rfl, hP, fun b o hb e => ?_⟩
          refine kp b o (Nat.ne_of_lt hb) ?_ (old2 _ _ (old _ _ e))
          show b ≠ H1.objs.size
          rw [hsz]; exact Nat.ne_of_lt (Nat.lt_succ_of_lt hb)
      · cases r2 with
        | error e => exact hr2
        | ok f2 =>
          cases f2 with
          | ret r =>
            obtain ⟨rfl, h', tk, rfl, hP, hk⟩ := hr2
            repeat (any_goals (first | assumption | wp_step))
            exact h _ _ hk hP
          | _ => exact hr2.elim
    | _ => exact hr.elim
end
end SP


set_option linter.all false
set_option maxRecDepth 100000
set_option maxHeartbeats 4000000
namespace L2
open PySem PySem.Spec PyProof.Rows
variable {X : Cx}
def SetA (S : Addr) (n : Nat) : Heap → Prop := fun h => ∃ es ep t, h.get? S = some { cls := .type "set", dict := none, data := .set es ep t } ∧ es.size = n ∧ t.fits es.size = true
def Prs (K : PySem.W.Frag) (H : Hp) (us : List V) (ps : List (Int × Int)) : Prop := Paired (fun (u : V) (p : Int × Int) => ∃ t, u = .ref t ∧ SqT K H t [.int p.1, .int p.2]) us ps
theorem prs_get {K : PySem.W.Frag} {H : Hp} : ∀ {us : List V} {ps : List (Int × Int)} {i : Nat} {u : V}, Prs K H us ps → us[i]? = some u → ∃ p t, ps[i]? = some p ∧ u = .ref t ∧ SqT K H t [.int p.1, .int p.2]
  | [], _, i, u, _, e => by simp at e
  | _ :: _, _ :: _, 0, u, .cons h _, e => by
    obtain ⟨t, h1, h2⟩ := h
    simp at e
    subst e
    exact ⟨_, t, by simp, h1, h2⟩
  | _ :: _, _ :: _, i + 1, u, .cons _ t, e => by
    obtain ⟨p, a, e1, e2⟩ := prs_get (i := i) (u := u) t (by simpa using e)
    exact ⟨p, a, by simpa using e1, e2⟩
theorem prs_len {K : PySem.W.Frag} {H : Hp} {us : List V} {ps : List (Int × Int)} (h : Prs K H us ps) : us.length = ps.length := Paired.length h
theorem call_setP (hc : X.calm = true) (hu : X.A.units + 64 < cLine) : CallR X (.type "set") (fun xs H Q => ∃ (a : Addr) (us : List V) (ps : List (Int × Int)), xs = [.ref a] ∧ SqL X.K H a us ∧ Prs X.K H us ps ∧ ps.Nodup ∧ (∀ p ∈ ps, p ∈ SP.prs) ∧ ps.length ≤ 15 ∧ ∀ S, H S = none → Q (.ref S) (upd H S (.ext (SetA S ps.length)))) := by
  intro pins s σ H xs us Q I r h
  obtain ⟨a, ws, ps, rfl, hq, hP, nd, hin, h15, q⟩ := h
  obtain ⟨u, rfl, ru⟩ := Vals.one r
  cases ru
  obtain ⟨its, rv, p, hz⟩ := I.list hq
  have hlen : its.length = ps.length := rv.length.symm.trans (prs_len hP)
  refine SP.call_set_pairs (by omega) (I.ok.hd hc) p.isList hlen h15 nd hin ?_ fun h' tk kp P => ?_
  · intro i v hv
    have hi : i < ws.length := by rw [rv.length]; exact (List.getElem?_eq_some_iff.mp hv).1
    obtain ⟨pr, t, e1, e2, hs⟩ := prs_get (i := i) hP (List.getElem?_eq_getElem hi)
    obtain ⟨u, eu, ru⟩ := rv.get (List.getElem?_eq_getElem hi)
    rw [hv] at eu; cases eu
    rw [e2] at ru
    cases ru
    obtain ⟨is, r2, ⟨o, ho, hcl, n, hd⟩, _⟩ := I.tuple hs
    obtain ⟨x, y, rfl, rx, ry⟩ := vals2 r2
    obtain ⟨t1, rfl⟩ := rx
    obtain ⟨t2, rfl⟩ := ry
    exact ⟨t, pr, rfl, e1, o, _, n, ho, hcl, hd, .cons (by simp [intKind, Value.isInt]) (.cons (by simp [intKind, Value.isInt]) .nil)⟩
  · have hn : H s.heap.objs.size = none := I.hok.fresh (Nat.le_refl _)
    obtain ⟨es, ep, t, ho, hd, hp, hl, hm, _⟩ := P.is
    have hf : t.fits es.size = true := SP.fits_of hd hp (by rcases hm with ⟨e, k⟩ | ⟨e, k⟩ <;> omega)
    refine ⟨.ref s.heap.objs.size, _, I.laid (t' := tk) (o := .ext (SetA s.heap.objs.size ps.length)) (fun b o e => kp b o (Heap.lt_size e) e) (Nat.le_refl _) ?_, rfl, q _ hn⟩
    exact ⟨⟨es, ep, t, ho, hl, hf⟩, ⟨_, ho⟩, fun h1 h2 ⟨es, ep, t, e, l, f⟩ k => ⟨es, ep, t, k _ e, l, f⟩⟩
theorem call_lenS : CallR X (.builtin "len") (fun xs H Q => ∃ (S : Addr) (n : Nat), xs = [.ref S] ∧ H S = some (.ext (SetA S n)) ∧ n < 1000 ∧ Q (.int n) H) := by
  intro pins s σ H xs us Q I r h
  obtain ⟨S, n, rfl, hS, hn, q⟩ := h
  obtain ⟨u, rfl, ru⟩ := Vals.one r
  cases ru
  obtain ⟨⟨es, ep, t, ho, hl, hf⟩, _, _⟩ := (show ObjOk X.prog X.w H s.heap S (.ext (SetA S n)) from I.hok S _ hS)
  subst hl
  exact call_len_set ho ⟨rfl, rfl, rfl⟩ rfl hf (by omega) ⟨.int es.size, H, I.tok _, ⟨_, rfl⟩, q⟩
end L2
namespace U
open PySem PySem.Spec PyProof.Rows L2
variable {B : Bs} {X : Cx} {e : Expr} {ta : TE'} {p p2 pos pos2 : Pos}
def prV (p : Int × Int) : PV := .tup [.int p.1, .int p.2]
theorem prs_of {K : PySem.W.Frag} {H : Hp} : ∀ {ps : List (Int × Int)} {us : List V}, RPs K H (ps.map prV) us → Prs K H us ps
  | [], us, h => by
    have : us = [] := by simpa [RPs] using h
    subst this; exact .nil
  | q :: ps, us, h => by
    simp only [List.map_cons, RPs, RP, prV] at h
    obtain ⟨u, r, rfl, ⟨t, ws, rfl, hs, w1, r1, rfl, rfl, w2, r2, rfl, rfl, rfl⟩, h2⟩ := h
    exact .cons ⟨t, rfl, hs⟩ (prs_of h2)
def lenSet (x : PV) (H : PHp) (Q : VK') : Prop := match x with
  | .ref a => ∃ ps : List (Int × Int), H a = some (.lst (ps.map prV)) ∧ ps.Nodup ∧ (∀ p ∈ ps, p ∈ SP.prs) ∧ ps.length ≤ 15 ∧ Q (.int ps.length) H
  | _ => False
def uLenSet (ta : TE') : TE' := fun σ H Q => ta σ H fun x H1 => lenSet x H1 Q
theorem qe_len_set (hc : X.calm = true) (hu : X.A.units + 64 < cLine) (hgl : Gl X "len") (hml : X.mg "len" = none) (hgs : Gl X "set") (hms : X.mg "set" = none) (bs : bootBuiltins "set" = some (.type "set")) (ha : PE' X B e ta)
    (he : starEach [.Call (.Name "set" p2) [e] [] pos2] X.env = [(false, eval (.Call (.Name "set" p2) [e] [] pos2) X.env)] := by rfl) (he2 : starEach [e] X.env = [(false, eval e X.env)] := by rfl) :
    PE' X B (.Call (.Name "len" p) [.Call (.Name "set" p2) [e] [] pos2] [] pos) (uLenSet ta) :=
  pe_imp (pe_callB call_lenS hgl hml PySem.boot_len (pa_cons (pe_callTy (call_setP hc hu) hgs hms bs (pa_cons ha pa_nil he2) (by decide) (by decide) he2 rfl) pa_nil he) (by decide) (by decide) he rfl) fun σ H Q h => by
    obtain ⟨σ', H', Q', s, h, k⟩ := h
    refine ⟨σ', H', _, s, h, fun x' H1' x H1 h1 rx s1 e1 => ?_⟩
    cases x' with
    | ref a =>
      obtain ⟨ps, ea, nd, hin, h15, q⟩ := h1
      simp only [RP] at rx
      subst rx
      obtain ⟨us, eg, r2⟩ := s1.hp _ _ ea
      refine ⟨a, us, ps, rfl, .inl (.inl eg), prs_of r2, nd, hin, h15, fun S hS => ?_⟩
      exact ⟨S, ps.length, rfl, upd_same, by omega, k _ _ _ _ q (by simp [RP]) (s1.hid hS) (e1.trans (Ev.hid hS))⟩
    | _ => exact h1.elim
end U


set_option linter.all false
set_option maxRecDepth 100000
set_option maxHeartbeats 4000000
namespace U
open PySem PySem.Spec PyProof.Rows L2
variable {B : Bs} {X : Cx} {a b : Expr} {ta tb : TE'} {pos : Pos}
def uShr : R2' := uI (fun _ j => 0 ≤ j) fun i j => .int (i / 2 ^ j.toNat)
def uBand : R2' := uI0 fun i j => .int (Builtin.bitAnd i j)
end U


set_option linter.all false
set_option maxRecDepth 100000
set_option maxHeartbeats 4000000
namespace ST
open PySem PySem.W PyProof.Rows
def key (K : Nat → Int) (p : Array Nat) (i : Nat) : Int := K ((p[i]?).getD 0)
structure Ok (n : Nat) (p : Array Nat) : Prop where
  perm : p.toList.Perm (List.range n)
def S (K : Nat → Int) (p : Array Nat) (m : Nat) : Prop := ∀ i j, i < j → j < m → key K p i < key K p j
theorem Ok.size {n : Nat} {p : Array Nat} (h : Ok n p) : p.size = n := by
  have := h.perm.length_eq
  simpa using this
theorem Ok.lt {n : Nat} {p : Array Nat} (h : Ok n p) (h0 : 0 < n) (i : Nat) : p.getD i 0 < n := by
  rw [Array.getD_eq_getD_getElem?]
  cases e : p[i]? with
  | none => exact h0
  | some x =>
    have : x ∈ p.toList := by
      obtain ⟨hi, rfl⟩ := Array.getElem?_eq_some_iff.mp e
      simp
    exact List.mem_range.mp (h.perm.mem_iff.mp this)
theorem Ok.of {n : Nat} {p q : Array Nat} (h : Ok n p) (r : q.Perm p) : Ok n q := ⟨(Array.perm_iff_toList_perm.mp r).trans h.perm⟩
section
variable {cmp : Nat → Nat → (Bool → Shared → Prop) → Shared → Prop} {s : Shared} {n : Nat} {K : Nat → Int} {p : Array Nat}
theorem Ok.ne (hK : ∀ i j, i < n → j < n → K i = K j → i = j) (h : Ok n p) {i j : Nat} (hi : i < n) (hj : j < n) (hne : i ≠ j) : key K p i ≠ key K p j := by
  intro e
  have hs := h.size
  have h0 : 0 < n := by omega
  unfold key at e
  rw [Array.getElem?_eq_getElem (by omega), Array.getElem?_eq_getElem (by omega)] at e
  simp only [Option.getD_some] at e
  have nd : p.toList.Nodup := (h.perm.nodup_iff).mpr List.nodup_range
  have l1 : p[i] < n := by have := h.lt h0 i; rwa [Array.getD_eq_getD_getElem?, Array.getElem?_eq_getElem (by omega)] at this
  have l2 : p[j] < n := by have := h.lt h0 j; rwa [Array.getD_eq_getD_getElem?, Array.getElem?_eq_getElem (by omega)] at this
  have q := hK _ _ l1 l2 e
  have : i = j := by
    exact (List.getElem_inj nd (h₀ := by simpa [hs] using hi) (h₁ := by simpa [hs] using hj)).mp (by simpa using q)
  exact hne this
theorem getD_key (K : Nat → Int) (p : Array Nat) (i : Nat) : K (p.getD i 0) = key K p i := by
  unfold key; rw [Array.getD_eq_getD_getElem?]
variable (hc : ∀ i j C, i < n → j < n → C (decide (K i < K j)) s → cmp i j C s) (hK : ∀ i j, i < n → j < n → K i = K j → i = j)
include hc
theorem ask_at {G : Bool → Shared → Prop} (h0 : 0 < n) (ok : Ok n p) {i j : Nat} (h : G (decide (key K p i < key K p j)) s) : cmp (p.getD i 0) (p.getD j 0) G s := by
  refine hc _ _ _ (ok.lt h0 i) (ok.lt h0 j) ?_
  rw [getD_key K p i, getD_key K p j]
  exact h
include hK
theorem lt_of_not {i j : Nat} (ok : Ok n p) (hi : i < n) (hj : j < n) (hne : i ≠ j) (h : ¬ key K p i < key K p j) : key K p j < key K p i := by
  have := ok.ne hK hi hj hne
  omega
theorem asc (ok : Ok n p) : ∀ (f m : Nat) {G : Nat → Shared → Prop}, 1 ≤ m → m + f ≤ n → S K p m →
    (∀ m', m ≤ m' → m' ≤ m + f → S K p m' → (m' < m + f → key K p m' < key K p (m' - 1)) → G m' s) → (kas_asc p f m).kasWp cmp G s
  | 0, m, G, _, _, hS, h => h m (Nat.le_refl _) (Nat.le_refl _) hS fun q => absurd q (Nat.lt_irrefl _)
  | f + 1, m, G, h1, hm, hS, h => by
    refine ask_at hc (by omega) ok (G := fun c s' => (if c = true then KasT.ret m else kas_asc p f (m + 1)).kasWp cmp G s') ?_
    by_cases q : key K p m < key K p (m - 1)
    · rw [decide_eq_true q]
      show G m s
      exact h m (Nat.le_refl _) (by omega) hS fun _ => q
    · rw [decide_eq_false q]
      show (kas_asc p f (m + 1)).kasWp cmp G s
      have q' := lt_of_not hc hK ok (by omega) (by omega) (by omega) q
      refine asc ok f (m + 1) (by omega) (by omega) ?_ fun m' a b c d => h m' (by omega) (by omega) c fun e => d (by omega)
      intro i j hij hj
      by_cases hjm : j < m
      · exact hS i j hij hjm
      · have : j = m := by omega
        subst this
        by_cases him : i = j - 1
        · subst him; exact q'
        · have := hS i (j - 1) (by omega) (by omega)
          omega
theorem desc (ok : Ok n p) : ∀ (f m : Nat) {G : Array Nat × Nat × Nat → Shared → Prop}, 1 ≤ m → m + f ≤ n → (∀ i j, i < j → j < m → key K p j < key K p i) →
    (∀ m', m ≤ m' → m' ≤ m + f → (∀ i j, i < j → j < m' → key K p j < key K p i) → G (p, m', 0) s) → (kas_desc f p m 0).kasWp cmp G s
  | 0, m, G, _, _, hS, h => h m (Nat.le_refl _) (Nat.le_refl _) hS
  | f + 1, m, G, h1, hm, hS, h => by
    refine ask_at hc (by omega) ok (G := fun c s' => (if c = true then (if 0 > 0 then kas_desc f (kas_rev p (m - (0 + 1)) m) (m + 1) 0 else kas_desc f p (m + 1) 0)
      else KasT.ask (p.getD (m - 1) 0) (p.getD m 0) fun d => if d = true then KasT.ret (p, m, 0) else kas_desc f p (m + 1) (0 + 1)).kasWp cmp G s') ?_
    by_cases q : key K p m < key K p (m - 1)
    · rw [decide_eq_true q, if_pos rfl, if_neg (by omega)]
      refine desc ok f (m + 1) (by omega) (by omega) ?_ fun m' a b c => h m' (by omega) (by omega) c
      intro i j hij hj
      by_cases hjm : j < m
      · exact hS i j hij hjm
      · have : j = m := by omega
        subst this
        by_cases him : i = j - 1
        · subst him; exact q
        · have := hS i (j - 1) (by omega) (by omega)
          omega
    · rw [decide_eq_false q]
      have q' := lt_of_not hc hK ok (by omega) (by omega) (by omega) q
      refine ask_at hc (by omega) ok (G := fun d s' => (if d = true then KasT.ret (p, m, 0) else kas_desc f p (m + 1) (0 + 1)).kasWp cmp G s') ?_
      rw [decide_eq_true q', if_pos rfl]
      exact h m (Nat.le_refl _) (by omega) hS
theorem rev_key {m : Nat} (ok : Ok n p) (hm : m ≤ n) (i : Nat) : key K (kas_rev p 0 m) i = if i < m then key K p (m - 1 - i) else key K p i := by
  unfold key kas_rev
  rw [getElem?_mirror_all (by rw [ok.size]; exact hm)]
  by_cases h : i < m
  · rw [if_pos ⟨Nat.zero_le _, h⟩, if_pos h]
    congr 3
    omega
  · rw [if_neg (by omega), if_neg h]
theorem count {G : Nat × Array Nat → Shared → Prop} (ok : Ok n p) (h1 : 1 ≤ n) (h : ∀ m p', Ok n p' → 1 ≤ m → m ≤ n → S K p' m → G (m, p') s) : (kas_count n p).kasWp cmp G s := by
  unfold kas_count
  rw [KasT.kasWp_bind]
  refine asc hc hK ok (n - 1) 1 (Nat.le_refl _) (by omega) (fun i j a b => by omega) fun m' a b hS st => ?_
  by_cases e : m' = n
  · subst e
    rw [if_pos (by simp)]
    exact h _ _ ok (by omega) (Nat.le_refl _) hS
  · rw [if_neg (by simpa using e)]
    by_cases e1 : m' > 1
    · rw [if_pos e1]
      refine ask_at hc (by omega) ok (G := fun c s' => (if c = true then KasT.ret (m', p) else kas_descPart m' n (kas_rev p 0 m')).kasWp cmp G s') ?_
      rw [decide_eq_true (hS 0 (m' - 1) (by omega) (by omega)), if_pos rfl]
      exact h _ _ ok (by omega) (by omega) hS
    · rw [if_neg e1]
      have : m' = 1 := by omega
      subst this
      unfold kas_descPart
      rw [KasT.kasWp_bind]
      have st1 := st (by omega)
      refine desc hc hK ok (n - (1 + 1)) (1 + 1) (by omega) (by omega) (fun i j hij hj => ?_) fun m' a b hD => ?_
      · have h1 : j = 1 := by omega
        have h2 : i = 0 := by omega
        subst h1; subst h2
        exact st1
      · rw [if_neg (by simp)]
        unfold kas_tail3
        rw [KasT.kasWp_bind]
        have ok2 : Ok n (kas_rev p 0 m') := ok.of (mirror_perm _ _ _ _)
        refine asc hc hK ok2 (n - m') m' (by omega) (by omega) (fun i j hij hj => ?_) fun m2 a2 b2 hS2 _ => ?_
        · rw [rev_key hc hK ok (by omega), rev_key hc hK ok (by omega), if_pos (by omega), if_pos hj]
          exact hD _ _ (by omega) (by omega)
        · exact h m2 _ ok2 (by omega) (by omega) hS2
theorem place (ok : Ok n p) {k : Nat} (hk : k < n) (hS : S K p k) : ∀ (f l r : Nat) {G : Nat → Shared → Prop}, l ≤ r → r ≤ k → r - l ≤ f → (∀ i, i < l → key K p i < key K p k) → (∀ i, r ≤ i → i < k → key K p k < key K p i) →
    (∀ l', l' ≤ k → (∀ i, i < l' → key K p i < key K p k) → (∀ i, l' ≤ i → i < k → key K p k < key K p i) → G l' s) → (kas_place p k f l r).kasWp cmp G s
  | 0, l, r, G, h1, h2, h3, ha, hb, h => h l (by omega) ha fun i x y => hb i (by omega) y
  | f + 1, l, r, G, h1, h2, h3, ha, hb, h => by
    unfold kas_place
    by_cases e : l ≥ r
    · rw [if_pos e]
      exact h l (by omega) ha fun i x y => hb i (by omega) y
    · rw [if_neg e]
      refine ask_at hc (by omega) ok (G := fun c s' => (if c = true then kas_place p k f l ((l + r) / 2) else kas_place p k f ((l + r) / 2 + 1) r).kasWp cmp G s') ?_
      have hmid : (l + r) / 2 < k := by omega
      generalize hm : (l + r) / 2 = mid at *
      by_cases q : key K p k < key K p mid
      · rw [decide_eq_true q, if_pos rfl]
        refine place ok hk hS f l mid (by omega) (by omega) (by omega) ha (fun i x y => ?_) h
        by_cases z : i = mid
        · subst z; exact q
        · have := hS mid i (by omega) y
          omega
      · rw [decide_eq_false q, if_neg (by simp)]
        have q' := lt_of_not hc hK ok hk (by omega) (by omega) q
        refine place ok hk hS f (mid + 1) r (by omega) h2 (by omega) (fun i x => ?_) hb h
        by_cases z : i = mid
        · subst z; exact q'
        · have := hS i mid (by omega) hmid
          omega
theorem bub_key {k l : Nat} (ok : Ok n p) (hk : k < n) (hl : l ≤ k) (i : Nat) : key K (bubble p k (k - l)) i = if i = l then key K p k else if l < i ∧ i ≤ k then key K p (i - 1) else key K p i := by
  unfold key
  rw [getElem?_bubble (by rw [ok.size]; exact hk) _ (Nat.sub_le _ _)]
  rw [show k - (k - l) = l by omega]
  split
  · rfl
  · split <;> rfl
theorem bin : ∀ (f k : Nat) (p : Array Nat) {G : Array Nat → Shared → Prop}, Ok n p → 1 ≤ k → k + f = n → S K p k → (∀ p', Ok n p' → S K p' n → G p' s) → (kas_bin f p k).kasWp cmp G s
  | 0, k, p, G, ok, h1, h2, hS, h => h p ok (by have : k = n := by omega
                                                subst this; exact hS)
  | f + 1, k, p, G, ok, h1, h2, hS, h => by
    unfold kas_bin
    rw [KasT.kasWp_bind]
    refine place hc hK ok (by omega) hS k 0 k (by omega) (Nat.le_refl _) (by omega) (fun i x => by omega) (fun i x y => by omega) fun l hl ha hb => ?_
    refine bin f (k + 1) _ (ok.of (bubble_perm _ _ _)) (by omega) (by omega) (fun i j hij hj => ?_) h
    rw [bub_key hc hK ok (by omega) hl, bub_key hc hK ok (by omega) hl]
    by_cases c1 : i = l
    · rw [if_pos c1]
      rw [if_neg (by omega), if_pos (by omega)]
      exact hb _ (by omega) (by omega)
    · rw [if_neg c1]
      by_cases c2 : j = l
      · rw [if_pos c2, if_neg (by omega)]
        exact ha _ (by omega)
      · rw [if_neg c2]
        by_cases c3 : l < i ∧ i ≤ k
        · rw [if_pos c3, if_pos (by omega)]
          exact hS _ _ (by omega) (by omega)
        · rw [if_neg c3]
          by_cases c4 : l < j ∧ j ≤ k
          · rw [if_pos c4]
            by_cases c5 : i = j - 1
            · omega
            · exact hS _ _ (by omega) (by omega)
          · rw [if_neg c4]
            exact hS _ _ hij (by omega)
theorem sorts {G : Array Nat → Shared → Prop} (h1 : 1 ≤ n) (h : ∀ p, Ok n p → S K p n → G p s) : (kas_sort n).kasWp cmp G s := by
  unfold kas_sort
  rw [KasT.kasWp_bind]
  refine count hc hK (p := (List.range n).toArray) ⟨by simp⟩ h1 fun m p' ok a b hS => ?_
  show (if m < n then kas_bin (n - max m 1) p' (max m 1) else KasT.ret p').kasWp cmp G s
  by_cases e : m < n
  · rw [if_pos e, show max m 1 = m by omega]
    exact bin hc hK (n - m) m p' ok a (by omega) hS h
  · rw [if_neg e]
    have : m = n := by omega
    subst this
    exact h p' ok hS
end
end ST


set_option linter.all false
set_option maxRecDepth 100000
set_option maxHeartbeats 4000000
namespace ST
open PySem PySem.W PyProof.Rows
def pk (p : Int × Int) : Int := 6 * p.1 + p.2
def Tp (h : Heap) (v : Value) (p : Int × Int) : Prop := ∃ t o k u1 u2, v = .ref t ∧ h.get? t = some o ∧ o.cls = .type "tuple" ∧ o.data = .seq #[.int p.1 u1, .int p.2 u2] k
def Tps (h : Heap) (vs : List Value) (ps : List (Int × Int)) : Prop := vs.length = ps.length ∧ ∀ i v, vs[i]? = some v → Tp h v (ps.getD i (0, 0))
theorem Tp.kp {h h' : Heap} {v : Value} {p : Int × Int} (x : Tp h v p) (k : ∀ b o, o.cls = .type "tuple" → h.get? b = some o → h'.get? b = some o) : Tp h' v p := by
  obtain ⟨t, o, n, u1, u2, e, ho, hc, hd⟩ := x
  exact ⟨t, o, n, u1, u2, e, k _ _ hc ho, hc, hd⟩
section
variable {prog : Program} {w : World} {A : Around} {E : Value → Shared → Prop} {s : Shared}
theorem lt_pair {x y : Value} {p q : Int × Int} {C : Bool → Shared → Prop} (hx : Tp s.heap x p) (hy : Tp s.heap y q) (bp : 0 ≤ p.2 ∧ p.2 < 6) (bq : 0 ≤ q.2 ∧ q.2 < 6) (h : C (decide (pk p < pk q)) s) :
    wpAny (model prog w) A (keyLt' (tuples' true) x y) C E s := by
  obtain ⟨t, o, n, u1, u2, rfl, ho, hc, hd⟩ := hx
  obtain ⟨t', o', n', w1, w2, rfl, ho', hc', hd'⟩ := hy
  refine kat_lt ho hd ho' hd' ?_
  show KatLex prog w A true (decide (2 < 2)) C [(.int p.1 u1, .int q.1 w1), (.int p.2 u2, .int q.2 w2)] 0 s
  refine kat_cons (wpAny_eqBool_int ?_)
  refine kat_go (fun e1 => kat_yes (kat_cons (wpAny_eqBool_int ?_))) (fun e1 => kat_no ?_)
  · have e1 : p.1 = q.1 := by simpa using e1
    refine kat_go (fun e2 => kat_yes (kat_nil ?_)) (fun e2 => kat_no ?_)
    · have e2 : p.2 = q.2 := by simpa using e2
      have : decide (pk p < pk q) = decide (2 < 2) := by unfold pk; rw [e1, e2]; simp
      rw [← this]; exact h
    · refine kat_one _ _ (PyProof.Rows.lt_int ?_)
      have : decide (pk p < pk q) = decide (p.2 < q.2) := by
        rw [decide_eq_decide]; unfold pk; omega
      show C (decide (p.2 < q.2)) s
      rw [← this]; exact h
  · have e1 : ¬ p.1 = q.1 := by simpa using e1
    refine oneLt_int ?_
    have : decide (pk p < pk q) = decide (p.1 < q.1) := by
      rw [decide_eq_decide]; unfold pk; omega
    rw [← this]; exact h
theorem tups_of {h : Heap} : ∀ {vs : List Value} {ps : List (Int × Int)}, Tps h vs ps → ∃ fs, KatTups h vs fs ∧ fs.length = vs.length ∧ ∀ v ∈ fs, ∃ i t, v = .int i t
  | [], ps, _ => ⟨[], KatTups.nil, rfl, by simp⟩
  | v :: vs, [], x => by have := x.1; simp at this
  | v :: vs, p :: ps, x => by
    obtain ⟨fs, t, l, q⟩ := tups_of (h := h) (vs := vs) (ps := ps) ⟨by have := x.1; simpa using this, fun i v e => by simpa using x.2 (i + 1) v (by simpa using e)⟩
    obtain ⟨t0, o, n, u1, u2, rfl, ho, hc, hd⟩ := x.2 0 v (by simp)
    refine ⟨.int _ u1 :: fs, KatTups.cons ho hc hd rfl t, by simp [l], ?_⟩
    intro z hz
    rcases List.mem_cons.mp hz with rfl | hz
    · exact ⟨_, _, rfl⟩
    · exact q z hz
theorem list_sort_pairs {a : Addr} {vs : List Value} {ps : List (Int × Int)} {n : Nat} {P : PySem.Fin → Shared → Prop} (ho : s.heap.get? a = some (seqObj "list" vs.toArray n)) (hT : Tps s.heap vs ps) (nd : ps.Nodup)
    (hb : ∀ p ∈ ps, 0 ≤ p.2 ∧ p.2 < 6) (h64 : vs.length < 64)
    (h : ∀ q : List Nat, q.Perm (List.range vs.length) → (q.map fun i => ps.getD i (0, 0)).Pairwise (fun x y => pk x < pk y) → P (.done (.ret .none)) { s with heap := sortedHeap s.heap a vs (q.map fun i => vs.getD i Value.none).toArray }) :
    wpAny (model prog w) A (Builtin.«list.sort» ⟨[.ref a], []⟩) P E s := by
  rw [list_sort_plain]
  have hls : vs.length ≤ sizeLine := by rw [sizeLine_eq]; omega
  refine wpAny_bind (listItems_at ho rfl (wpAny_bind ?_))
  refine (listUpdate_at ho rfl ?_ (by rw [List.size_toArray]; omega) (Nat.zero_le _))
  obtain ⟨ea0, oa0⟩ : ∃ ea0, (s.heap.update a (Obj.mapSeq fun _ => #[])).get? a = some (seqObj "list" #[] ea0) := ⟨_, get?_update_seq ho (fun _ => #[])⟩
  refine wpAny_bind (seqEpoch_at oa0 rfl ?_)
  refine wpAny_bind (wpAny_newTuple ?_ (by show vs.length ≤ _; omega))
  refine wpAny_bind (wpAny_newList ?_ (Nat.zero_le _))
  refine wpAny_holding ?_
  have kq0 : ∀ b o, b ≠ a → s.heap.get? b = some o → (((s.heap.update a (Obj.mapSeq fun _ => #[])).push (seqObj "tuple" vs.toArray 0)).push (seqObj "list" #[] 0)).get? b = some o := fun b o hne q =>
    Heap.get?_push_of_some _ (Heap.get?_push_of_some _ (by rw [Heap.get?_update_ne _ _ _ _ hne]; exact q))
  have og0 : (((s.heap.update a (Obj.mapSeq fun _ => #[])).push (seqObj "tuple" vs.toArray 0)).push (seqObj "list" #[] 0)).get? a = some (seqObj "list" #[] ea0) :=
    Heap.get?_push_of_some _ (Heap.get?_push_of_some _ oa0)
  have hT6 : Tps (((s.heap.update a (Obj.mapSeq fun _ => #[])).push (seqObj "tuple" vs.toArray 0)).push (seqObj "list" #[] 0)) vs ps := ⟨hT.1, fun i v e => (hT.2 i v e).kp fun b o hcl q => kq0 b o (fun z => by
    subst z; rw [ho] at q; cases q; exact absurd hcl (by simp [seqObj])) q⟩
  show wpAny (model prog w) _ _ P _ { s with heap := ((s.heap.update a (Obj.mapSeq fun _ => #[])).push (seqObj "tuple" vs.toArray 0)).push (seqObj "list" #[] 0) }
  dsimp only
  have zq0 : vs.toArray.size = vs.length := by simp
  by_cases hq2 : vs.toArray.size < 2
  · rw [if_pos hq2, if_pos hq2]
    refine wpAny_bind (wpAny_pure ?_)
    rw [StateT.run_pure]
    refine wpAny_bind (wpAny_pure ?_)
    dsimp only
    refine wpAny_bind (seqEpoch_at og0 rfl ?_)
    refine wpAny_bind (listUpdate_at og0 rfl ?_ (Nat.zero_le _) (by rw [Array.size_map]; show (pairsOf vs).size ≤ _; rw [pairsOf_size]; omega))
    simp only [bne_self_eq_false, Bool.false_eq_true, if_false]
    have hq := h (List.range vs.length) (List.Perm.refl _) ?_
    · have e : (arrOf (SortSt.mk' general' (vs.toArray.zip vs.toArray) #[] 7 none)).map (·.2) = ((List.range vs.length).map fun i => vs.getD i Value.none).toArray := by
        show (vs.toArray.zip vs.toArray).map (·.2) = _
        match vs, hq2 with
        | [], _ => apply Array.toList_inj.mp; simp
        | [v], _ => apply Array.toList_inj.mp; simp [List.range_succ]
        | _ :: _ :: _, hq2 => exact absurd hq2 (by simp)
      refine wpAny_pure ?_
      rw [e]
      exact hq
    · match vs, hq2 with
      | [], _ => exact List.Pairwise.nil
      | [v], _ => exact List.pairwise_singleton _ _
      | _ :: _ :: _, hq2 => exact absurd hq2 (by simp)
  · rw [if_neg hq2, if_neg hq2]
    obtain ⟨fs, hfs, hfl, hfi⟩ := tups_of hT6
    rw [zq0] at hq2
    refine wpAny_bind (kat_kind hfs (by omega) (T := .type "int") (fun v hv => ?_) rfl ?_)
    · obtain ⟨i, t, rfl⟩ := hfi v hv
      exact Looks.of_pure rfl
    · show wpAny (model prog w) A _ P E _
      have hinj : ∀ i j, i < vs.length → j < vs.length → pk (ps.getD i (0, 0)) = pk (ps.getD j (0, 0)) → i = j := by
        intro i j hi hj e
        have hi' : i < ps.length := by rw [← hT.1]; exact hi
        have hj' : j < ps.length := by rw [← hT.1]; exact hj
        have g1 : ps.getD i (0, 0) = ps[i] := by rw [List.getD_eq_getElem?_getD, List.getElem?_eq_getElem hi']; rfl
        have g2 : ps.getD j (0, 0) = ps[j] := by rw [List.getD_eq_getElem?_getD, List.getElem?_eq_getElem hj']; rfl
        rw [g1, g2] at e
        have b1 := hb _ (List.getElem_mem hi')
        have b2 := hb _ (List.getElem_mem hj')
        unfold pk at e
        have e2 : ps[i] = ps[j] := Prod.ext (by omega) (by omega)
        exact (List.getElem_inj nd).mp e2
      refine wpAny_bind (wpAny_mono (kat_run (ks := vs) (vs := vs) (κ := tuples' true)
        (Q := fun st' s' => s' = { s with heap := ((s.heap.update a (Obj.mapSeq fun _ => #[])).push (seqObj "tuple" vs.toArray 0)).push (seqObj "list" #[] 0) } ∧ ∃ p : Array Nat, Ok vs.length p ∧ S (fun i => pk (ps.getD i (0, 0))) p vs.length ∧ arrOf st' = p.map (kas_item (vs.toArray.zip vs.toArray)) ∧ failedOf st' = none)
        (G := fun p s' => s' = { s with heap := ((s.heap.update a (Obj.mapSeq fun _ => #[])).push (seqObj "tuple" vs.toArray 0)).push (seqObj "list" #[] 0) } ∧ Ok vs.length p ∧ S (fun i => pk (ps.getD i (0, 0))) p vs.length)
        rfl (by omega) h64 (fun p st' s' a1 a2 a3 a4 => ⟨a4.1, p, a4.2.1, a4.2.2, a2, a3⟩) ?run) ?post fun _ _ e => e)
      case run =>
        refine sorts (n := vs.length) (K := fun i => pk (ps.getD i (0, 0))) (fun i j C hi hj hC => ?_) hinj (by omega) fun p ok sS => ⟨rfl, ok, sS⟩
        unfold kas_ask
        have hi' : i < ps.length := by rw [← hT.1]; exact hi
        have hj' : j < ps.length := by rw [← hT.1]; exact hj
        refine lt_pair (hT6.2 i _ ?_) (hT6.2 j _ ?_) (hb _ ?_) (hb _ ?_) hC
        · rw [List.getD_eq_getElem?_getD, List.getElem?_eq_getElem hi]; rfl
        · rw [List.getD_eq_getElem?_getD, List.getElem?_eq_getElem hj]; rfl
        · rw [List.getD_eq_getElem?_getD, List.getElem?_eq_getElem hi']; exact List.getElem_mem hi'
        · rw [List.getD_eq_getElem?_getD, List.getElem?_eq_getElem hj']; exact List.getElem_mem hj'
      case post =>
        rintro ⟨⟨⟩, st'⟩ s' ⟨rfl, p, ok, sS, har, hf⟩
        dsimp only
        have hout := kat_snds (ks := vs) (vs := vs) rfl har
        have hpz : (List.toArray (p.toList.map fun i => vs.getD i Value.none)).size = vs.length := by rw [List.size_toArray, List.length_map, Array.length_toList, ok.size]
        rw [hout]
        refine wpAny_bind (seqEpoch_at og0 rfl ?_)
        refine wpAny_bind (listUpdate_at og0 rfl ?_ (Nat.zero_le _) (by omega))
        rw [hf]
        simp only [bne_self_eq_false, Bool.false_eq_true, if_false]
        refine wpAny_pure (h p.toList ok.perm ?_)
        rw [List.pairwise_map, List.pairwise_iff_getElem]
        intro i j hi hj hij
        have := sS i j hij (by rw [← ok.size]; simpa using hj)
        unfold key at this
        have hi2 : i < p.size := by simpa using hi
        have hj2 : j < p.size := by simpa using hj
        rw [Array.getElem?_eq_getElem hi2, Array.getElem?_eq_getElem hj2] at this
        simpa using this
theorem sorted_pairs {l : Addr} {vs : List Value} {ps : List (Int × Int)} {Q : Value → Shared → Prop} (hl : s.heap.IsList l vs.toArray) (hT : Tps s.heap vs ps) (nd : ps.Nodup) (hb : ∀ p ∈ ps, 0 ≤ p.2 ∧ p.2 < 6) (h64 : vs.length < 64)
    (h : ∀ q : List Nat, q.Perm (List.range vs.length) → (q.map fun i => ps.getD i (0, 0)).Pairwise (fun x y => pk x < pk y) → Q (.ref (s.heap.objs.size + 1)) { s with heap := sortedAll s.heap vs (q.map fun i => vs.getD i Value.none).toArray }) :
    wpAny (model prog w) A (call (.builtin "sorted") [.ref l]) Q E s := by
  refine Calls.call_function_entry kind_sorted plain_sorted entry_sorted (args_sorted1 _) ?_
  unfold Builtin.«sorted»
  refine wpAny_bind (m := checkCount "sorted" 1 1 _) (wpAny_pure (wpAny_bind (collect_list hl (wpAny_bind (wpAny_newList ?_ (by rw [sizeLine_eq]; omega))) (by rw [sizeLine_eq]; omega))))
  have zq0 : ((s.heap.push (seqObj "list" #[] 0)).update s.heap.objs.size (Obj.mapSeq (· ++ vs.toArray))).objs.size = s.heap.objs.size + 1 := by
    rw [Heap.size_update, size_push']
  have oq0 : (((s.heap.push (seqObj "list" #[] 0)).update s.heap.objs.size (Obj.mapSeq (· ++ vs.toArray))).push (seqObj "list" vs.toArray 0)).get? (s.heap.objs.size + 1) = some (seqObj "list" vs.toArray 0) := by
    rw [← zq0]; exact Heap.get?_push_size _ rfl
  have kq0 : ∀ b o, s.heap.get? b = some o → (((s.heap.push (seqObj "list" #[] 0)).update s.heap.objs.size (Obj.mapSeq (· ++ vs.toArray))).push (seqObj "list" vs.toArray 0)).get? b = some o := fun b o q => by
    have lq0 : b < s.heap.objs.size := Heap.lt_size q
    rw [Heap.get?_push_ne _ _ _ (by rw [zq0]; exact Nat.ne_of_lt (Nat.lt_succ_of_lt lq0)), Heap.get?_update_ne _ _ _ _ (Nat.ne_of_lt lq0), Heap.get?_push_ne _ _ _ (Nat.ne_of_lt lq0)]
    exact q
  show wpAny (model prog w) _ _ _ _ { s with heap := ((s.heap.push (seqObj "list" #[] 0)).update s.heap.objs.size (Obj.mapSeq (· ++ vs.toArray))).push (seqObj "list" vs.toArray 0) }
  rw [zq0]
  refine wpAny_bind (wpAny_holding (wpAny_call_entry slot_list_sort ⟨_, oq0, rfl⟩ entry_list_sort (list_sort_pairs (ps := ps) oq0 ⟨hT.1, fun i v e => (hT.2 i v e).kp fun b o _ q => kq0 b o q⟩ nd hb h64 fun q a1 a2 => ⟨_, rfl, ?_⟩) (args_list_sort _)))
  exact wpAny_pure ⟨_, rfl, h q a1 a2⟩
end
end ST


set_option linter.all false
set_option maxRecDepth 100000
set_option maxHeartbeats 4000000
namespace L2
open PySem PySem.Spec PyProof.Rows
variable {X : Cx}
def rSortP (K : PySem.W.Frag) : List V → Hp → VK → Prop := fun xs H Q => ∃ (a : Addr) (us : List V) (ps : List (Int × Int)), xs = [.ref a] ∧ SqL K H a us ∧ Prs K H us ps ∧ ps.Nodup ∧ (∀ p ∈ ps, 0 ≤ p.2 ∧ p.2 < 6) ∧ ps.length < 64 ∧
  ∀ (r : Addr) (q : List Nat), H r = none → q.Perm (List.range ps.length) → (q.map fun i => ps.getD i (0, 0)).Pairwise (fun x y => ST.pk x < ST.pk y) → Q (.ref r) (upd H r (.lst (q.map fun i => us.getD i .non)))
theorem vals_pick {us : List V} {vs : List Value} (r : Vals us vs) : ∀ (q : List Nat), (∀ i ∈ q, i < us.length) → Vals (q.map fun i => us.getD i .non) (q.map fun i => vs.getD i Value.none)
  | [], _ => .nil
  | i :: q, h => by
    have hi := h i List.mem_cons_self
    obtain ⟨u, eu, ru⟩ := r.get (List.getElem?_eq_getElem hi)
    refine .cons ?_ (vals_pick r q fun j hj => h j (List.mem_cons_of_mem _ hj))
    dsimp only
    rw [List.getD_eq_getElem?_getD, List.getElem?_eq_getElem hi, List.getD_eq_getElem?_getD, eu]
    exact ru
theorem call_sortP : CallR X (.builtin "sorted") (rSortP X.K) := by
  intro pins s σ H xs us Q I r h
  obtain ⟨a, ws, ps, rfl, hq, hP, nd, hb, h64, q⟩ := h
  obtain ⟨u, rfl, ru⟩ := Vals.one r
  cases ru
  obtain ⟨its, rv, p, hz⟩ := I.list hq
  have hlen : its.length = ps.length := rv.length.symm.trans (prs_len hP)
  refine ST.sorted_pairs (ps := ps) p.isList ⟨hlen, fun i v hv => ?_⟩ nd hb (by omega) fun qs h1 h2 => ?_
  · have hi : i < ws.length := by rw [rv.length]; exact (List.getElem?_eq_some_iff.mp hv).1
    obtain ⟨pr, t, e1, e2, hs⟩ := prs_get (i := i) hP (List.getElem?_eq_getElem hi)
    obtain ⟨u, eu, ru⟩ := rv.get (List.getElem?_eq_getElem hi)
    rw [hv] at eu; cases eu
    rw [e2] at ru
    cases ru
    obtain ⟨is, r2, ⟨o, ho, hcl, n, hd⟩, _⟩ := I.tuple hs
    obtain ⟨x, y, rfl, rx, ry⟩ := vals2 r2
    obtain ⟨t1, rfl⟩ := rx
    obtain ⟨t2, rfl⟩ := ry
    refine ⟨t, o, n, t1, t2, rfl, ho, hcl, ?_⟩
    rw [List.getD_eq_getElem?_getD, e1]
    exact hd
  · have hn : H (s.heap.objs.size + 1) = none := I.hok.fresh (Nat.le_succ _)
    obtain ⟨e, he⟩ := sortedAll_at s.heap its (qs.map fun i => its.getD i Value.none).toArray
    rw [hlen] at h1
    have hin : ∀ i ∈ qs, i < ws.length := fun i hi => by
      have := List.mem_range.mp (h1.mem_iff.mp hi)
      rw [prs_len hP]; exact this
    have hv := vals_pick rv qs hin
    have hz2 : (qs.map fun i => ws.getD i V.non).length ≤ sizeLine := by rw [List.length_map, h1.length_eq, List.length_range, sizeLine_eq]; omega
    refine ⟨.ref (s.heap.objs.size + 1), _, I.laid (t' := s.toks) (o := .lst (qs.map fun i => ws.getD i V.non)) (fun b o e => sortedAll_old e) (Nat.le_succ _) ?_, rfl, q _ qs hn h1 h2⟩
    exact ⟨hz2, _, e, hv, he⟩
end L2
namespace U
open PySem PySem.Spec PyProof.Rows L2
variable {B : Bs} {X : Cx} {a b : Expr} {ta tb : TE'} {pos : Pos}
def uSortP : List PV → PHp → VK' → Prop := arg1 fun x H Q => match x with
  | .ref a => ∃ ps : List (Int × Int), H a = some (.lst (ps.map prV)) ∧ ps.Nodup ∧ (∀ p ∈ ps, 0 ≤ p.2 ∧ p.2 < 6) ∧ ps.length < 64 ∧ ∀ (r : Addr) (qs : List (Int × Int)), H r = none → qs.Perm ps → qs.Pairwise (fun x y => ST.pk x < ST.pk y) → Q (.ref r) (put H r (.lst (qs.map prV)))
  | _ => False
theorem rps_pick {K : PySem.W.Frag} {H : Hp} {ps : List (Int × Int)} {us : List V} (r : RPs K H (ps.map prV) us) : ∀ (q : List Nat), (∀ i ∈ q, i < ps.length) → RPs K H ((q.map fun i => ps.getD i (0, 0)).map prV) (q.map fun i => us.getD i V.non)
  | [], _ => RPs.nil _
  | i :: q, h => by
    have hi := h i List.mem_cons_self
    obtain ⟨u, eu, ru⟩ := RPs.get _ (i := i) (x := prV ps[i]) r (by rw [List.getElem?_map, List.getElem?_eq_getElem hi]; rfl)
    refine RPs.cons _ ?_ (rps_pick r q fun j hj => h j (List.mem_cons_of_mem _ hj))
    dsimp only
    rw [List.getD_eq_getElem?_getD, List.getElem?_eq_getElem hi, List.getD_eq_getElem?_getD, eu]
    exact ru
theorem pick_perm {α : Type} (l : List α) (d : α) {q : List Nat} (h : q.Perm (List.range l.length)) : (q.map fun i => l.getD i d).Perm l := by
  refine (h.map _).trans ?_
  have : (List.range l.length).map (fun i => l.getD i d) = l := by
    apply List.ext_getElem
    · simp
    · intro i h1 h2
      simp [List.getD_eq_getElem?_getD, List.getElem?_eq_getElem h2]
  rw [this]
theorem vc_sortP {K : PySem.W.Frag} : VC K B uSortP (rSortP K) := by
  intro σ' σ H' H xs' xs Q' Q s r h k
  obtain ⟨x', x, rfl, rfl, rx, h⟩ := arg1.ex h r
  cases x' with
  | ref a =>
    obtain ⟨ps, ea, nd, hb, h64, q⟩ := h
    simp only [RP] at rx
    subst rx
    obtain ⟨us, e, r2⟩ := s.hp _ _ ea
    refine ⟨a, us, ps, rfl, .inl (.inl e), prs_of r2, nd, hb, h64, fun r qs hr h1 h2 => ?_⟩
    have hin : ∀ i ∈ qs, i < ps.length := fun i hi => List.mem_range.mp (h1.mem_iff.mp hi)
    exact k _ _ _ _ (q r _ (s.hp.free hr) (pick_perm ps (0, 0) h1) h2) (by simp [RP]) (s.new hr (newL hr (rps_pick r2 qs hin))) (Ev.new hr)
  | _ => exact h.elim
def uReverse : PV → List PV → PHp → VK' → Prop := fun x vs H Q => match x, vs with
  | .ref a, [] => ∃ l, H a = some (.lst l) ∧ Q .non (put H a (.lst l.reverse))
  | _, _ => False
def uClear : PV → List PV → PHp → VK' → Prop := fun x vs H Q => match x, vs with
  | .ref a, [] => ∃ l, H a = some (.lst l) ∧ Q .non (put H a (.lst []))
  | _, _ => False
def uInsert : PV → List PV → PHp → VK' → Prop := fun x vs H Q => match x, vs with
  | .ref a, [.int i, y] => ∃ l, H a = some (.lst l) ∧ 0 ≤ i ∧ i.toNat ≤ l.length ∧ l.length < 1000 ∧ Q .non (put H a (.lst (l.take i.toNat ++ y :: l.drop i.toNat)))
  | _, _ => False
theorem w_rv {a : Addr} {H : PHp} {Q : VK'} : uReverse (.ref a) [] H Q = ∃ l, H a = some (.lst l) ∧ Q .non (put H a (.lst l.reverse)) := rfl
theorem w_cl {a : Addr} {H : PHp} {Q : VK'} : uClear (.ref a) [] H Q = ∃ l, H a = some (.lst l) ∧ Q .non (put H a (.lst [])) := rfl
theorem w_in {a : Addr} {i : Int} {y : PV} {H : PHp} {Q : VK'} : uInsert (.ref a) [.int i, y] H Q = ∃ l, H a = some (.lst l) ∧ 0 ≤ i ∧ i.toNat ≤ l.length ∧ l.length < 1000 ∧ Q .non (put H a (.lst (l.take i.toNat ++ y :: l.drop i.toNat))) := rfl
end U
namespace U
open PySem PySem.Spec PyProof.Rows L2
theorem qe_globE {B : Bs} {X : Cx} {x : Str} {v' : PV} {v : V} {pos : Pos} (hg : Gl X x) (h : ∃ u, X.mg x = some u ∧ RelV v u) (r' : ∀ H, RP X.K H v' v) (hd : (x == ("__debug__" : Str)) = false := by decide) : PE' X B (.Name x pos) (uC v') := by
  obtain ⟨u, hm, r⟩ := h
  exact qe_glob hg hm r r' hd
theorem comp_pure {ok : PHp → Prop} {g : TG'} {tt : TT'} {te : TE'} {acc : Addr} {Q : VK'} {H1 : PHp} {xs : List PV} (f : PV → PV) (pz : PV → Bool) (Iv : St' → Prop) (hlen : xs.length ≤ 1000) (hok : ∀ l, ok (put H1 acc (.lst l)))
    (hs : ∀ x ∈ xs, ∀ (l : List PV) (σ : St') (R : St' → PHp → Prop), Iv σ → l.length < sizeLine → (pz x = true → ∀ σ3, Iv σ3 → R σ3 (put H1 acc (.lst (l ++ [f x])))) → (pz x = false → ∀ σ3, Iv σ3 → R σ3 (put H1 acc (.lst l))) →
      g x σ (put H1 acc (.lst l)) fun σ3 H2 => tt σ3 H2 fun b H3 => cif b (te σ3 H3 fun y H4 => ∃ l', H4 acc = some (.lst l') ∧ l'.length < sizeLine ∧ R σ3 (put H4 acc (.lst (l' ++ [y])))) (R σ3 H3))
    (hq : Q (.ref acc) (put H1 acc (.lst ((xs.filter pz).map f)))) {σ : St'} (h0 : Iv σ) : uCompL ok g tt te acc Q xs σ (put H1 acc (.lst [])) := by
  have key : ∀ (r d : List PV) (σ : St'), xs = d ++ r → Iv σ → uCompL ok g tt te acc Q r σ (put H1 acc (.lst ((d.filter pz).map f))) := by
    intro r
    induction r with
    | nil =>
      intro d σ e hv
      have : d = xs := by rw [e, List.append_nil]
      subst this
      exact ⟨hok _, hq⟩
    | cons x r ih =>
      intro d σ e hv
      have hd : ((d.filter pz).map f).length < sizeLine := by
        have h1 : d.length + (r.length + 1) = xs.length := by rw [e, List.length_append, List.length_cons]
        have h2 := List.length_filter_le pz d
        have := small1000 (n := 1000) (by decide)
        rw [List.length_map]
        omega
      refine ⟨hok _, hs x (by rw [e]; simp) _ σ _ hv hd (fun hp σ3 h3 => ?_) (fun hp σ3 h3 => ?_)⟩
      · have := ih (d ++ [x]) σ3 (by rw [e]; simp) h3
        rw [List.filter_append, List.map_append] at this
        simpa [hp] using this
      · have := ih (d ++ [x]) σ3 (by rw [e]; simp) h3
        rw [List.filter_append, List.map_append] at this
        simpa [hp] using this
  exact key xs [] σ rfl h0
end U
namespace U
open PySem PySem.Spec PyProof.Rows L2
theorem w_fl {C : Addr} {f : Str} {a : Addr} {H : PHp} {Q : VK'} : fldOf C f (.ref a) H Q = ∃ dx fs v, H a = some (.ins C dx fs) ∧ fs.lookup f = some v ∧ Q v H := rfl
theorem w_sf {C : Addr} {f : Str} {a : Addr} {y : PV} {H : PHp} {Q : PHp → Prop} : stFld C f (.ref a) y H Q = ∃ dx fs, H a = some (.ins C dx fs) ∧ fs.length < 1000 ∧ Q (put H a (.ins C dx (putU f y fs))) := rfl
theorem w_ii {C : Addr} {m : Str} {a : Addr} {H : PHp} : isIn C m (.ref a) H = ∃ dx fs, H a = some (.ins C dx fs) ∧ fs.lookup m = none := rfl
theorem w_al {a : Addr} {H : PHp} {Q : VK'} : uAll [.ref a] H Q = ∃ bs : List Bool, H a = some (.lst (bs.map PV.bl)) ∧ Q (.bl (bs.all id)) H := rfl
theorem w_ls {a : Addr} {H : PHp} {Q : VK'} : lenSet (.ref a) H Q = ∃ ps : List (Int × Int), H a = some (.lst (ps.map prV)) ∧ ps.Nodup ∧ (∀ p ∈ ps, p ∈ SP.prs) ∧ ps.length ≤ 15 ∧ Q (.int ps.length) H := rfl
theorem w_sp {a : Addr} {H : PHp} {Q : VK'} : uSortP [.ref a] H Q = ∃ ps : List (Int × Int), H a = some (.lst (ps.map prV)) ∧ ps.Nodup ∧ (∀ p ∈ ps, 0 ≤ p.2 ∧ p.2 < 6) ∧ ps.length < 64 ∧ ∀ (r : Addr) (qs : List (Int × Int)), H r = none → qs.Perm ps → qs.Pairwise (fun x y => ST.pk x < ST.pk y) → Q (.ref r) (put H r (.lst (qs.map prV))) := rfl
end U


set_option linter.all false
set_option maxRecDepth 100000
set_option maxHeartbeats 4000000
namespace SI
open PySem
def tb (led : Bool) (L : List Nat) : SetTable := { mask := if L.length ≤ 4 then 7 else 31, place := L.toArray, dummies := #[], finger := 0, led := led, moves := if L.length ≤ 4 then 0 else 1, plain := true }
def pos (L : List Nat) (x : Nat) : Nat := (L.filter (· < x)).length
def ins (L : List Nat) (x : Nat) : List Nat := L.take (pos L x) ++ x :: L.drop (pos L x)
section
variable {prog : Program} {w : World} {A : Around} {E : Value → Shared → Prop} {s : Shared}
end
end SI


set_option linter.all false
set_option maxRecDepth 100000
set_option maxHeartbeats 4000000
namespace SI
open PySem
theorem erase_perm {α : Type} : ∀ (l : List α) (i : Nat) (h : i < l.length), (l[i] :: l.eraseIdx i).Perm l
  | x :: l, 0, _ => List.Perm.refl _
  | x :: l, i + 1, h => by
    have ih := erase_perm l i (by simpa using h)
    have h' : i < l.length := by simpa using h
    show (l[i] :: x :: l.eraseIdx i).Perm (x :: l)
    exact (List.Perm.swap _ _ _).trans (ih.cons x)
theorem pick_perm {α : Type} (next : Nat → Nat) : ∀ (f k : Nat) (l : List α) (out : Array α), f = l.length → (pickOrder.go next f k l out).toList.Perm (out.toList ++ l)
  | 0, k, l, out, h => by
    have : l = [] := List.length_eq_zero_iff.mp h.symm
    subst this
    show out.toList.Perm _
    rw [List.append_nil]
  | f + 1, k, l, out, h => by
    have hlt : next k % l.length < l.length := Nat.mod_lt _ (by omega)
    unfold pickOrder.go
    rw [List.getElem?_eq_getElem hlt]
    dsimp only
    refine (pick_perm next f (k + 1) _ _ (by rw [List.length_eraseIdx_of_lt hlt]; omega)).trans ?_
    rw [Array.toList_push, List.append_assoc]
    refine List.Perm.append_left _ ?_
    exact erase_perm l _ hlt
section
variable {prog : Program} {w : World} {A : Around} {E : Value → Shared → Prop} {s : Shared}
end
end SI


set_option linter.all false
set_option maxRecDepth 100000
set_option maxHeartbeats 4000000
namespace SI
open PySem PyProof.Rows
section
variable {prog : Program} {w : World} {A : Around} {E : Value → Shared → Prop} {s : Shared}
end
end SI


set_option linter.all false
set_option maxRecDepth 100000
set_option maxHeartbeats 4000000
namespace L2
open PySem PySem.Spec PyProof.Rows
variable {X : Cx}
end L2
namespace U
open PySem PySem.Spec PyProof.Rows L2
variable {B : Bs} {X : Cx} {e : Expr} {ta : TE'} {p p2 pos pos2 : Pos}
end U
namespace L2
open PySem PySem.Spec PyProof.Rows
variable {X : Cx} {tg : Expr}
end L2
namespace U
open PySem PySem.Spec PyProof.Rows L2
variable {B : Bs} {X : Cx} {a b c : Expr} {pos : Pos}
end U


set_option linter.all false
set_option maxRecDepth 100000
set_option maxHeartbeats 4000000
namespace U
open PySem PySem.Spec PyProof.Rows L2
variable {B : Bs} {X : Cx} {a b : Expr} {ta tb : TE'} {pos : Pos}
def uCat : R2' := fun x y H Q => match x, y with
  | .ref a, .ref b => ∃ l m, H a = some (.lst l) ∧ H b = some (.lst m) ∧ l.length + m.length ≤ sizeLine ∧ ∀ p, H p = none → Q (.ref p) (put H p (.lst (l ++ m)))
  | _, _ => False
theorem w_ca {a b : Addr} {H : PHp} {Q : VK'} : uCat (.ref a) (.ref b) H Q = ∃ l m, H a = some (.lst l) ∧ H b = some (.lst m) ∧ l.length + m.length ≤ sizeLine ∧ ∀ p, H p = none → Q (.ref p) (put H p (.lst (l ++ m))) := rfl
theorem vr_cat {K : PySem.W.Frag} : VR K B uCat rCat := by
  intro σ' σ H' H x' y' x y Q' Q s rx ry h k
  unfold uCat at h
  split at h
  · rename_i a b
    obtain ⟨l, m, e1, e2, hl, h⟩ := h
    simp only [RP] at rx ry
    subst rx; subst ry
    obtain ⟨us, q1, r1⟩ := s.hp _ _ e1
    obtain ⟨ws, q2, r2⟩ := s.hp _ _ e2
    refine ⟨a, b, us, ws, rfl, rfl, q1, q2, by rw [RPs.length _ r1, RPs.length _ r2]; exact hl, fun p hp => ?_⟩
    exact k _ _ _ _ (h p (s.hp.free hp)) (by simp [RP]) (s.new hp (newL hp (RPs.append _ r1 r2))) (Ev.new hp)
  · exact h.elim
theorem qe_cat (ha : PE' X B a ta) (hb : PE' X B b tb) : PE' X B (.BinOp a .Add b pos) (uOp uCat ta tb) := qe_op op_cat vr_cat ha hb
theorem cut_from (xs : List PV) (k : Nat) : cutP xs (some (k : Int)) none = xs.drop k := by
  unfold cutP
  rw [HT.sIx_nat, HT.sIx_none]
  rw [List.take_of_length_le (by rw [List.length_drop]; omega)]
  by_cases h : k ≤ xs.length
  · rw [Nat.min_eq_left h]
  · rw [Nat.min_eq_right (by omega), List.drop_length, List.drop_eq_nil_of_le (by omega)]
end U


set_option linter.all false
set_option maxRecDepth 100000
set_option maxHeartbeats 4000000 -- own
namespace L2
open PySem PySem.Spec PyProof.Rows
variable {X : Cx}
def sT (l : List Nat) : Str := ⟨l.toArray⟩
theorem sT_len (l : List Nat) : (sT l).length = l.length := by simp [sT, Str.length]
theorem sT_cps (l : List Nat) : (sT l).cps.toList = l := by simp [sT]
theorem sT_add (a b : List Nat) : sT a ++ sT b = sT (a ++ b) := by
  show Str.append (sT a) (sT b) = _
  simp [Str.append, sT]
theorem strs_are : ∀ {ys : List Str} {its : List Value}, Vals (ys.map V.str) its → StrsAre its ys
  | [], [], .nil => .nil
  | y :: ys, v :: its, .cons h t => by obtain ⟨tk, rfl⟩ := h; exact .cons y tk (strs_are t)
def rJoin (K : PySem.W.Frag) : V → List V → Hp → VK → Prop := fun x xs H Q => ∃ sep a ys, x = .str sep ∧ xs = [.ref a] ∧ SqL K H a (ys.map V.str) ∧ sep.length ≤ 16 ∧ (ys.map (·.length)).sum + ys.length ≤ 1048576 ∧ Q (.str (Txt.join sep ys)) H
theorem mt_join : MtR X "str.join" (rJoin X.K) := by
  intro pins s σ H x xs v us Q I rx r h
  obtain ⟨sep, a, ys, rfl, rfl, hq, h1, h2, q⟩ := h
  obtain ⟨t, rfl⟩ := rx
  obtain ⟨u, rfl, ru⟩ := Vals.one r
  cases ru
  obtain ⟨its, rv, p, hz⟩ := I.list hq
  exact join_listW p.isList (strs_are (by simpa using rv)) h1 h2 fun t' k => ⟨.str _, H, I.kept (t' := k) (fun b o e => e), ⟨_, rfl⟩, q⟩
theorem mt_find : MtR X "str.find" (fun x xs H Q => ∃ z y, x = .str z ∧ xs = [.str y] ∧ Q (.int (Txt.find z y)) H) := by
  intro pins s σ H x xs v us Q I rx r h
  obtain ⟨z, y, rfl, rfl, q⟩ := h
  obtain ⟨t, rfl⟩ := rx
  obtain ⟨u, rfl, ru⟩ := Vals.one r
  obtain ⟨t2, rfl⟩ := ru
  exact call_gives F.slot_str_find (typeIs_str _ _ _) F.entry_str_find (F.args_str_find_2 _ _) (gives_str_find z y t t2) ⟨.int _, H, I.kept (t' := s.toks + 1) (fun b o e => e), ⟨_, rfl⟩, q⟩
def rSlS : V → Option Int → Option Int → Hp → VK → Prop := fun x lo hi H Q => ∃ z, x = .str z ∧ z.length ≤ sizeLine ∧ Q (.str (Txt.slice z lo hi)) H
theorem part_ex {v : Value} {o : Option Int} (p : IsPart v o) : ∃ l : Option (Int × Tok), v = partValue l ∧ l.map (·.1) = o := by
  cases p with
  | none => exact ⟨none, rfl, rfl⟩
  | int i t => exact ⟨some (i, t), rfl, rfl⟩
theorem sl_str : SlR X rSlS := by
  intro pins s σ H x v vl vu lo hi sl Q I rx hs pl pu h
  obtain ⟨z, rfl, hz, q⟩ := h
  obtain ⟨t, rfl⟩ := rx
  obtain ⟨l, rfl, rfl⟩ := part_ex pl
  obtain ⟨u, rfl, rfl⟩ := part_ex pu
  refine ⟨"str", _, F.slot_str_getitem.lookup, typeIs_str _ _ _, wpAny_getItem_str_slice (l := l) (u := u) (st := none) hs rfl ?_⟩
  have ef : (none : Option (Int × Tok)).map (·.1) = none := rfl
  unfold Txt.slice at q
  unfold sliceMade slicePicked
  simp only [ef, Option.getD_none] at q ⊢
  split
  · rename_i e
    rw [if_pos e] at q
    exact ⟨.str z, H, I, ⟨_, rfl⟩, q⟩
  · rename_i e
    rw [if_neg e] at q
    refine ⟨?_, .str _, H, I.kept (t' := s.toks + 1) (fun b o e => e), ⟨_, rfl⟩, q⟩
    show (List.filterMap _ _).toArray.size ≤ sizeLine
    rw [List.size_toArray]
    exact Nat.le_trans (Nat.le_trans (List.length_filterMap_le _ _) (sliceIndices_le _ _ _)) hz
end L2
namespace U
open PySem PySem.Spec PyProof.Rows L2
variable {B : Bs} {X : Cx} {a b o e : Expr} {es : List Expr} {ta tb to : TE'} {t : TA'} {pos apos cpos : Pos} {name : Str}
abbrev tx (l : List Nat) : PV := .str (sT l)
def uAddS : R2' := fun x y H Q => match x, y with
  | .str i, .str j => i.length + j.length ≤ sizeLine ∧ Q (.str (i ++ j)) H
  | _, _ => False
theorem w_aS {i j : Str} {H : PHp} {Q : VK'} : uAddS (.str i) (.str j) H Q = (i.length + j.length ≤ sizeLine ∧ Q (.str (i ++ j)) H) := rfl
theorem vr_addS {K : PySem.W.Frag} : VR K B uAddS (fun x y H Q => ∃ i j, x = .str i ∧ y = .str j ∧ i.length + j.length ≤ sizeLine ∧ Q (.str (i ++ j)) H) := by
  intro σ' σ H' H x' y' x y Q' Q s rx ry h k
  unfold uAddS at h
  split at h
  · rename_i i j
    simp only [RP] at rx ry
    exact ⟨i, j, rx, ry, h.1, k _ _ _ _ h.2 (by simp [RP]) s (Ev.refl _ _)⟩
  · exact h.elim
theorem qe_addS (ha : PE' X B a ta) (hb : PE' X B b tb) : PE' X B (.BinOp a .Add b pos) (uOp uAddS ta tb) := qe_op op_add_str vr_addS ha hb
def uIxS : R2' := fun x y H Q => match x, y with
  | .str z, .int i => z.length ≤ sizeLine ∧ ∃ c, atI z.cps.toList i = some c ∧ Q (.str ⟨#[c]⟩) H
  | _, _ => False
theorem w_iS {z : Str} {i : Int} {H : PHp} {Q : VK'} : uIxS (.str z) (.int i) H Q = (z.length ≤ sizeLine ∧ ∃ c, atI z.cps.toList i = some c ∧ Q (.str ⟨#[c]⟩) H) := rfl
theorem vr_ixS {K : PySem.W.Frag} : VR K B uIxS rIxS := by
  intro σ' σ H' H x' y' x y Q' Q s rx ry h k
  unfold uIxS at h
  split at h
  · rename_i z i
    simp only [RP] at rx ry
    obtain ⟨h1, c, h2, h3⟩ := h
    exact ⟨z, i, c, rx, ry, h1, h2, k _ _ _ _ h3 (by simp [RP]) s (Ev.refl _ _)⟩
  · exact h.elim
theorem qe_ixS (ha : PE' X B a ta) (hb : PE' X B b tb) (hs : PlainIx b) : PE' X B (.Subscript a b pos) (uOp uIxS ta tb) := pe_imp (pe_ix ix_str ha hb hs) fun _ _ _ h => low_op vr_ixS h
def uLenS : List PV → PHp → VK' → Prop := arg1 fun x H Q => match x with
  | .str z => z.length ≤ sizeLine ∧ Q (.int z.length) H
  | _ => False
theorem w_lS {z : Str} {H : PHp} {Q : VK'} : uLenS [.str z] H Q = (z.length ≤ sizeLine ∧ Q (.int z.length) H) := rfl
def sgn (c : Nat) : PV := .str ⟨#[c]⟩
def uListS : List PV → PHp → VK' → Prop := arg1 fun x H Q => match x with
  | .str z => z.length ≤ sizeLine ∧ ∀ r, H r = none → Q (.ref r) (put H r (.lst (z.cps.toList.map sgn)))
  | _ => False
theorem w_LS {z : Str} {H : PHp} {Q : VK'} : uListS [.str z] H Q = (z.length ≤ sizeLine ∧ ∀ r, H r = none → Q (.ref r) (put H r (.lst (z.cps.toList.map sgn)))) := rfl
def isT (x : PV) : Prop := match x with
  | .str _ => True
  | _ => False
theorem w_iT {z : Str} : isT (.str z) = True := rfl
def uBMS (r : PV → List PV → PHp → VK' → Prop) (to : TE') (t : TA') : TE' := fun σ H Q => to σ H fun x H1 => isT x ∧ t σ H1 fun xs H2 => r x xs H2 Q
theorem qe_bmS {id : String} {r' : PV → List PV → PHp → VK' → Prop} {r : V → List V → Hp → VK → Prop} (pa : PlainAttrs "str") (slot : Slot "str" name id) (hty : typeOf (.builtin id) = pure (.type "method_descriptor")) (hm : MtR X id r) (v : VM X.K B r' r) (ho : PE' X B o to) (ha : PA' X B (e :: es) t)
    (hbase : attributeBase o name X.env (eval o X.env) = eval o X.env := by rfl)
    (hfew : ((backTo cpos (starEach (e :: es) X.env)).all (fun x => !x.1) && (backToKw cpos (keywordEach [] X.env)).all (fun x => x.1.isSome)
      && decide ((e :: es).length + ([] : List Keyword).length + (if ([] : List Keyword).isEmpty then 0 else 1) < 30)) = true := by rfl)
    (hline : (apos.endLine == cpos.line) = true := by rfl) (hs : starEach (e :: es) X.env = (false, eval e X.env) :: starEach es X.env := by rfl) (hplain : (backTo cpos (starEach es X.env)).any (·.1) = false := by rfl) :
    PE' X B (.Call (.Attribute o name apos) (e :: es) [] cpos) (uBMS r' to t) := pe_imp (pe_bm pa slot hty hm ho ha hbase hfew hline hs hplain) fun σ H Q h => by
  obtain ⟨σ', H', Q', s, h, k⟩ := h
  refine ⟨σ', H', _, s, h, fun x' H1' x H1 h1 rx s1 e1 => ?_⟩
  obtain ⟨ty, h1⟩ := h1
  constructor
  · cases x' with
    | str z =>
      simp only [RP] at rx
      subst rx
      rfl
    | _ => exact ty.elim
  · refine ⟨σ', H1', _, s1, h1, fun xs' H2' xs H2 h2 r2 s2 e2 => ?_⟩
    exact v σ' σ H2' H2 x' xs' x xs Q' Q s2 (RP.kp X.K (e2.kp s1.hp) rx) r2 h2 fun v' H3' v H3 q rv s3 e3 => k v' H3' v H3 q rv s3 (e1.trans (e2.trans e3))
def uFind : PV → List PV → PHp → VK' → Prop := fun x vs H Q => match x, vs with
  | .str z, [.str y] => Q (.int (Txt.find z y)) H
  | _, _ => False
theorem w_fd {z y : Str} {H : PHp} {Q : VK'} : uFind (.str z) [.str y] H Q = Q (.int (Txt.find z y)) H := rfl
theorem vm_find {K : PySem.W.Frag} : VM K B uFind (fun x xs H Q => ∃ z y, x = .str z ∧ xs = [.str y] ∧ Q (.int (Txt.find z y)) H) := by
  intro σ' σ H' H x' xs' x xs Q' Q s rx r h k
  unfold uFind at h
  split at h
  · rename_i z y
    simp only [RP] at rx
    simp only [RPs, RP] at r
    obtain ⟨_, _, rfl, rfl, rfl⟩ := r
    exact ⟨z, y, rx, rfl, k _ _ _ _ h (by simp [RP]) s (Ev.refl _ _)⟩
  · exact h.elim
theorem rps_strs {K : PySem.W.Frag} {H : Hp} : ∀ {ys : List Str} {us : List V}, RPs K H (ys.map PV.str) us → us = ys.map V.str
  | [], _, h => by simpa [RPs] using h
  | y :: ys, _, h => by
    simp only [List.map_cons, RPs, RP] at h
    obtain ⟨u, r, rfl, rfl, h2⟩ := h
    rw [rps_strs h2]; rfl
def uJoin : PV → List PV → PHp → VK' → Prop := fun x vs H Q => match x, vs with
  | .str z, [.ref a] => ∃ ys : List Str, H a = some (.lst (ys.map PV.str)) ∧ z.length ≤ 16 ∧ (ys.map (·.length)).sum + ys.length ≤ 1048576 ∧ Q (.str (Txt.join z ys)) H
  | _, _ => False
theorem w_jn {z : Str} {a : Addr} {H : PHp} {Q : VK'} : uJoin (.str z) [.ref a] H Q = ∃ ys : List Str, H a = some (.lst (ys.map PV.str)) ∧ z.length ≤ 16 ∧ (ys.map (·.length)).sum + ys.length ≤ 1048576 ∧ Q (.str (Txt.join z ys)) H := rfl
theorem vm_join {K : PySem.W.Frag} : VM K B uJoin (rJoin K) := by
  intro σ' σ H' H x' xs' x xs Q' Q s rx r h k
  unfold uJoin at h
  split at h
  · rename_i z a
    obtain ⟨ys, ea, h1, h2, q⟩ := h
    simp only [RP] at rx
    simp only [RPs, RP] at r
    obtain ⟨_, _, rfl, rfl, rfl⟩ := r
    obtain ⟨us, e, r2⟩ := s.hp _ _ ea
    rw [rps_strs r2] at e
    exact ⟨z, a, ys, rx, rfl, .inl (.inl e), h1, h2, k _ _ _ _ q (by simp [RP]) s (Ev.refl _ _)⟩
  · exact h.elim
def sliceS (x : PV) (lo hi : Option Int) (H : PHp) (Q : VK') : Prop := match x with
  | .str z => z.length ≤ sizeLine ∧ Q (.str (Txt.slice z lo hi)) H
  | _ => False
theorem w_sS {z : Str} {lo hi : Option Int} {H : PHp} {Q : VK'} : sliceS (.str z) lo hi H Q = (z.length ≤ sizeLine ∧ Q (.str (Txt.slice z lo hi)) H) := rfl
def uSliceS (ta : TE') (tl th : TO') : TE' := fun σ H Q => ta σ H fun x H1 => tl σ H1 fun lo H2 => th σ H2 fun hi H3 => sliceS x lo hi H3 Q
theorem qe_sliceS {lo hi : Option Expr} {tl th : TO'} {p2 : Pos} (he : PE' X B e ta) (hl : PO' X B lo tl) (hu : PO' X B hi th) : PE' X B (.Subscript e (.Slice lo hi none p2) pos) (uSliceS ta tl th) :=
  pe_imp (pe_slice sl_str he hl hu) fun σ H Q ⟨σ', H', Q', s, h, k⟩ => by
  refine ⟨σ', H', _, s, h, fun x H1' v H1 h1 r1 s1 e1 => ⟨σ', H1', _, s1, h1, fun l H2' H2 h2 s2 e2 => ⟨σ', H2', _, s2, h2, fun u H3' H3 h3 s3 e3 => ?_⟩⟩⟩
  cases x with
  | str z =>
    simp only [RP] at r1
    exact ⟨z, r1, h3.1, k _ _ _ _ h3.2 (by simp [RP]) s3 (e1.trans (e2.trans e3))⟩
  | _ => exact h3.elim
end U


set_option linter.all false
set_option maxRecDepth 100000
set_option maxHeartbeats 4000000 -- own
namespace L2
open PySem PySem.Spec PyProof.Rows
variable {X : Cx}
theorem vals_rev' : ∀ {us : List V} {its : List Value}, Vals us its → Vals us.reverse its.reverse
  | [], [], .nil => .nil
  | x :: us, v :: its, .cons h t => by
    have app : ∀ {l l2 : List V} {m m2 : List Value}, Vals l m → Vals l2 m2 → Vals (l ++ l2) (m ++ m2) := by
      intro l
      induction l with
      | nil => intro l2 m m2 h1 h2; cases h1; exact h2
      | cons a l ih => intro l2 m m2 h1 h2; cases h1 with | cons q r => exact .cons q (ih r h2)
    rw [List.reverse_cons, List.reverse_cons]
    exact app (vals_rev' t) (.cons h .nil)
section
variable {e e3 : Expr} {te : TE} {ts : TO} {pos p2 : Pos}
def tRev1 (K : PySem.W.Frag) (te : TE) (ts : TO) : TE := fun σ H Q => te σ H fun x H1 => ts σ H1 fun o H2 => o = some (-1) ∧ ∃ a xs, x = .ref a ∧ SqL K H2 a xs ∧ ∀ p, H2 p = none → Q (.ref p) (upd H2 p (.lst xs.reverse))
theorem pe_rev1 (he : PE X e te) (hst : PO X (some e3) ts) : PE X (.Subscript e (.Slice none none (some e3) p2) pos) (tRev1 X.K te ts) := by
  intro pins s σ H Q I h
  refine Subscript_ (thn (he pins s σ H _ I h) fun v s1 ⟨x, H1, I1, r1, q1⟩ => ?_)
  refine wpAny_Slice ?_
  rw [evalPart_none]
  refine wpAny_pure ?_
  refine wpAny_pure ?_
  refine thn (hst pins s1 σ H1 _ I1 q1) fun vs s2 ⟨o, H2, I2, ps, q2⟩ => ?_
  obtain ⟨rfl, a, xs, rfl, hx, q⟩ := q2
  cases r1
  have I3 : Inv X pins σ H2 { s2 with heap := s2.heap.push { cls := .type "slice", data := .fields #[.none, .none, vs] } } := I2.kept (t' := s2.toks) fun b ob q => Heap.get?_push_of_some _ q
  obtain ⟨its, r, ht, hz⟩ := I3.list hx
  have hlen := r.length
  show wpAny (model X.prog X.w) X.A (subscriptTail e (.Slice none none (some e3) p2) (.ref a) (.ref s2.heap.objs.size)) (EP X pins σ Q) X.xe { s2 with heap := s2.heap.push { cls := .type "slice", data := .fields #[.none, .none, vs] } }
  refine tail_any (ops := [.ref a, .ref s2.heap.objs.size]) ht.isList.typeIs slot_list_getitem.lookup ?_ (by with_unfolding_all rfl)
  refine wpAny_getItem_list_slice (lo := none) (hi := none) ht.isList (Heap.IsSliceOf.new ..) .none .none ps (by decide) ?_ (by rw [List.size_toArray] <;> omega)
  rw [PySem.W.krv_pick]
  refine ⟨.ref _, _, I3.laid (t' := s2.toks) (o := .lst xs.reverse) (fun b ob q => Heap.get?_push_of_some _ q) (Nat.le_refl _) ?_, rfl, q _ (I3.hok.fresh (Nat.le_refl _))⟩
  exact ⟨by rw [List.length_reverse]; exact hz, _, 0, vals_rev' r, Heap.get?_push_size _ rfl⟩
end
theorem vals_strs : ∀ {l : List (Str × Tok)}, Vals ((l.map (·.1)).map V.str) (strValues l)
  | [] => .nil
  | p :: l => .cons ⟨p.2, rfl⟩ vals_strs
theorem call_split {prog : Program} {w : World} {A : Around} {E : Value → Shared → Prop} {s : Shared} {x y : Str} {t u : Tok} {Q : Value → Shared → Prop} (hy : (y.length == 0) = false) (hsz : x.length + 2 ≤ sizeLine)
    (h : ∀ l k, l.map (·.1) = Txt.split x y → Q (.ref s.heap.objs.size) { s with heap := s.heap.push { cls := .type "list", data := .seq (strValues l).toArray }, toks := k }) :
    wpAny (model prog w) A (call (.builtin "str.split") [.str x t, .str y u]) Q E s := by
  have hn : (Builtin.Str.partsBetween x (Builtin.Str.occurrences x y 0 x.length (x.length + 1)) y.length).length ≤ sizeLine := by
    have e1 := StrLaws.occ_length_le x y 0 x.length (x.length + 1)
    rw [length_partsBetween]; omega
  cases h1 : (decide (x.length < y.length) || decide (Builtin.Str.strKind x < Builtin.Str.strKind y))
  · cases hf : (Builtin.Str.occurrences x y 0 x.length (x.length + 1)).isEmpty
    · refine call_meets F.slot_str_split (typeIs_str _ _ _) F.entry_str_split (F.args_str_split_2 _ _) (meets_str_split_sep x y t u h1 hy hf (by omega) hn) ?_
      show wants Q E _ { s with toks := _, heap := s.heap.push { cls := .type "list", data := .seq (strsFrom s.toks (Builtin.Str.partsBetween x (Builtin.Str.occurrences x y 0 x.length (x.length + 1)) y.length)).toArray } }
      rw [strsFrom_eq]
      exact h (numbered s.toks _) _ ((numbered_texts _ _).trans ((if_neg (ne_true_of_eq_false h1)).trans (if_neg (ne_true_of_eq_false hf))).symm)
    · exact call_meets F.slot_str_split (typeIs_str _ _ _) F.entry_str_split (F.args_str_split_2 _ _) (meets_str_split_not_found x y t u h1 hy hf) (h [(x, t)] s.toks ((if_neg (ne_true_of_eq_false h1)).trans (if_pos hf)).symm)
  · exact call_meets F.slot_str_split (typeIs_str _ _ _) F.entry_str_split (F.args_str_split_2 _ _) (meets_str_split_cannot_occur x y t u h1) (h [(x, t)] s.toks (if_pos h1).symm)
def rSplit : V → List V → Hp → VK → Prop := fun x xs H Q => ∃ z y, x = .str z ∧ xs = [.str y] ∧ (y.length == 0) = false ∧ z.length + 2 ≤ sizeLine ∧ ∀ r, H r = none → Q (.ref r) (upd H r (.lst ((Txt.split z y).map V.str)))
theorem mt_split : MtR X "str.split" rSplit := by
  intro pins s σ H x xs v us Q I rx r h
  obtain ⟨z, y, rfl, rfl, hy, hz, q⟩ := h
  obtain ⟨t, rfl⟩ := rx
  obtain ⟨u, rfl, ru⟩ := Vals.one r
  obtain ⟨t2, rfl⟩ := ru
  refine call_split hy hz fun l k el => ?_
  have hn : H s.heap.objs.size = none := I.hok.fresh (Nat.le_refl _)
  refine ⟨.ref _, _, I.laid (t' := k) (o := .lst ((Txt.split z y).map V.str)) (fun b o e => Heap.get?_push_of_some _ e) (Nat.le_refl _) ?_, rfl, q _ hn⟩
  refine ⟨?_, strValues l, 0, by rw [← el]; exact vals_strs, Heap.get?_push_size _ rfl⟩
  rw [List.length_map]
  exact Nat.le_trans (split_le z y) hz
end L2
namespace U
open PySem PySem.Spec PyProof.Rows L2
variable {B : Bs} {X : Cx} {a b o e e3 : Expr} {es : List Expr} {ta tb to : TE'} {t : TA'} {pos p2 apos cpos : Pos} {name : Str}
def rev1 (x : PV) (H : PHp) (Q : VK') : Prop := match x with
  | .ref a => ∃ l, H a = some (.lst l) ∧ ∀ p, H p = none → Q (.ref p) (put H p (.lst l.reverse))
  | _ => False
theorem w_r1x {a : Addr} {H : PHp} {Q : VK'} : rev1 (.ref a) H Q = ∃ l, H a = some (.lst l) ∧ ∀ p, H p = none → Q (.ref p) (put H p (.lst l.reverse)) := rfl
def uRev1 (ta : TE') (ts : TO') : TE' := fun σ H Q => ta σ H fun x H1 => ts σ H1 fun o H2 => o = some (-1) ∧ rev1 x H2 Q
theorem rps_rev' {K : PySem.W.Frag} {H : Hp} : ∀ {l : List PV} {us : List V}, RPs K H l us → RPs K H l.reverse us.reverse
  | [], _, h => by simp only [RPs] at h; subst h; simp [RPs]
  | x :: l, _, h => by
    simp only [RPs] at h
    obtain ⟨u, r, rfl, a, b⟩ := h
    rw [List.reverse_cons, List.reverse_cons]
    exact RPs.append K (rps_rev' b) (RPs.cons K a (RPs.nil K))
theorem qe_rev1 {ts : TO'} (he : PE' X B e ta) (hs : PO' X B (some e3) ts) : PE' X B (.Subscript e (.Slice none none (some e3) p2) pos) (uRev1 ta ts) :=
  pe_imp (pe_rev1 he hs) fun σ H Q ⟨σ', H', Q', s, h, k⟩ => by
  refine ⟨σ', H', _, s, h, fun x H1' v H1 h1 r1 s1 e1 => ⟨σ', H1', _, s1, h1, fun l H2' H2 h2 s2 e2 => ?_⟩⟩
  obtain ⟨ho, h2⟩ := h2
  refine ⟨ho, ?_⟩
  cases x with
  | ref a =>
    obtain ⟨l, ea, q⟩ := h2
    simp only [RP] at r1
    obtain ⟨us, eg, r⟩ := s2.hp _ _ ea
    exact ⟨a, us, r1, .inl (.inl eg), fun p hp => k _ _ _ _ (q p (s2.hp.free hp)) (by simp [RP]) (s2.new hp (newL hp (rps_rev' r))) ((e1.trans e2).trans (Ev.new hp))⟩
  | _ => exact h2.elim
def uSplit : PV → List PV → PHp → VK' → Prop := fun x vs H Q => match x, vs with
  | .str z, [.str y] => (y.length == 0) = false ∧ z.length + 2 ≤ sizeLine ∧ ∀ r, H r = none → Q (.ref r) (put H r (.lst ((Txt.split z y).map PV.str)))
  | _, _ => False
theorem w_spl {z y : Str} {H : PHp} {Q : VK'} : uSplit (.str z) [.str y] H Q = ((y.length == 0) = false ∧ z.length + 2 ≤ sizeLine ∧ ∀ r, H r = none → Q (.ref r) (put H r (.lst ((Txt.split z y).map PV.str)))) := rfl
theorem strs_rps {K : PySem.W.Frag} {H : Hp} : ∀ {ys : List Str}, RPs K H (ys.map PV.str) (ys.map V.str)
  | [] => by simp [RPs]
  | y :: ys => RPs.cons K (by simp [RP]) strs_rps
theorem vm_split {K : PySem.W.Frag} : VM K B uSplit rSplit := by
  intro σ' σ H' H x' xs' x xs Q' Q s rx r h k
  unfold uSplit at h
  split at h
  · rename_i z y
    obtain ⟨h1, h2, q⟩ := h
    simp only [RP] at rx
    simp only [RPs, RP] at r
    obtain ⟨_, _, rfl, rfl, rfl⟩ := r
    exact ⟨z, y, rx, rfl, h1, h2, fun r hr => k _ _ _ _ (q r (s.hp.free hr)) (by simp [RP]) (s.new hr (newL hr strs_rps)) (Ev.new hr)⟩
  · exact h.elim
def uInS : R2' := fun x y H Q => match x, y with
  | .str i, .str j => Q (.bl (!(Builtin.Str.occurrences j i 0 j.length 1).isEmpty)) H
  | _, _ => False
theorem w_nS {i j : Str} {H : PHp} {Q : VK'} : uInS (.str i) (.str j) H Q = Q (.bl (!(Builtin.Str.occurrences j i 0 j.length 1).isEmpty)) H := rfl
theorem vr_inS {K : PySem.W.Frag} : VR K B uInS (fun x y H Q => ∃ i j, x = .str i ∧ y = .str j ∧ Q (.bl (!(Builtin.Str.occurrences j i 0 j.length 1).isEmpty)) H) := by
  intro σ' σ H' H x' y' x y Q' Q s rx ry h k
  unfold uInS at h
  split at h
  · rename_i i j
    simp only [RP] at rx ry
    exact ⟨i, j, rx, ry, k _ _ _ _ h (by simp [RP]) s (Ev.refl _ _)⟩
  · exact h.elim
def uStrI' : List PV → PHp → VK' → Prop := arg1 fun x H Q => match x with
  | .int i => i.natAbs.log2 < 1920 ∧ Q (.str (toString i)) H
  | _ => False
theorem w_sti {i : Int} {H : PHp} {Q : VK'} : uStrI' [.int i] H Q = (i.natAbs.log2 < 1920 ∧ Q (.str (toString i)) H) := rfl
theorem vc_strI {K : PySem.W.Frag} : VC K B uStrI' (fun xs H Q => ∃ i, xs = [.int i] ∧ i.natAbs.log2 < 1920 ∧ Q (.str (toString i)) H) := by
  intro σ' σ H' H xs' xs Q' Q s r h k
  obtain ⟨x', x, rfl, rfl, rx, h⟩ := arg1.ex h r
  cases x' with
  | int i =>
    simp only [RP] at rx
    subst rx
    exact ⟨i, rfl, h.1, k _ _ _ _ h.2 (by simp [RP]) s (Ev.refl _ _)⟩
  | _ => exact h.elim
def uMax : List PV → PHp → VK' → Prop := fun xs H Q => match xs with
  | [.int i, .int j] => Q (.int (if j > i then j else i)) H
  | _ => False
theorem w_mx {i j : Int} {H : PHp} {Q : VK'} : uMax [.int i, .int j] H Q = Q (.int (if j > i then j else i)) H := rfl
theorem vc_max {K : PySem.W.Frag} : VC K B uMax (fun xs H Q => ∃ i j, xs = [.int i, .int j] ∧ Q (.int (if j > i then j else i)) H) := by
  intro σ' σ H' H xs' xs Q' Q s r h k
  unfold uMax at h
  split at h
  · rename_i i j
    simp only [RPs, RP] at r
    obtain ⟨_, _, rfl, rfl, _, _, rfl, rfl, rfl⟩ := r
    exact ⟨i, j, rfl, k _ _ _ _ h (by simp [RP]) s (Ev.refl _ _)⟩
  · exact h.elim
theorem qs_try0 {body : List Stmt} {h0 : ExceptHandler} {hs : List ExceptHandler} {tb : TS'} (hx : ∀ e s, X.xe e s → False) (hb : PSs' X B body tb) : PS' X B (.Try body (h0 :: hs) [] [] pos) tb := by
  intro pins s σ H D I h
  refine wpAny_Try_except (wpAny_mono (hb pins s σ H D I h) (fun f s1 q => ?_) (fun e s1 q => (hx e s1 q).elim))
  cases f with
  | next =>
    obtain ⟨σ', H', I', q⟩ := q
    exact pss_nil pins s1 σ' H' D I' q
  | _ => exact q
structure OwnC (K : PySem.W.Frag) (C : Addr) : Prop where
  cl : Cls K C
  ha : PySem.W.findIn K (.ref C) "__class__" = some (some (.builtin "object.__class__"))
  hn : PySem.W.specialIn K (.builtin "object.__class__") "__get__" = some (some (.builtin "getset_descriptor.__get__"))
  htk : PySem.W.takesIn K (.builtin "object.__class__") = some true
  hm : PySem.W.mroIn K C (.type "object") = some true
  own : PySem.W.kitOne K (.ref C) (.ref C) = some true
theorem call_own {C : Addr} (c : OwnC X.K C) : CallR X (.builtin "isinstance") (fun xs H Q => ∃ a dx fs, xs = [.ref a, .ref C] ∧ H a = some (.ins C dx fs) ∧ Q (.bl true) H) := by
  intro pins s σ H xs us Q I r h
  obtain ⟨a, dx, fs, rfl, ea, q⟩ := h
  obtain ⟨u, w', rfl, rx, rc⟩ := vals2 r
  have e1 : w' = Value.ref C := rc
  subst e1
  exact isinst_ok I rx (.ins ea c.cl c.ha c.hn c.htk c.hm) c.own fun tk => ⟨.bl true, H, I.tok _, rfl, q⟩
def isOwn (C : Addr) (x : PV) (H : PHp) (Q : VK') : Prop := match x with
  | .ref a => ∃ dx fs, H a = some (.ins C dx fs) ∧ Q (.bl true) H
  | _ => False
theorem w_own {C a : Addr} {H : PHp} {Q : VK'} : isOwn C (.ref a) H Q = ∃ dx fs, H a = some (.ins C dx fs) ∧ Q (.bl true) H := rfl
def uOwn (C : Addr) (ta : TE') : TE' := fun σ H Q => ta σ H fun x H1 => isOwn C x H1 Q
theorem qe_own {pD p : Pos} {x : Str} {D : Addr} (c : OwnC X.K D) (hm : X.mg x = some (.ref D)) (hgD : Gl X x) (hg : Gl X "isinstance") (hi : X.mg "isinstance" = none) (ha : PE' X B e ta) (hdb : (x == ("__debug__" : Str)) = false := by decide)
    (he : starEach [e, .Name x pD] X.env = (false, eval e X.env) :: starEach [.Name x pD] X.env := by rfl) (he2 : starEach [.Name x pD] X.env = (false, eval (.Name x pD) X.env) :: starEach [] X.env := by rfl) (hpl : (backTo pos (starEach [.Name x pD] X.env)).any (·.1) = false := by rfl) :
    PE' X B (.Call (.Name "isinstance" p) [e, .Name x pD] [] pos) (uOwn D ta) :=
  pe_imp (pe_callB (call_own c) hg hi boot_isinstance (pa_cons ha (pa_cons (pe_glob hgD hm (v := .ref D) rfl hdb) pa_nil he2) he) (by decide) (by decide) he hpl) fun σ H Q h => by
    obtain ⟨σ', H', Q', s, h, k⟩ := h
    refine ⟨σ', H', _, s, h, fun x' H1' x H1 h1 rx s1 e1 => ?_⟩
    cases x' with
    | ref a =>
      obtain ⟨dx, fs, ea, q⟩ := h1
      simp only [RP] at rx
      subst rx
      obtain ⟨gs, eg, _⟩ := s1.hp _ _ ea
      exact ⟨a, dx, gs, rfl, eg, k _ _ _ _ q (by simp [RP]) s1 e1⟩
    | _ => exact h1.elim
end U


set_option linter.all false
set_option maxRecDepth 100000
set_option maxHeartbeats 4000000 -- own
namespace L2
open PySem PySem.Spec PyProof.Rows
variable {X : Cx}
end L2
namespace U
open PySem PySem.Spec PyProof.Rows L2
variable {B : Bs} {X : Cx} {a b : Expr} {ta tb : TE'} {pos : Pos}
def uMin : List PV → PHp → VK' → Prop := fun xs H Q => match xs with
  | [.int i, .int j] => Q (.int (if j < i then j else i)) H
  | _ => False
theorem w_mi {i j : Int} {H : PHp} {Q : VK'} : uMin [.int i, .int j] H Q = Q (.int (if j < i then j else i)) H := rfl
theorem vc_min {K : PySem.W.Frag} : VC K B uMin (fun xs H Q => ∃ i j, xs = [.int i, .int j] ∧ Q (.int (if j < i then j else i)) H) := by
  intro σ' σ H' H xs' xs Q' Q s r h k
  unfold uMin at h
  split at h
  · rename_i i j
    simp only [RPs, RP] at r
    obtain ⟨_, _, rfl, rfl, _, _, rfl, rfl, rfl⟩ := r
    exact ⟨i, j, rfl, k _ _ _ _ h (by simp [RP]) s (Ev.refl _ _)⟩
  · exact h.elim
end U


set_option linter.all false
namespace DM
abbrev P2 := Int × Int
def pk (p : P2) : Int := 6 * p.1 + p.2
structure Good (c : Int) (l : List P2) : Prop where
  nd : l.Nodup
  lo : ∀ p ∈ l, 0 ≤ p.1 ∧ p.1 < p.2 ∧ p.2 < c
theorem sorted_eq {α : Type} (k : α → Int) : ∀ {a b : List α}, a.Pairwise (fun x y => k x < k y) → b.Pairwise (fun x y => k x < k y) → (∀ x, x ∈ a ↔ x ∈ b) → a = b
  | [], [], _, _, _ => rfl
  | [], y :: b, _, _, h => by have := (h y).mpr List.mem_cons_self; simp at this
  | x :: a, [], _, _, h => by have := (h x).mp List.mem_cons_self; simp at this
  | x :: a, y :: b, ha, hb, h => by
    obtain ⟨h1, h2⟩ := List.pairwise_cons.mp ha
    obtain ⟨g1, g2⟩ := List.pairwise_cons.mp hb
    have e : x = y := by
      rcases List.mem_cons.mp ((h x).mp List.mem_cons_self) with e | m
      · exact e
      · rcases List.mem_cons.mp ((h y).mpr List.mem_cons_self) with e | m'
        · exact e.symm
        · have a1 := g1 x m
          have a2 := h1 y m'
          omega
    subst e
    congr 1
    refine sorted_eq k h2 g2 fun z => ⟨fun m => ?_, fun m => ?_⟩
    · rcases List.mem_cons.mp ((h z).mp (List.mem_cons_of_mem _ m)) with e | m'
      · subst e; have := h1 z m; omega
      · exact m'
    · rcases List.mem_cons.mp ((h z).mpr (List.mem_cons_of_mem _ m)) with e | m'
      · subst e; have := g1 z m; omega
      · exact m'
theorem perm_eq {a b l : List P2} (ha : a.Perm l) (sa : a.Pairwise (fun x y => pk x < pk y)) (hb : b.Perm l) (sb : b.Pairwise (fun x y => pk x < pk y)) : a = b :=
  sorted_eq pk sa sb fun x => ha.mem_iff.trans hb.mem_iff.symm
theorem Good.perm {c : Int} {l m : List P2} (g : Good c l) (h : m.Perm l) : Good c m := ⟨h.nodup_iff.mpr g.nd, fun p hp => g.lo p (h.mem_iff.mp hp)⟩
theorem Good.prs {c : Int} {l : List P2} (g : Good c l) (hc : c ≤ 6) : ∀ p ∈ l, p ∈ SP.prs := fun p hp => by
  have := g.lo p hp
  exact SP.mem_prs (u := p.1) (v := p.2) this.1 this.2.1 (by omega)
theorem nodup_le {α : Type} [BEq α] [LawfulBEq α] {l m : List α} (nd : l.Nodup) (h : ∀ x ∈ l, x ∈ m) : l.length ≤ m.length := by
  induction l generalizing m with
  | nil => simp
  | cons x l ih =>
    obtain ⟨h1, h2⟩ := List.nodup_cons.mp nd
    have hx := h x List.mem_cons_self
    have := ih (m := m.erase x) h2 fun y hy => (List.mem_erase_of_ne (by rintro rfl; exact h1 hy)).mpr (h y (List.mem_cons_of_mem _ hy))
    have e := List.length_erase_of_mem hx
    have : 0 < m.length := List.length_pos_of_mem hx
    simp only [List.length_cons]
    omega
theorem Good.len {c : Int} {l : List P2} (g : Good c l) (hc : c ≤ 6) : l.length ≤ 15 := nodup_le g.nd (g.prs hc)
def tri : Nat → Nat
  | 0 => 0
  | n + 1 => tri n + n
theorem tri_le : ∀ v, v < 6 → tri v + v ≤ 15 := by decide
end DM


namespace My
def gd (a b : Int) : Int := (Int.gcd a b : Nat)
end My


set_option linter.all false
namespace My
open U
def BN (n : Nat) (i : Int) : Prop := i.natAbs < 2 ^ n
theorem BN.fit {n : Nat} {i : Int} (h : BN n i) (hn : n ≤ 9000) : Fit i := by
  unfold Fit
  unfold BN at h
  rcases Nat.eq_zero_or_pos i.natAbs with h0 | hp
  · rw [h0, Nat.log2_zero]; omega
  · have := (Nat.log2_lt (Nat.ne_of_gt hp)).mpr h
    omega
def num (c : Int) : Int := if c.fmod 4 = 0 then (c.fdiv 4 * 982451653).fmod (2 * 10 ^ 60 - 1) - 10 ^ 60 + 1 else if c.fmod 4 = 1 then (c.fdiv 4).fmod 2001 - 1000 else (c.fdiv 4).fmod 25 - 12
end My


namespace My
abbrev P2 := Int × Int
theorem nodup_le : ∀ (m : Nat) (f : List Int), f.Nodup → (∀ x ∈ f, 0 ≤ x ∧ x < (m : Int)) → f.length ≤ m
  | 0, f, _, h => by
    cases f with
    | nil => exact Nat.le_refl _
    | cons x f => have := h x List.mem_cons_self; omega
  | m + 1, f, hn, h => by
    have q := nodup_le m (f.erase (m : Int)) (hn.erase _) (fun x hx => by
      have hx' := List.mem_of_mem_erase hx
      have := h x hx'
      have ne : x ≠ (m : Int) := (List.Nodup.mem_erase_iff hn).mp hx |>.1
      omega)
    by_cases hm : (m : Int) ∈ f
    · rw [List.length_erase_of_mem hm] at q; omega
    · rw [List.erase_of_not_mem hm] at q; omega
end My


set_option linter.all false
set_option maxRecDepth 100000
set_option maxHeartbeats 4000000
namespace Lw
open PySem L2 U PyProof.Rows
theorem boot_all : bootBuiltins "all" = some (.builtin "all") := by decide +kernel
theorem boot_sorted : bootBuiltins "sorted" = some (.builtin "sorted") := by decide +kernel
theorem boot_set : bootBuiltins "set" = some (.type "set") := by decide +kernel
theorem boot_str : bootBuiltins "str" = some (.type "str") := by decide +kernel
theorem boot_max : bootBuiltins "max" = some (.builtin "max") := by decide +kernel
theorem boot_min : bootBuiltins "min" = some (.builtin "min") := by decide +kernel
theorem atI2_0 {x y : PV} : atI [x, y] 0 = some x := rfl
theorem atI2_1 {x y : PV} : atI [x, y] 1 = some y := rfl
theorem atI1_0 {x : PV} : atI [x] 0 = some x := rfl
theorem boot_bool : bootBuiltins "bool" = some (.type "bool") := by decide +kernel
def top (i : Nat) : Stmt := PySem.Challenge.pw_doingbook_k81_texts_of_drawings.main.body.getD i (.Pass ⟨0, 0, 0, 0⟩)
abbrev s_is_pair : Stmt := top 11
theorem sc_is_pair : FnScope ["count", "pair"] ["count", "pair"] (defScope s_is_pair) := ⟨rfl, rfl, rfl, by decide +kernel, rfl, by decide +kernel, by decide +kernel⟩
abbrev s_are_pairs : Stmt := top 12
theorem sc_are_pairs : FnScope ["count", "pairs"] ["count", "pairs"] (defScope s_are_pairs) := ⟨rfl, rfl, rfl, by decide +kernel, rfl, by decide +kernel, by decide +kernel⟩
abbrev s_Drawing_init : Stmt := inClass (top 14) 0
theorem sc_Drawing_init : FnScope ["self", "count", "ties", "bows", "own_ties", "own_bows"] ["self", "count", "ties", "bows"] (defScope s_Drawing_init) := ⟨rfl, rfl, rfl, by decide +kernel, rfl, by decide +kernel, by decide +kernel⟩
abbrev s_pair_text : Stmt := top 18
theorem sc_pair_text : FnScope ["pair", "sign"] ["pair", "sign"] (defScope s_pair_text) := ⟨rfl, rfl, rfl, by decide +kernel, rfl, by decide +kernel, by decide +kernel⟩
abbrev s_written : Stmt := top 19
theorem sc_written : FnScope ["drawing", "ties", "bows"] ["drawing"] (defScope s_written) := ⟨rfl, rfl, rfl, by decide +kernel, rfl, by decide +kernel, by decide +kernel⟩
abbrev s_pairs_with : Stmt := top 20
theorem sc_pairs_with : FnScope ["parts", "sign"] ["parts", "sign"] (defScope s_pairs_with) := ⟨rfl, rfl, rfl, by decide +kernel, rfl, by decide +kernel, by decide +kernel⟩
abbrev s_read : Stmt := top 21
theorem sc_read : FnScope ["text", "count", "parts", "ties", "bows", "drawing"] ["text"] (defScope s_read) := ⟨rfl, rfl, rfl, by decide +kernel, rfl, by decide +kernel, by decide +kernel⟩
abbrev s_law_cell_at : Stmt := top 23
theorem sc_law_cell_at : FnScope ["_law_script", "_law_k"] ["_law_script", "_law_k"] (defScope s_law_cell_at) := ⟨rfl, rfl, rfl, by decide +kernel, rfl, by decide +kernel, by decide +kernel⟩
abbrev s_law_mixed : Stmt := top 24
theorem sc_law_mixed : FnScope ["_law_cell", "_law_many", "_law_found", "_law_number", "_law_k"] ["_law_cell", "_law_many"] (defScope s_law_mixed) := ⟨rfl, rfl, rfl, by decide +kernel, rfl, by decide +kernel, by decide +kernel⟩
abbrev s_law_pairs : Stmt := top 25
theorem sc_law_pairs : FnScope ["_law_script", "_law_at", "_law_first", "_law_count", "_law_kind", "_law_xs", "_law_ties", "_law_bows", "_law_k", "_law_v", "_law_u"] ["_law_script", "_law_at"] (defScope s_law_pairs) := ⟨rfl, rfl, rfl, by decide +kernel, rfl, by decide +kernel, by decide +kernel⟩
abbrev s_law_written : Stmt := top 26
theorem sc_law_written : FnScope ["_law_count", "_law_ties", "_law_bows", "_law_found", "_law_u", "_law_v"] ["_law_count", "_law_ties", "_law_bows"] (defScope s_law_written) := ⟨rfl, rfl, rfl, by decide +kernel, rfl, by decide +kernel, by decide +kernel⟩
abbrev s_law_same : Stmt := top 27
theorem sc_law_same : FnScope ["_law_found", "_law_due", "_law_k"] ["_law_found", "_law_due"] (defScope s_law_same) := ⟨rfl, rfl, rfl, by decide +kernel, rfl, by decide +kernel, by decide +kernel⟩
abbrev s_law : Stmt := top 28
theorem sc_law : FnScope ["_law_script", "_law_k", "_law_count", "_law_ties", "_law_bows", "_law_text", "_law_found", "_law_due"] ["_law_script"] (defScope s_law) := ⟨rfl, rfl, rfl, by decide +kernel, rfl, by decide +kernel, by decide +kernel⟩
set_option genInjectivity false
structure Ad where
  a_is_pair : Addr
  d_is_pair : FuncData
  a_are_pairs : Addr
  d_are_pairs : FuncData
  a_Drawing_init : Addr
  d_Drawing_init : FuncData
  a_pair_text : Addr
  d_pair_text : FuncData
  a_written : Addr
  d_written : FuncData
  a_pairs_with : Addr
  d_pairs_with : FuncData
  a_read : Addr
  d_read : FuncData
  a_law_cell_at : Addr
  d_law_cell_at : FuncData
  a_law_mixed : Addr
  d_law_mixed : FuncData
  a_law_pairs : Addr
  d_law_pairs : FuncData
  a_law_written : Addr
  d_law_written : FuncData
  a_law_same : Addr
  d_law_same : FuncData
  a_law : Addr
  d_law : FuncData
  a_Drawing : Addr
structure Tx (K : PySem.W.Frag) (mg : Str → Option Value) (t : Ad) : Prop where
  F_is_pair : Fun K "is_pair" "is_pair" s_is_pair t.a_is_pair t.d_is_pair
  B_is_pair : Binds K t.d_is_pair ["count", "pair"] []
  g_is_pair : mg "is_pair" = some (.ref t.a_is_pair)
  F_are_pairs : Fun K "are_pairs" "are_pairs" s_are_pairs t.a_are_pairs t.d_are_pairs
  B_are_pairs : Binds K t.d_are_pairs ["count", "pairs"] []
  g_are_pairs : mg "are_pairs" = some (.ref t.a_are_pairs)
  F_Drawing_init : Fun K "__init__" "Drawing.__init__" s_Drawing_init t.a_Drawing_init t.d_Drawing_init
  B_Drawing_init : Binds K t.d_Drawing_init ["self", "count", "ties", "bows"] []
  F_pair_text : Fun K "pair_text" "pair_text" s_pair_text t.a_pair_text t.d_pair_text
  B_pair_text : Binds K t.d_pair_text ["pair", "sign"] []
  g_pair_text : mg "pair_text" = some (.ref t.a_pair_text)
  F_written : Fun K "written" "written" s_written t.a_written t.d_written
  B_written : Binds K t.d_written ["drawing"] []
  g_written : mg "written" = some (.ref t.a_written)
  F_pairs_with : Fun K "pairs_with" "pairs_with" s_pairs_with t.a_pairs_with t.d_pairs_with
  B_pairs_with : Binds K t.d_pairs_with ["parts", "sign"] []
  g_pairs_with : mg "pairs_with" = some (.ref t.a_pairs_with)
  F_read : Fun K "read" "read" s_read t.a_read t.d_read
  B_read : Binds K t.d_read ["text"] []
  g_read : mg "read" = some (.ref t.a_read)
  F_law_cell_at : Fun K "_law_cell_at" "_law_cell_at" s_law_cell_at t.a_law_cell_at t.d_law_cell_at
  B_law_cell_at : Binds K t.d_law_cell_at ["_law_script", "_law_k"] []
  g_law_cell_at : mg "_law_cell_at" = some (.ref t.a_law_cell_at)
  F_law_mixed : Fun K "_law_mixed" "_law_mixed" s_law_mixed t.a_law_mixed t.d_law_mixed
  B_law_mixed : Binds K t.d_law_mixed ["_law_cell", "_law_many"] []
  g_law_mixed : mg "_law_mixed" = some (.ref t.a_law_mixed)
  F_law_pairs : Fun K "_law_pairs" "_law_pairs" s_law_pairs t.a_law_pairs t.d_law_pairs
  B_law_pairs : Binds K t.d_law_pairs ["_law_script", "_law_at"] []
  g_law_pairs : mg "_law_pairs" = some (.ref t.a_law_pairs)
  F_law_written : Fun K "_law_written" "_law_written" s_law_written t.a_law_written t.d_law_written
  B_law_written : Binds K t.d_law_written ["_law_count", "_law_ties", "_law_bows"] []
  g_law_written : mg "_law_written" = some (.ref t.a_law_written)
  F_law_same : Fun K "_law_same" "_law_same" s_law_same t.a_law_same t.d_law_same
  B_law_same : Binds K t.d_law_same ["_law_found", "_law_due"] []
  g_law_same : mg "_law_same" = some (.ref t.a_law_same)
  F_law : Fun K "law" "law" s_law t.a_law t.d_law
  B_law : Binds K t.d_law ["_law_script"] []
  g_law : mg "law" = some (.ref t.a_law)
  g_Drawing : mg "Drawing" = some (.ref t.a_Drawing)
  cl_Drawing : Cls K t.a_Drawing
  mk_Drawing : Mk K t.a_Drawing t.a_Drawing_init
  b_all : mg "all" = none
  b_bool : mg "bool" = none
  b_int : mg "int" = none
  b_isinstance : mg "isinstance" = none
  b_len : mg "len" = none
  b_list : mg "list" = none
  b_max : mg "max" = none
  b_min : mg "min" = none
  b_range : mg "range" = none
  b_set : mg "set" = none
  b_sorted : mg "sorted" = none
  b_str : mg "str" = none
  b_tuple : mg "tuple" = none
  c_MOST_BOWS : ∃ u, mg "MOST_BOWS" = some u ∧ RelV (.int 6) u
  c_MOST_NAMES : ∃ u, mg "MOST_NAMES" = some u ∧ RelV (.int 6) u
  nf_Drawing_bows : NoAttr K t.a_Drawing "bows"
  nf_Drawing_count : NoAttr K t.a_Drawing "count"
  nf_Drawing_ties : NoAttr K t.a_Drawing "ties"
  c_COUNTS : ∃ u, mg "COUNTS" = some u ∧ RelV (.str "0123456") u
  c_LETTERS : ∃ u, mg "LETTERS" = some u ∧ RelV (.str "abcdef") u
  own_Drawing : OwnC K t.a_Drawing
section
variable {P : Program} {w : World} {K : PySem.W.Frag} {mg : Str → Option Value} {base : Heap} {t : Ad}

open DM (P2 Good)
def DF (c : Int) (ts bs : List P2) : List (Str × PV) := [("count", .int c), ("ties", .tup (ts.map prV)), ("bows", .tup (bs.map prV))]
def Srt (l : List P2) : Prop := l.Pairwise (fun x y => ST.pk x < ST.pk y)
def Row (H : PHp) (y : PV) (p : P2) : Prop := y = prV p ∨ ∃ r, y = .ref r ∧ H r = some (.lst [.int p.1, .int p.2])
abbrev Rows (H : PHp) : List PV → List P2 → Prop := Paired (Row H)
def sp_ispair : Sp' := fun vs H Q _ => match vs with
  | [.int c, .tup [.int u, .int v]] => (0 ≤ u ∧ u < v ∧ v < c) ∧ Q (.bl true) H
  | _ => False
theorem e_ispair {c u v : Int} {H : PHp} {Q : VK'} {E : XK'} : sp_ispair [.int c, .tup [.int u, .int v]] H Q E = ((0 ≤ u ∧ u < v ∧ v < c) ∧ Q (.bl true) H) := rfl
def sp_arepairs : Sp' := fun vs H Q _ => match vs with
  | [.int c, .ref a] => ∃ ps, H a = some (.lst (ps.map prV)) ∧ Good c ps ∧ c ≤ 6 ∧ Q (.bl true) H
  | _ => False
theorem e_arepairs {c : Int} {a : Addr} {H : PHp} {Q : VK'} {E : XK'} : sp_arepairs [.int c, .ref a] H Q E = ∃ ps, H a = some (.lst (ps.map prV)) ∧ Good c ps ∧ c ≤ 6 ∧ Q (.bl true) H := rfl
def sp_init (t : Ad) : Sp' := fun vs H Q _ => match vs with
  | [.ref x, .int c, .ref a, .ref b] => ∃ dx ys zs ps qs, H x = some (.ins t.a_Drawing dx []) ∧ H a = some (.lst ys) ∧ H b = some (.lst zs) ∧ Rows H ys ps ∧ Rows H zs qs ∧ Good c ps ∧ Good c qs ∧ (1 ≤ c ∧ c ≤ 6 ∧ qs.length ≤ 6) ∧
    ∀ ts bs, ts.Perm ps → Srt ts → bs.Perm qs → Srt bs → Q .non (put H x (.ins t.a_Drawing dx (DF c ts bs)))
  | _ => False
theorem e_init {x a b : Addr} {c : Int} {H : PHp} {Q : VK'} {E : XK'} : sp_init t [.ref x, .int c, .ref a, .ref b] H Q E = ∃ dx ys zs ps qs, H x = some (.ins t.a_Drawing dx []) ∧ H a = some (.lst ys) ∧ H b = some (.lst zs) ∧ Rows H ys ps ∧ Rows H zs qs ∧ Good c ps ∧ Good c qs ∧ (1 ≤ c ∧ c ≤ 6 ∧ qs.length ≤ 6) ∧
    ∀ ts bs, ts.Perm ps → Srt ts → bs.Perm qs → Srt bs → Q .non (put H x (.ins t.a_Drawing dx (DF c ts bs))) := rfl
def sp_cell : Sp' := fun vs H Q _ => match vs with
  | [.fls l, .int k] => (0 ≤ k ∧ k < 100) ∧ ∃ ns : List Int, l = ns.map PV.int ∧ Q (.int (ns.getD k.toNat 0)) H
  | _ => False
theorem e_cell {l : List PV} {k : Int} {H : PHp} {Q : VK'} {E : XK'} : sp_cell [.fls l, .int k] H Q E = ((0 ≤ k ∧ k < 100) ∧ ∃ ns : List Int, l = ns.map PV.int ∧ Q (.int (ns.getD k.toNat 0)) H) := rfl
def sp_mixed : Sp' := fun vs H Q _ => match vs with
  | [.int c, .int m] => (0 ≤ m ∧ m ≤ 64) ∧ ∀ p (xs : List Int), H p = none → xs.length = m.toNat → Q (.ref p) (put H p (.lst (xs.map PV.int)))
  | _ => False
theorem e_mixed {c m : Int} {H : PHp} {Q : VK'} {E : XK'} : sp_mixed [.int c, .int m] H Q E = ((0 ≤ m ∧ m ≤ 64) ∧ ∀ p (xs : List Int), H p = none → xs.length = m.toNat → Q (.ref p) (put H p (.lst (xs.map PV.int)))) := rfl
def sp_pairs : Sp' := fun vs H Q _ => match vs with
  | [.fls l, .int k] => (0 ≤ k ∧ k < 60) ∧ ∃ ns : List Int, l = ns.map PV.int ∧ ∀ c ts bs p q, (1 ≤ c ∧ c ≤ 6) → Good c ts → Good c bs → bs.length ≤ 6 → H p = none → H q = none → p ≠ q → Q (.tup [.int c, .ref p, .ref q]) (put (put H p (.lst (ts.map prV))) q (.lst (bs.map prV)))
  | _ => False
theorem e_pairs {l : List PV} {k : Int} {H : PHp} {Q : VK'} {E : XK'} : sp_pairs [.fls l, .int k] H Q E = ((0 ≤ k ∧ k < 60) ∧ ∃ ns : List Int, l = ns.map PV.int ∧ ∀ c ts bs p q, (1 ≤ c ∧ c ≤ 6) → Good c ts → Good c bs → bs.length ≤ 6 → H p = none → H q = none → p ≠ q → Q (.tup [.int c, .ref p, .ref q]) (put (put H p (.lst (ts.map prV))) q (.lst (bs.map prV)))) := rfl
theorem atI_at {l : List PV} {i : Nat} (h : i < l.length) : atI l ((i : Nat) : Int) = some l[i] := by
  unfold atI ixN
  rw [if_pos (by omega), if_pos (by omega)]
  show l[((i : Nat) : Int).toNat]? = _
  rw [Int.toNat_natCast, List.getElem?_eq_getElem h]
theorem pd_get {α β : Type} {R : α → β → Prop} : ∀ {l : List α} {m : List β} {i : Nat}, Paired R l m → (hi : i < l.length) → (hj : i < m.length) → R l[i] m[i]
  | _ :: _, _ :: _, 0, .cons h _, _, _ => h
  | _ :: _, _ :: _, i + 1, .cons _ t, hi, hj => pd_get t (by simpa using hi) (by simpa using hj)
theorem pd_mem {α β : Type} {R : α → β → Prop} {x : α} : ∀ {l : List α} {m : List β}, Paired R l m → x ∈ l → ∃ y ∈ m, R x y
  | _ :: _, _ :: _, .cons h t, hx => by
    rcases List.mem_cons.mp hx with rfl | hx
    · exact ⟨_, List.mem_cons_self, h⟩
    · obtain ⟨y, hy, r⟩ := pd_mem t hx
      exact ⟨y, List.mem_cons_of_mem _ hy, r⟩
theorem fm {a b : Int} (h : 0 < b) : 0 ≤ a.fmod b ∧ a.fmod b < b := by
  rw [Int.fmod_eq_emod_of_nonneg _ (by omega)]
  exact ⟨Int.emod_nonneg _ (by omega), Int.emod_lt_of_pos _ h⟩
theorem sub_put {A B : PHp} {x : Addr} {o : PO} (s : U.Sub A B) (h : B x = some o) : U.Sub (put A x o) B := fun a u e => by
  by_cases q : a = x
  · subst q; rw [put_same] at e; cases e; exact h
  · rw [put_ne q] at e; exact s a u e
theorem sub_putx {A B : PHp} {x : Addr} {o : PO} (s : ∀ a u, a ≠ x → A a = some u → B a = some u) (h : B x = some o) : U.Sub (put A x o) B := fun a u e => by
  by_cases q : a = x
  · subst q; rw [put_same] at e; cases e; exact h
  · rw [put_ne q] at e; exact s a u q e
theorem putU_len {f : Str} {v : PV} : ∀ {fs : List (Str × PV)}, (putU f v fs).length ≤ fs.length + 1
  | [] => by simp [putU]
  | (g, y) :: r => by
    unfold putU
    split
    · simp
    · have := putU_len (f := f) (v := v) (fs := r); simp only [List.length_cons]; omega
theorem atI_pr {ps : List P2} {j : Nat} (h : j < ps.length) : atI (ps.map prV) ((j : Nat) : Int) = some (prV (ps.getD j (0, 0))) := by
  rw [atI_at (by rw [List.length_map]; exact h), List.getElem_map, List.getD_eq_getElem?_getD, List.getElem?_eq_getElem h]; rfl
theorem cdvB {i j : Int} (h : j ≠ 0) (f : j.natAbs < 2 ^ 64) : CDivB i j := ⟨h, (show My.BN 64 j from f).fit (by decide)⟩
theorem fit64 {i : Int} (f : i.natAbs < 2 ^ 64) : Fit i := (show My.BN 64 i from f).fit (by decide)
def rowT (H : PHp) (y : PV) : PV := match y with
  | .ref r => (match H r with | some (.lst l) => .tup l | _ => .non)
  | y => y
theorem rowT_ref {H : PHp} {r : Addr} {l : List PV} (h : H r = some (.lst l)) : rowT H (.ref r) = .tup l := by
  unfold rowT; dsimp only; rw [h]
theorem rows_map {H : PHp} : ∀ {ys : List PV} {ps : List P2}, Rows H ys ps → ys.map (rowT H) = ps.map prV
  | [], [], .nil => rfl
  | y :: ys, p :: ps, .cons h t => by
    rw [List.map_cons, List.map_cons, rows_map t]
    congr 1
    rcases h with rfl | ⟨r, rfl, hr⟩
    · rfl
    · exact rowT_ref hr
theorem Rows.up {H H1 : PHp} {ys : List PV} {ps : List P2} (h : Rows H ys ps) (s : U.Sub H H1) : Rows H1 ys ps := Paired.mapP h fun y p r => r.elim .inl fun ⟨q, e, hq⟩ => .inr ⟨q, e, s _ _ hq⟩
theorem rows_prV {H : PHp} : ∀ {ps : List P2}, Rows H (ps.map prV) ps
  | [] => .nil
  | _ :: _ => .cons (.inl rfl) rows_prV
def at1 (n : Int) (y : PV) : Bool := match y with | .tup [.int _, .int v] => decide (v = n) | _ => false
def at0 (n : Int) (y : PV) : Bool := match y with | .tup [.int u, .int _] => decide (u = n) | _ => false
def g0 (y : PV) : PV := match y with | .tup [u, _] => u | _ => .non
def g1 (y : PV) : PV := match y with | .tup [_, v] => v | _ => .non
theorem src_list {n : Int} : ∀ {ts : List P2}, ((ts.map prV).filter (at1 n)).map g0 = ((ts.filter (fun p => decide (p.2 = n))).map (·.1)).map PV.int
  | [] => rfl
  | p :: ts => by
    have e : at1 n (prV p) = decide (p.2 = n) := rfl
    rw [List.map_cons, List.filter_cons, List.filter_cons, e]
    by_cases q : decide (p.2 = n) = true
    · rw [if_pos q, if_pos q, List.map_cons, List.map_cons, List.map_cons, src_list]; rfl
    · rw [if_neg q, if_neg q, src_list]
theorem fol_list {n : Int} : ∀ {ts : List P2}, ((ts.map prV).filter (at0 n)).map g1 = ((ts.filter (fun p => decide (p.1 = n))).map (·.2)).map PV.int
  | [] => rfl
  | p :: ts => by
    have e : at0 n (prV p) = decide (p.1 = n) := rfl
    rw [List.map_cons, List.filter_cons, List.filter_cons, e]
    by_cases q : decide (p.1 = n) = true
    · rw [if_pos q, if_pos q, List.map_cons, List.map_cons, List.map_cons, fol_list]; rfl
    · rw [if_neg q, if_neg q, fol_list]
structure GJ (v j : Int) (l : List P2) : Prop where
  nd : l.Nodup
  lo : ∀ p ∈ l, 0 ≤ p.1 ∧ p.1 < p.2 ∧ (p.2 < v ∨ (p.2 = v ∧ p.1 < j))
theorem GJ.app {v j : Int} {l : List P2} (h : GJ v j l) (h0 : 0 ≤ j) (hj : j < v) : GJ v (j + 1) (l ++ [(j, v)]) := by
  refine ⟨List.nodup_append.mpr ⟨h.nd, by simp, ?_⟩, fun p hp => ?_⟩
  · intro a ha b hb e
    rw [List.mem_singleton] at hb
    subst hb; subst e
    have := h.lo _ ha
    simp only at this
    omega
  · rcases List.mem_append.mp hp with hp | hp
    · have := h.lo p hp; omega
    · rw [List.mem_singleton] at hp; subst hp; exact ⟨h0, hj, .inr ⟨rfl, Int.lt_succ j⟩⟩
theorem GJ.up {v j : Int} {l : List P2} (h : GJ v j l) : GJ v (j + 1) l := ⟨h.nd, fun p hp => by have := h.lo p hp; omega⟩
theorem GJ.of {v : Int} {l : List P2} (h : Good v l) : GJ v 0 l := ⟨h.nd, fun p hp => by have := h.lo p hp; omega⟩
theorem GJ.good {v : Int} {l : List P2} (h : GJ v v l) : Good (v + 1) l := ⟨h.nd, fun p hp => by have := h.lo p hp; omega⟩
theorem ix4a {d : Int} (h0 : 0 ≤ d) (h : d < 4) : ∃ e, atI [PV.int 2, PV.int 3, PV.int 2, PV.int 4] d = some (.int e) ∧ e ≠ 0 := by
  have : d = 0 ∨ d = 1 ∨ d = 2 ∨ d = 3 := by omega
  rcases this with rfl | rfl | rfl | rfl
  · exact ⟨2, rfl, by decide⟩
  · exact ⟨3, rfl, by decide⟩
  · exact ⟨2, rfl, by decide⟩
  · exact ⟨4, rfl, by decide⟩
theorem ix4b {d : Int} (h0 : 0 ≤ d) (h : d < 4) : ∃ e, atI [PV.int 2, PV.int 3, PV.int 5, PV.int 2] d = some (.int e) ∧ e ≠ 0 := by
  have : d = 0 ∨ d = 1 ∨ d = 2 ∨ d = 3 := by omega
  rcases this with rfl | rfl | rfl | rfl
  · exact ⟨2, rfl, by decide⟩
  · exact ⟨3, rfl, by decide⟩
  · exact ⟨5, rfl, by decide⟩
  · exact ⟨2, rfl, by decide⟩
def ltr (n : Int) : Nat := 97 + n.toNat
theorem ofS_gt : (Str.ofString ">") = sT [62] := by decide +kernel
theorem ofS_ti : (Str.ofString "~") = sT [126] := by decide +kernel
theorem ofS_co : (Str.ofString ":") = sT [58] := by decide +kernel
theorem ofS_num : (Str.ofString "0123456") = sT [48, 49, 50, 51, 52, 53, 54] := by decide +kernel
theorem ofS_bl : (Str.ofString " ") = sT [32] := by decide +kernel
theorem ofS_abc : (Str.ofString "abcdef") = sT [97, 98, 99, 100, 101, 102] := by decide +kernel
theorem sT_one (c : Nat) : (⟨#[c]⟩ : Str) = sT [c] := rfl
theorem sT_beq (a b : List Nat) : (sT a == sT b) = decide (a = b) := by
  rw [Bool.eq_iff_iff, beq_iff_eq, decide_eq_true_eq]
  constructor
  · intro h; have := congrArg (fun z : Str => z.cps.toList) h; simpa [sT] using this
  · rintro rfl; rfl
theorem line_ge {n : Nat} (h : n ≤ 100000) : n ≤ sizeLine := by rw [sizeLine_eq]; omega
theorem abc_at {n : Int} (h0 : 0 ≤ n) (h : n < 6) : atI (sT [97, 98, 99, 100, 101, 102]).cps.toList n = some (ltr n) := by
  rw [sT_cps]
  have : n = 0 ∨ n = 1 ∨ n = 2 ∨ n = 3 ∨ n = 4 ∨ n = 5 := by omega
  rcases this with rfl | rfl | rfl | rfl | rfl | rfl <;> rfl
theorem abc_find {n : Int} (h0 : 0 ≤ n) (h : n < 6) : Txt.find (sT [97, 98, 99, 100, 101, 102]) (sT [ltr n]) = n := by
  have : n = 0 ∨ n = 1 ∨ n = 2 ∨ n = 3 ∨ n = 4 ∨ n = 5 := by omega
  rcases this with rfl | rfl | rfl | rfl | rfl | rfl <;> decide +kernel
def Plain : Nat → PV → Prop
  | _ + 1, .int _ => True
  | _ + 1, .str _ => True
  | n + 1, .tup l => l.length ≤ 1000 ∧ ∀ x ∈ l, Plain n x
  | _, _ => False
def sp_same (n : Nat) : Sp' := fun vs H Q _ => match vs with
  | [x, y] => x = y ∧ Plain n y ∧ Q (.bl true) H
  | _ => False
theorem e_same {n : Nat} {x y : PV} {H : PHp} {Q : VK'} {E : XK'} : sp_same n [x, y] H Q E = (x = y ∧ Plain n y ∧ Q (.bl true) H) := rfl
theorem for_atD {ok : PHp → Prop} {g : TG'} {tb : TS'} {D : Ends'} {xs : List PV} (Pv : Nat → St' → PHp → Prop) (hd : ∀ σ H, Pv xs.length σ H → ok H ∧ D.nx σ H)
    (hs : ∀ (D' : Ends') i x σ H, xs[i]? = some x → Pv i σ H → (∀ σ' H', Pv (i + 1) σ' H' → D'.nx σ' H') → ok H ∧ g x σ H fun σ2 H2 => tb D' σ2 H2)
    {σ : St'} {H : PHp} (h0 : Pv 0 σ H) : uForL ok g tb D xs σ H := for_at Pv hd (fun G i x σ H hx p k => hs _ i x σ H hx p k) h0
theorem for_rngD {ok : PHp → Prop} {g : TG'} {tb : TS'} {D : Ends'} {lo : Int} {n : Nat} (Pv : Nat → St' → PHp → Prop) (hd : ∀ σ H, Pv n σ H → ok H ∧ D.nx σ H)
    (hs : ∀ (D' : Ends') i σ H, i < n → Pv i σ H → (∀ σ' H', Pv (i + 1) σ' H' → D'.nx σ' H') → ok H ∧ g (.int (lo + (i : Nat))) σ H fun σ2 H2 => tb D' σ2 H2)
    {σ : St'} {H : PHp} (h0 : Pv 0 σ H) : uForL ok g tb D (rngL lo n) σ H := for_rng Pv hd (fun G i σ H hi p k => hs _ i σ H hi p k) h0
def ptx (c : Nat) (p : P2) : List Nat := [ltr p.1, c, ltr p.2]
def wtx (c : Int) (ts bs : List P2) : List Nat := (48 + c.toNat) :: 58 :: (ts.flatMap (fun p => 32 :: ptx 62 p) ++ bs.flatMap (fun p => 32 :: ptx 126 p))
def In6 (ps : List P2) : Prop := ∀ p ∈ ps, (0 ≤ p.1 ∧ p.1 < 6) ∧ (0 ≤ p.2 ∧ p.2 < 6)
theorem good6 {c : Int} {ps : List P2} (g : Good c ps) (h : c ≤ 6) : In6 ps := fun p hp => by have := g.lo p hp; omega
def sp_pt : Sp' := fun vs H Q _ => match vs with
  | [.tup [.int u, .int v], .str z] => ((0 ≤ u ∧ u < 6) ∧ (0 ≤ v ∧ v < 6)) ∧ ∃ c, z = sT [c] ∧ Q (tx [ltr u, c, ltr v]) H
  | _ => False
theorem e_pt {u v : Int} {z : Str} {H : PHp} {Q : VK'} {E : XK'} : sp_pt [.tup [.int u, .int v], .str z] H Q E = (((0 ≤ u ∧ u < 6) ∧ (0 ≤ v ∧ v < 6)) ∧ ∃ c, z = sT [c] ∧ Q (tx [ltr u, c, ltr v]) H) := rfl
def sp_wr (t : Ad) : Sp' := fun vs H Q _ => match vs with
  | [.ref x] => ∃ dx c ts bs, H x = some (.ins t.a_Drawing dx (DF c ts bs)) ∧ (1 ≤ c ∧ c ≤ 6) ∧ In6 ts ∧ In6 bs ∧ ts.length ≤ 15 ∧ bs.length ≤ 15 ∧ Q (tx (wtx c ts bs)) H
  | _ => False
theorem e_wr {x : Addr} {H : PHp} {Q : VK'} {E : XK'} : sp_wr t [.ref x] H Q E = ∃ dx c ts bs, H x = some (.ins t.a_Drawing dx (DF c ts bs)) ∧ (1 ≤ c ∧ c ≤ 6) ∧ In6 ts ∧ In6 bs ∧ ts.length ≤ 15 ∧ bs.length ≤ 15 ∧ Q (tx (wtx c ts bs)) H := rfl
def pts (ts bs : List P2) : List Str := ts.map (fun p => sT (ptx 62 p)) ++ bs.map (fun p => sT (ptx 126 p))
def sp_pw : Sp' := fun vs H Q _ => match vs with
  | [.ref a, .str z] => ∃ ts bs c, H a = some (.lst ((pts ts bs).map PV.str)) ∧ z = sT [c] ∧ (c = 62 ∨ c = 126) ∧ In6 ts ∧ In6 bs ∧ ts.length ≤ 15 ∧ bs.length ≤ 15 ∧ ∀ p, H p = none → Q (.ref p) (put H p (.lst ((if c = 62 then ts else bs).map prV)))
  | _ => False
theorem e_pw {a : Addr} {z : Str} {H : PHp} {Q : VK'} {E : XK'} : sp_pw [.ref a, .str z] H Q E = ∃ ts bs c, H a = some (.lst ((pts ts bs).map PV.str)) ∧ z = sT [c] ∧ (c = 62 ∨ c = 126) ∧ In6 ts ∧ In6 bs ∧ ts.length ≤ 15 ∧ bs.length ≤ 15 ∧ ∀ p, H p = none → Q (.ref p) (put H p (.lst ((if c = 62 then ts else bs).map prV))) := rfl
def Two (c : Int) (ts bs : List P2) : Prop := (1 ≤ c ∧ c ≤ 6) ∧ Good c ts ∧ Good c bs ∧ bs.length ≤ 6 ∧ Srt ts ∧ Srt bs
def sp_rd (t : Ad) : Sp' := fun vs H Q _ => match vs with
  | [.str z] => ∃ c ts bs, z = sT (wtx c ts bs) ∧ Two c ts bs ∧ ∀ x dx, H x = none → Q (.ref x) (put H x (.ins t.a_Drawing dx (DF c ts bs)))
  | _ => False
theorem e_rd {z : Str} {H : PHp} {Q : VK'} {E : XK'} : sp_rd t [.str z] H Q E = ∃ c ts bs, z = sT (wtx c ts bs) ∧ Two c ts bs ∧ ∀ x dx, H x = none → Q (.ref x) (put H x (.ins t.a_Drawing dx (DF c ts bs))) := rfl
def sp_lw : Sp' := fun vs H Q _ => match vs with
  | [.int c, .ref a, .ref b] => ∃ ps qs, H a = some (.lst (ps.map prV)) ∧ H b = some (.lst (qs.map prV)) ∧ (1 ≤ c ∧ c ≤ 6) ∧ Good c ps ∧ Good c qs ∧ ∀ ts bs, ts.Perm ps → Srt ts → bs.Perm qs → Srt bs → Q (tx (wtx c ts bs)) H
  | _ => False
theorem e_lw {c : Int} {a b : Addr} {H : PHp} {Q : VK'} {E : XK'} : sp_lw [.int c, .ref a, .ref b] H Q E = ∃ ps qs, H a = some (.lst (ps.map prV)) ∧ H b = some (.lst (qs.map prV)) ∧ (1 ≤ c ∧ c ≤ 6) ∧ Good c ps ∧ Good c qs ∧ ∀ ts bs, ts.Perm ps → Srt ts → bs.Perm qs → Srt bs → Q (tx (wtx c ts bs)) H := rfl
theorem len_pts {c : Nat} {ps : List P2} : (ps.flatMap (fun p => 32 :: ptx c p)).length = 4 * ps.length := by
  induction ps with
  | nil => rfl
  | cons p ps ih => rw [List.flatMap_cons, List.length_append, ih, List.length_cons]; simp [ptx]; omega
theorem len_wtx {c : Int} {ts bs : List P2} : (wtx c ts bs).length = 2 + 4 * ts.length + 4 * bs.length := by
  unfold wtx
  rw [List.length_cons, List.length_cons, List.length_append, len_pts, len_pts]; omega
theorem join_cons {a : List Nat} : ∀ {ys : List (List Nat)}, Str.join (sT [32]) ((a :: ys).map sT) = sT (a ++ ys.flatMap (fun y => 32 :: y))
  | [] => by simp [Str.join]
  | y :: ys => by
    have ih := join_cons (a := y) (ys := ys)
    show sT a ++ sT [32] ++ Str.join (sT [32]) (List.map sT (y :: ys)) = _
    rw [ih, sT_add, sT_add]
    congr 1
    simp
def wps (c : Int) (ts bs : List P2) : List (List Nat) := [48 + c.toNat, 58] :: (ts.map (ptx 62) ++ bs.map (ptx 126))
theorem wps_join {c : Int} {ts bs : List P2} : Str.join (sT [32]) ((wps c ts bs).map sT) = sT (wtx c ts bs) := by
  unfold wps
  rw [join_cons, List.flatMap_append, List.flatMap_map, List.flatMap_map]
  rfl
theorem hd_one : ∀ {a b R S : List Nat}, 32 ∉ a → 32 ∉ b → (R = [] ∨ ∃ r, R = 32 :: r) → (S = [] ∨ ∃ r, S = 32 :: r) → a ++ R = b ++ S → a = b ∧ R = S
  | [], [], R, S, _, _, _, _, h => ⟨rfl, h⟩
  | [], d :: b, R, S, _, hb, hR, _, h => by
    rcases hR with rfl | ⟨r, rfl⟩
    · simp at h
    · simp only [List.nil_append, List.cons_append, List.cons.injEq] at h
      exact absurd (by rw [← h.1]; exact List.mem_cons_self) hb
  | c :: a, [], R, S, ha, _, _, hS, h => by
    rcases hS with rfl | ⟨r, rfl⟩
    · simp at h
    · simp only [List.nil_append, List.cons_append, List.cons.injEq] at h
      exact absurd (by rw [h.1]; exact List.mem_cons_self) ha
  | c :: a, d :: b, R, S, ha, hb, hR, hS, h => by
    simp only [List.cons_append, List.cons.injEq] at h
    obtain ⟨e, h⟩ := h
    obtain ⟨e2, h2⟩ := hd_one (fun q => ha (List.mem_cons_of_mem _ q)) (fun q => hb (List.mem_cons_of_mem _ q)) hR hS h
    rw [e, e2]
    exact ⟨rfl, h2⟩
def bf (ys : List (List Nat)) : List Nat := ys.flatMap (fun y => 32 :: y)
theorem bf_or (ys : List (List Nat)) : bf ys = [] ∨ ∃ r, bf ys = 32 :: r := by
  cases ys with
  | nil => exact .inl rfl
  | cons y ys => exact .inr ⟨_, rfl⟩
theorem free_one : ∀ {ys zs : List (List Nat)} {a b : List Nat}, 32 ∉ a → 32 ∉ b → (∀ y ∈ ys, 32 ∉ y) → (∀ z ∈ zs, 32 ∉ z) → a ++ bf ys = b ++ bf zs → a = b ∧ ys = zs
  | [], [], a, b, ha, hb, _, _, h => ⟨(hd_one ha hb (bf_or _) (bf_or _) h).1, rfl⟩
  | [], z :: zs, a, b, ha, hb, _, _, h => absurd (hd_one ha hb (bf_or _) (bf_or _) h).2 (by simp [bf])
  | y :: ys, [], a, b, ha, hb, _, _, h => absurd (hd_one ha hb (bf_or _) (bf_or _) h).2 (by simp [bf])
  | y :: ys, z :: zs, a, b, ha, hb, hy, hz, h => by
    obtain ⟨e, h2⟩ := hd_one ha hb (bf_or _) (bf_or _) h
    have h3 : y ++ bf ys = z ++ bf zs := by simpa [bf] using h2
    obtain ⟨e2, e3⟩ := free_one (hy y List.mem_cons_self) (hz z List.mem_cons_self) (fun q hq => hy q (List.mem_cons_of_mem _ hq)) (fun q hq => hz q (List.mem_cons_of_mem _ hq)) h3
    exact ⟨e, by rw [e2, e3]⟩
theorem str_back (l : List Str) : (l.map fun p => p.cps.toList).map sT = l := by
  rw [List.map_map]
  conv => rhs; rw [← List.map_id l]
  refine List.map_congr_left fun p _ => ?_
  show (⟨p.cps.toList.toArray⟩ : Str) = p
  simp
theorem split_one {a : List Nat} {ys : List (List Nat)} (ha : 32 ∉ a) (hy : ∀ y ∈ ys, 32 ∉ y) : Txt.split (sT (a ++ bf ys)) (sT [32]) = (a :: ys).map sT := by
  have hj := StrLaws.join_split (sT (a ++ bf ys)) (sT [32])
  have hf := StrLaws.split_free (sT (a ++ bf ys)) 32
  have hp := split_pos (sT (a ++ bf ys)) (sT [32])
  have hf2 : ∀ p ∈ Txt.split (sT (a ++ bf ys)) (sT [32]), 32 ∉ p.cps.toList := hf
  generalize Txt.split (sT (a ++ bf ys)) (sT [32]) = ps at *
  rw [← str_back ps] at hj ⊢
  cases ps with
  | nil => simp at hp
  | cons p ps =>
    rw [List.map_cons, join_cons] at hj
    have e : p.cps.toList ++ bf (ps.map fun p => p.cps.toList) = a ++ bf ys := by
      have := congrArg (fun z : Str => z.cps.toList) hj
      simpa [sT, bf] using this
    obtain ⟨e1, e2⟩ := free_one (hf2 p List.mem_cons_self) ha (fun y hy => by
      obtain ⟨q, hq, rfl⟩ := List.mem_map.mp hy
      exact hf2 q (List.mem_cons_of_mem _ hq)) hy e
    rw [List.map_cons, e1, e2]
theorem no32 {c : Nat} {p : P2} (h : c ≠ 32) : 32 ∉ ptx c p := by
  unfold ptx ltr
  simp
  omega
theorem split_w {c : Int} {ts bs : List P2} : Txt.split (sT (wtx c ts bs)) (sT [32]) = (wps c ts bs).map sT := by
  have e : wtx c ts bs = [48 + c.toNat, 58] ++ bf (ts.map (ptx 62) ++ bs.map (ptx 126)) := by
    unfold bf
    rw [List.flatMap_append, List.flatMap_map, List.flatMap_map]
    rfl
  rw [e]
  refine split_one (by simp; omega) fun y hy => ?_
  rcases List.mem_append.mp hy with h | h
  · obtain ⟨p, _, rfl⟩ := List.mem_map.mp h; exact no32 (by decide)
  · obtain ⟨p, _, rfl⟩ := List.mem_map.mp h; exact no32 (by decide)
theorem str_num {c : Int} (h : 1 ≤ c ∧ c ≤ 6) : (toString c : Str) = sT [48 + c.toNat] := by
  have : c = 1 ∨ c = 2 ∨ c = 3 ∨ c = 4 ∨ c = 5 ∨ c = 6 := by omega
  rcases this with rfl | rfl | rfl | rfl | rfl | rfl <;> decide +kernel
theorem num_find {c : Int} (h : 1 ≤ c ∧ c ≤ 6) : Txt.find (sT [48, 49, 50, 51, 52, 53, 54]) (sT [48 + c.toNat]) = c := by
  have : c = 1 ∨ c = 2 ∨ c = 3 ∨ c = 4 ∨ c = 5 ∨ c = 6 := by omega
  rcases this with rfl | rfl | rfl | rfl | rfl | rfl <;> decide +kernel
theorem slice_first {c : Nat} {l : List Nat} : Txt.slice (sT (c :: l)) none (some 1) = sT [c] := by
  show StrLaws.sliceText (sT (c :: l)) none (some 1) = _
  rw [StrLaws.sliceText_to (by rw [sT_cps]; simp only [List.length_cons]; omega), sT_cps]
  rfl
def pOf (y : PV) : P2 := match y with | .tup [.int u, .int v] => (u, v) | _ => (0, 0)
theorem pt_map {c : Nat} {ps : List P2} : ((ps.map prV).filter fun _ => true).map (fun y => PV.str (sT (ptx c (pOf y)))) = (ps.map fun p => sT (ptx c p)).map PV.str := by
  rw [List.filter_eq_self.mpr (fun _ _ => rfl), List.map_map, List.map_map]; rfl
theorem wps_map {c : Int} {ts bs : List P2} : (wps c ts bs).map sT = sT [48 + c.toNat, 58] :: pts ts bs := by
  unfold wps pts
  rw [List.map_cons, List.map_append, List.map_map, List.map_map]; rfl
theorem wps_len {c : Int} {ts bs : List P2} : (((wps c ts bs).map sT).map (·.length)).sum + ((wps c ts bs).map sT).length = 3 + 4 * ts.length + 4 * bs.length := by
  have key : ∀ (c : Nat) (ps : List P2), ((ps.map fun p => sT (ptx c p)).map (·.length)).sum = 3 * ps.length := fun c ps => by
    induction ps with
    | nil => rfl
    | cons p ps ih => rw [List.map_cons, List.map_cons, List.sum_cons, ih, sT_len, List.length_cons]; simp [ptx]; omega
  rw [wps_map]
  unfold pts
  rw [List.map_cons, List.sum_cons, List.map_append, List.sum_append, key, key, sT_len]
  simp only [List.length_cons, List.length_append, List.length_map, List.length_nil]
  omega
def fP (y : PV) : PV := match y with | .str z => prV (((z.cps.getD 0 0 : Nat) : Int) - 97, ((z.cps.getD 2 0 : Nat) : Int) - 97) | _ => .non
def hasC (c : Nat) (y : PV) : Bool := match y with | .str z => decide (c ∈ z.cps.toList) | _ => false
theorem has_ptx {c d : Nat} {p : P2} (hc : c = 62 ∨ c = 126) (h6 : (0 ≤ p.1 ∧ p.1 < 6) ∧ (0 ≤ p.2 ∧ p.2 < 6)) : hasC c (.str (sT (ptx d p))) = decide (c = d) := by
  show decide (c ∈ (sT (ptx d p)).cps.toList) = _
  rw [sT_cps]
  unfold ptx ltr
  rw [Bool.eq_iff_iff, decide_eq_true_eq, decide_eq_true_eq]
  simp only [List.mem_cons, List.not_mem_nil, or_false]
  omega
theorem fP_ptx {d : Nat} {p : P2} (h : (0 ≤ p.1 ∧ p.1 < 6) ∧ (0 ≤ p.2 ∧ p.2 < 6)) : fP (.str (sT (ptx d p))) = prV p := by
  show prV (((ltr p.1 : Nat) : Int) - 97, ((ltr p.2 : Nat) : Int) - 97) = prV p
  unfold ltr
  congr 1
  have h1 : ((97 + p.1.toNat : Nat) : Int) - 97 = p.1 := by omega
  have h2 : ((97 + p.2.toNat : Nat) : Int) - 97 = p.2 := by omega
  rw [h1, h2]
theorem pw_part {c d : Nat} {ps : List P2} (hc : c = 62 ∨ c = 126) (h6 : In6 ps) : (((ps.map fun p => sT (ptx d p)).map PV.str).filter (hasC c)).map fP = (if c = d then ps else []).map prV := by
  induction ps with
  | nil => split <;> rfl
  | cons p ps ih =>
    have ih := ih fun q hq => h6 q (List.mem_cons_of_mem _ hq)
    rw [List.map_cons, List.map_cons, List.filter_cons, has_ptx hc (h6 p List.mem_cons_self)]
    by_cases e : c = d
    · rw [if_pos e] at ih ⊢
      rw [if_pos (decide_eq_true e), List.map_cons, ih, fP_ptx (h6 p List.mem_cons_self)]
      rfl
    · rw [if_neg e] at ih ⊢
      rw [if_neg (by simpa using e), ih]
theorem pw_map {c : Nat} {ts bs : List P2} (hc : c = 62 ∨ c = 126) (h1 : In6 ts) (h2 : In6 bs) : (((pts ts bs).map PV.str).filter (hasC c)).map fP = (if c = 62 then ts else bs).map prV := by
  unfold pts
  rw [List.map_append, List.filter_append, List.map_append, pw_part hc h1, pw_part hc h2]
  rcases hc with rfl | rfl <;> simp
theorem srt_one : ∀ {a b : List P2}, a.Perm b → Srt a → Srt b → a = b
  | [], b, h, _, _ => by rw [List.Perm.nil_eq h]
  | x :: a, [], h, _, _ => absurd h.length_eq (by simp)
  | x :: a, y :: b, h, ha, hb => by
    unfold Srt at ha hb
    rw [List.pairwise_cons] at ha hb
    have e : x = y := by
      have h1 : x ∈ y :: b := h.mem_iff.mp List.mem_cons_self
      have h2 : y ∈ x :: a := h.mem_iff.mpr List.mem_cons_self
      rcases List.mem_cons.mp h1 with h1 | h1
      · exact h1
      · rcases List.mem_cons.mp h2 with h2 | h2
        · exact h2.symm
        · have q1 := hb.1 x h1
          have q2 := ha.1 y h2
          omega
    subst e
    rw [srt_one (List.Perm.cons_inv h) ha.2 hb.2]
theorem lg6 {c : Int} (h : 1 ≤ c ∧ c ≤ 6) : c.natAbs.log2 < 1920 := by
  have : c = 1 ∨ c = 2 ∨ c = 3 ∨ c = 4 ∨ c = 5 ∨ c = 6 := by omega
  rcases this with rfl | rfl | rfl | rfl | rfl | rfl <;> decide
theorem pl_prs {n : Nat} {ps : List P2} (h : ps.length ≤ 15) : Plain (n + 3) (.tup (ps.map prV)) := by
  unfold Plain
  refine ⟨by rw [List.length_map]; omega, fun x hx => ?_⟩
  obtain ⟨p, _, rfl⟩ := List.mem_map.mp hx
  unfold prV Plain
  refine ⟨by simp, fun x hx => ?_⟩
  rcases List.mem_cons.mp hx with rfl | hx
  · unfold Plain; trivial
  · rw [List.mem_singleton.mp hx]; unfold Plain; trivial
theorem pl_D {c : Int} {ts bs : List P2} (h1 : ts.length ≤ 15) (h2 : bs.length ≤ 15) : Plain 4 (.tup [.int c, .tup (ts.map prV), .tup (bs.map prV)]) := by
  unfold Plain
  refine ⟨by simp, fun x hx => ?_⟩
  rcases List.mem_cons.mp hx with rfl | hx
  · unfold Plain; trivial
  · rcases List.mem_cons.mp hx with rfl | hx
    · exact pl_prs h1
    · rw [List.mem_singleton.mp hx]; exact pl_prs h2

end
section
variable {P : Program} {w : World} {K : PySem.W.Frag} {mg : Str → Option Value} {base : Heap} {t : Ad}
local macro_rules | `(tactic| walk_at "rd") => `(tactic| simp only [uRet, uRetN, uOp, uI, uI0, uIx, uVar, uC, uSeq, uAsg, vName, uIfS, uNext, uDrop, uTest, uChain, uAnd, uOr, uNot, uAndV, uOrV, uNotV, uIf, uUn, uNil, uCons, uTup, uLst, uCB, uLen, uAbs, uInt, uList, uTuple, uSlice, uNoPart, uPart,
  uCall, uComp, uYes, uChain3, uFld, w_fl, uStFld, w_sf, uMeth, w_ii, uMake, w_al, w_ls, w_sp, uLenSet, w_rv, w_cl, w_in,uShr, uBand, uCat, w_ca, w_aS, w_iS, w_lS, w_LS, w_iT, uBMS, w_fd, w_jn, uSliceS, w_sS, w_r1x, uRev1, w_spl, w_nS, w_sti, w_mx, w_mi, w_own, uOwn, sT_one, sT_add, sT_len, sT_beq,  uFor, uSeqI, uEqG, uInG, BT.sub, BT.nm, w_bm, w_il, uBM0, ends, uBreak, uCont, start', flat, deq, deqs, w_V, w_B, w_I, w_O, w_St, w_Sf, w_Sr, w_Dr, w_Dn, w_Db, w_Di, w_Ds, w_Dt, w_Df, w_Tn, w_Tb, w_Ti, w_Ts, w_Tt, w_Tf, w_Tr, w_Ni, w_Nb, w_Lf, w_Lr, w_Lt, w_Xt, w_Xf, w_Xr, w_1, w_isi, w_n0, w_n1, w_n2, w_n3, w_n4, w_vt, w_vc, w_vn, w_r1, w_r1', w_r2, w_r2', w_ap, w_ex, w_po, cif_t, cif_f,
  List.map_cons, List.map_nil, List.length_cons, List.length_nil, Nat.reduceAdd, Nat.reduceSub, Nat.add_sub_cancel, Nat.sub_self, Nat.zero_add, List.replicate_succ, List.replicate_zero, List.cons_append, List.nil_append, List.append_nil, List.getElem?_cons_zero, List.getElem?_cons_succ, List.set_cons_zero, List.set_cons_succ,
  atI2_0, atI2_1, List.all_cons, List.all_nil, Bool.and_self, Bool.and_true, Bool.true_and, Bool.not_true, Bool.not_false, true_and, and_true, put_same, Option.some.injEq, PO.lst.injEq, exists_eq_left', Int.zero_add , e_ispair, e_arepairs, e_init, e_cell, e_mixed, e_pairs, ofS_gt, ofS_ti, ofS_co, ofS_num, ofS_bl, ofS_abc, e_same, e_pt, e_wr, e_pw, e_rd, e_lw])
theorem G_is_pair (T : Tx K mg t) : FnOk' P w K mg base CX0 1 t.a_is_pair t.d_is_pair ["count", "pair"] sp_ispair := by
  refine okU (k := 0) T.F_is_pair sc_is_pair (fun vs H Q E h => by
    unfold sp_ispair at h
    split at h
    · rfl
    · exact h.elim) (fun cdv A outer s H E B hr => ⟨_, (qss_one (qs_ret (qe_and (qe_cmp (op_eqU hr.units) vr_eq (qe_callB call_len_seq vc_len rfl T.b_len PySem.boot_len (qa_cons (qv 1) qa_nil)) qe_int (nomark _)) (qe_one (qe_chain3 op_le vr_le op_lt vr_lt op_lt vr_lt qe_int (qe_ix (qv 1) qe_int (fun _ _ => rfl)) (qe_ix (qv 1) qe_int (fun _ _ => rfl)) (qv 0)))))), ?_⟩)
  intro vs H Q E h
  unfold sp_ispair at h
  split at h
  · rename_i c u v
    obtain ⟨⟨h1, h2, h3⟩, h⟩ := h
    walk_at "rd"
    exact cif_pos rfl (cif_pos (by simpa using h1) (cif_pos (by simpa using h2) ⟨H, Sub.refl _, by rw [decide_eq_true h3]; exact h⟩))
  · exact h.elim

theorem G_are_pairs (T : Tx K mg t) : FnOk' P w K mg base CX0 2 t.a_are_pairs t.d_are_pairs ["count", "pairs"] sp_arepairs := by
  refine okU (k := 1) T.F_are_pairs sc_are_pairs (fun vs H Q E h => by
    unfold sp_arepairs at h
    split at h
    · rfl
    · exact h.elim) (fun cdv A outer s H E B hr => ⟨_, (qss_one (qs_ret (qe_and (qe_callB (call_all rfl) vc_all rfl T.b_all boot_all (qa_cons (qe_comp (N2 := ["pair", "count"]) (nt := 1) (js := [0]) (cok (sc := defScope s_are_pairs) (by exact rfl) (by repeat (first | exact trivial | refine ⟨rfl, ?_⟩)) rfl (by rfl) (by decide +kernel) (by decide +kernel) (by rfl) (by decide +kernel) (by rfl) (by rfl)) rfl (qi_seq (qv 1)) (fun s0 H0 fp ps => ⟨(qg_name (i := 0) (show List.Nodup (["pair", "count"] : List Str) by decide +kernel) rfl (by first | exact Or.inl rfl | exact Or.inr rfl)), qif_nil, (qe_call (G_is_pair T) (hr.mono (by decide)) rfl T.g_is_pair T.F_is_pair.kp T.B_is_pair (qa_cons (qv 1) (qa_cons (qv 0) qa_nil)))⟩)) qa_nil)) (qe_one (qe_cmp (op_eqU hr.units) vr_eq (qe_len_set rfl hr.units rfl T.b_len rfl T.b_set boot_set (qv 1)) (qe_callB call_len_seq vc_len rfl T.b_len PySem.boot_len (qa_cons (qv 1) qa_nil)) (nomark _)))))), ?_⟩)
  intro vs H Q E h
  unfold sp_arepairs at h
  split at h
  · rename_i c a
    obtain ⟨ps, ha, gd, hc, h⟩ := h
    have h15 := gd.len hc
    walk_at "rd"
    refine ⟨_, ha, fun acc hacc => ?_⟩
    have hna := ne_none ha hacc
    refine comp_pure (fun _ => .bl true) (fun _ => true) (fun σ => ∃ x, σ = [x, some (.int c)]) (by rw [List.length_map]; omega) (fun l => (put_ne hna).trans ha) ?step ?fin ⟨_, rfl⟩
    case step =>
      rintro y hy l σ R ⟨x, rfl⟩ hl kT kF
      obtain ⟨p, hp, rfl⟩ := List.mem_map.mp hy
      have b := gd.lo p hp
      unfold prV
      walk_at "rd"
      exact ⟨b, hl, by rw [put_put]; exact kT rfl _ ⟨_, rfl⟩⟩
    case fin =>
      walk_at "rd"
      refine ⟨ps.map fun _ => true, by rw [List.filter_eq_self.mpr (fun _ _ => rfl), List.map_map, List.map_map]; rfl, cif_pos (by simp) ⟨ps, (put_ne hna).trans ha, gd.nd, gd.prs hc, h15, _, (put_ne hna).trans ha, H, Sub.put (Sub.refl _) hacc, ?_⟩⟩
      rw [List.length_map, beq_self_eq_true]
      exact h
  · exact h.elim

theorem G_Drawing_init (T : Tx K mg t) : FnOk' P w K mg base CX0 3 t.a_Drawing_init t.d_Drawing_init ["self", "count", "ties", "bows"] (sp_init t) := by
  refine okU (k := 2) T.F_Drawing_init sc_Drawing_init (fun vs H Q E h => by
    unfold sp_init at h
    split at h
    · rfl
    · exact h.elim) (fun cdv A outer s H E B hr => ⟨_, (qss_cons (qs_if (qt_bool (qw_or (qt_cmp op_lt vr_lt (qv 1) qe_int (nomark _)) (qw_or1 (qt_cmp op_gt vr_gt (qv 1) (qe_globE (v' := .int 6) rfl T.c_MOST_NAMES (fun _ => by simp [RP])) (nomark _)))))
    qss_never
    qss_nil)
    (qss_cons (qs_setC (i := 4) sc_Drawing_init.nd rfl (by first | exact Or.inl rfl | exact Or.inr rfl) (N2 := ["tie"]) (nt := 1) (js := []) (cok (sc := defScope s_Drawing_init) (by exact rfl) (by repeat (first | exact trivial | refine ⟨rfl, ?_⟩)) rfl (by rfl) (by decide +kernel) (by decide +kernel) (by rfl) (by decide +kernel) (by rfl) (by rfl)) rfl (qi_seq (qv 2)) (fun s0 H0 fp ps => ⟨(qg_name (i := 0) (show List.Nodup (["tie"] : List Str) by decide +kernel) rfl (by first | exact Or.inl rfl | exact Or.inr rfl)), qif_nil, (qe_callTy call_tuple_of vc_tuple rfl T.b_tuple boot_tuple (qa_cons (qv 0) qa_nil))⟩))
    (qss_cons (qs_if (qt_not (qt_val (qe_call (G_are_pairs T) (hr.mono (by decide)) rfl T.g_are_pairs T.F_are_pairs.kp T.B_are_pairs (qa_cons (qv 1) (qa_cons (qv 4) qa_nil)))))
    qss_never
    qss_nil)
    (qss_cons (qs_setC (i := 5) sc_Drawing_init.nd rfl (by first | exact Or.inl rfl | exact Or.inr rfl) (N2 := ["bow"]) (nt := 1) (js := []) (cok (sc := defScope s_Drawing_init) (by exact rfl) (by repeat (first | exact trivial | refine ⟨rfl, ?_⟩)) rfl (by rfl) (by decide +kernel) (by decide +kernel) (by rfl) (by decide +kernel) (by rfl) (by rfl)) rfl (qi_seq (qv 3)) (fun s0 H0 fp ps => ⟨(qg_name (i := 0) (show List.Nodup (["bow"] : List Str) by decide +kernel) rfl (by first | exact Or.inl rfl | exact Or.inr rfl)), qif_nil, (qe_callTy call_tuple_of vc_tuple rfl T.b_tuple boot_tuple (qa_cons (qv 0) qa_nil))⟩))
    (qss_cons (qs_if (qt_not (qt_val (qe_call (G_are_pairs T) (hr.mono (by decide)) rfl T.g_are_pairs T.F_are_pairs.kp T.B_are_pairs (qa_cons (qv 1) (qa_cons (qv 5) qa_nil)))))
    qss_never
    qss_nil)
    (qss_cons (qs_if (qt_cmp op_gt vr_gt (qe_callB call_len_seq vc_len rfl T.b_len PySem.boot_len (qa_cons (qv 5) qa_nil)) (qe_globE (v' := .int 6) rfl T.c_MOST_BOWS (fun _ => by simp [RP])) (nomark _))
    qss_never
    qss_nil)
    (qss_cons (qs_fld (qv 0) (qv 1) T.cl_Drawing T.nf_Drawing_count rfl)
    (qss_cons (qs_fld (qv 0) (qe_callTy call_tuple_of vc_tuple rfl T.b_tuple boot_tuple (qa_cons (qe_callB call_sortP vc_sortP rfl T.b_sorted boot_sorted (qa_cons (qv 4) qa_nil)) qa_nil)) T.cl_Drawing T.nf_Drawing_ties rfl)
    (qss_one (qs_fld (qv 0) (qe_callTy call_tuple_of vc_tuple rfl T.b_tuple boot_tuple (qa_cons (qe_callB call_sortP vc_sortP rfl T.b_sorted boot_sorted (qa_cons (qv 5) qa_nil)) qa_nil)) T.cl_Drawing T.nf_Drawing_bows rfl)))))))))), ?_⟩)
  intro vs H Q E h
  unfold sp_init at h
  split at h
  · rename_i x c a b
    obtain ⟨dx, ys, zs, ps, qs, hx, ha, hb, ry, rz, gp, gq, ⟨c1, c6, q6⟩, h⟩ := h
    have hp15 := gp.len c6
    have hq15 := gq.len c6
    refine seq_abs fun R hR => ?_
    walk_at "rd"
    refine cif_neg (by simp; omega) (cif_neg (by simp; omega) ?_)
    subst hR
    refine seq_abs fun R hR => ?_
    walk_at "rd"
    refine ⟨_, ha, fun p1 hp1 => ?_⟩
    refine comp_pure (rowT H) (fun _ => true) (fun σ => ∃ z, σ = [z]) (by rw [ry.length]; omega) (fun l => (put_ne (ne_none ha hp1)).trans ha) ?_ ?_ ⟨_, rfl⟩
    · rintro y hy l σ R' ⟨z, rfl⟩ hl kT kF
      obtain ⟨p, hp, row⟩ := pd_mem ry hy
      rcases row with rfl | ⟨r, rfl, hr⟩
      · unfold prV
        walk_at "rd"
        exact ⟨hl, by rw [put_put]; exact kT rfl _ ⟨_, rfl⟩⟩
      · rw [rowT_ref hr] at kT
        walk_at "rd"
        exact ⟨_, (put_ne (ne_none hr hp1)).trans hr, hl, by rw [put_put]; exact kT rfl _ ⟨_, rfl⟩⟩
    rw [List.filter_eq_self.mpr (fun _ _ => rfl), rows_map ry]
    subst hR
    have sb1 : U.Sub H (put H p1 (.lst (ps.map prV))) := Sub.put (Sub.refl _) hp1
    refine seq_abs fun R hR => ?_
    walk_at "rd"
    refine ⟨ps, rfl, gp, c6, ?_⟩
    try walk_at "rd"
    subst hR
    have hp1s : put H p1 (.lst (ps.map prV)) p1 = some (.lst (ps.map prV)) := put_same
    have hx1 := sb1 _ _ hx
    have hb1 := sb1 _ _ hb
    have rz1 := rz.up sb1
    generalize put H p1 (.lst (ps.map prV)) = H1 at *
    refine seq_abs fun R hR => ?_
    walk_at "rd"
    refine ⟨_, hb1, fun p2 hp2 => ?_⟩
    refine comp_pure (rowT H1) (fun _ => true) (fun σ => ∃ z, σ = [z]) (by rw [rz1.length]; omega) (fun l => (put_ne (ne_none hb1 hp2)).trans hb1) ?_ ?_ ⟨_, rfl⟩
    · rintro y hy l σ R' ⟨z, rfl⟩ hl kT kF
      obtain ⟨p, hp, row⟩ := pd_mem rz1 hy
      rcases row with rfl | ⟨r, rfl, hr⟩
      · unfold prV
        walk_at "rd"
        exact ⟨hl, by rw [put_put]; exact kT rfl _ ⟨_, rfl⟩⟩
      · rw [rowT_ref hr] at kT
        walk_at "rd"
        exact ⟨_, (put_ne (ne_none hr hp2)).trans hr, hl, by rw [put_put]; exact kT rfl _ ⟨_, rfl⟩⟩
    rw [List.filter_eq_self.mpr (fun _ _ => rfl), rows_map rz1]
    subst hR
    have sb2 : U.Sub H1 (put H1 p2 (.lst (qs.map prV))) := Sub.put (Sub.refl _) hp2
    have hp1t := sb2 _ _ hp1s
    have hx2 := sb2 _ _ hx1
    have hp2s : put H1 p2 (.lst (qs.map prV)) p2 = some (.lst (qs.map prV)) := put_same
    refine seq_abs fun R hR => ?_
    walk_at "rd"
    refine ⟨qs, rfl, gq, c6, ?_⟩
    try walk_at "rd"
    subst hR
    have sb3 := sb1.trans sb2
    generalize put H1 p2 (.lst (qs.map prV)) = H2 at *
    refine seq_abs fun R hR => ?_
    walk_at "rd"
    refine ⟨_, hp2s, cif_neg (by rw [List.length_map]; simp; omega) ?_⟩
    subst hR
    refine seq_abs fun R hR => ?_
    walk_at "rd"
    refine ⟨_, _, hx2, by simp, ?_⟩
    subst hR
    have n1 : p1 ≠ x := fun e => by subst e; rw [hx2] at hp1t; cases hp1t
    have n2 : p2 ≠ x := fun e => by subst e; rw [hx2] at hp2s; cases hp2s
    refine seq_abs fun R hR => ?_
    walk_at "rd"
    refine ⟨ps, (put_ne n1).trans hp1t, gp.nd, fun p hp => ?_, by omega, fun r1 ts hr1 pt st => ?_⟩
    · have := gp.lo p hp; omega
    try walk_at "rd"
    have nx1 : x ≠ r1 := fun e => by subst e; rw [put_same] at hr1; cases hr1
    refine ⟨_, _, (put_ne nx1).trans put_same, Nat.lt_of_le_of_lt putU_len (by decide), ?_⟩
    subst hR
    have n3 : p2 ≠ r1 := fun e => by subst e; rw [put_ne n2, hp2s] at hr1; cases hr1
    walk_at "rd"
    refine ⟨qs, (put_ne n2).trans ((put_ne n3).trans ((put_ne n2).trans hp2s)), gq.nd, fun p hp => ?_, by omega, fun r2 bs hr2 pb sb => ?_⟩
    · have := gq.lo p hp; omega
    try walk_at "rd"
    have nx2 : x ≠ r2 := fun e => by subst e; rw [put_same] at hr2; cases hr2
    have ul := fun f v fs => @putU_len f v fs
    refine ⟨_, _, (put_ne nx2).trans put_same, ?_, put H x (.ins t.a_Drawing dx (DF c ts bs)), sub_putx ?_ put_same, h ts bs pt st pb sb⟩
    · have l1 := ul "ties" (.tup (ts.map prV)) (putU "count" (.int c) [])
      have l2 := ul "count" (.int c) []
      simp only [List.length_nil] at l2
      omega
    · intro z o hzx hz
      have hz2 := sb3 _ _ hz
      have z1 : z ≠ r1 := fun e => by subst e; rw [put_ne hzx, hz2] at hr1; cases hr1
      have z2 : z ≠ r2 := fun e => by subst e; rw [put_ne hzx, put_ne z1, put_ne hzx, hz2] at hr2; cases hr2
      rw [put_ne hzx, put_ne z2, put_ne hzx, put_ne z1, put_ne hzx]
      exact hz2
  · exact h.elim

theorem G_law_cell_at (T : Tx K mg t) : FnOk' P w K mg base CX0 1 t.a_law_cell_at t.d_law_cell_at ["_law_script", "_law_k"] sp_cell := by
  refine okU (k := 0) T.F_law_cell_at sc_law_cell_at (fun vs H Q E h => by
    unfold sp_cell at h
    split at h
    · rfl
    · exact h.elim) (fun cdv A outer s H E B hr => ⟨_, (qss_cons (qs_if (qt_cmp op_lt vr_lt (qv 1) (qe_callB call_len_seq vc_len rfl T.b_len PySem.boot_len (qa_cons (qv 0) qa_nil)) (nomark _))
    (qss_one (qs_ret (qe_ix (qv 0) (qv 1) (fun _ _ => rfl))))
    qss_nil)
    (qss_one (qs_ret qe_int))), ?_⟩)
  intro vs H Q E h
  unfold sp_cell at h
  split at h
  · rename_i l k
    obtain ⟨⟨h0, h1⟩, ns, rfl, h⟩ := h
    walk_at "rd"
    by_cases hk : k < ns.length
    · refine cif_pos (by rw [List.length_map]; simpa using hk) ?_
      rw [atI_int h0 hk]
      exact ⟨H, Sub.refl _, h⟩
    · refine cif_neg (by rw [List.length_map]; simpa using hk) ⟨H, Sub.refl _, ?_⟩
      rw [List.getD_eq_getElem?_getD, List.getElem?_eq_none (by omega)] at h
      exact h
  · exact h.elim

theorem G_law_mixed (T : Tx K mg t) : FnOk' P w K mg base CX0 1 t.a_law_mixed t.d_law_mixed ["_law_cell", "_law_many"] sp_mixed := by
  refine okU (k := 0) T.F_law_mixed sc_law_mixed (fun vs H Q E h => by
    unfold sp_mixed at h
    split at h
    · rfl
    · exact h.elim) (fun cdv A outer s H E B hr => ⟨_, (qss_cons (qs_set (i := 2) sc_law_mixed.nd rfl (by first | exact Or.inl rfl | exact Or.inr rfl) (qe_lst qa_nil))
    (qss_cons (qs_set (i := 3) sc_law_mixed.nd rfl (by first | exact Or.inl rfl | exact Or.inr rfl) (qe_fdiv (qv 0) qe_int))
    (qss_cons (qs_if (qt_cmp (op_eqU hr.units) vr_eq (qe_mod (qv 0) qe_int) qe_int (nomark _))
    (qss_cons (qs_for PassesOwn.never rfl (qi_range1 rfl T.b_range (qa_cons (qv 1) qa_nil)) (qg_name (i := 4) sc_law_mixed.nd rfl (by first | exact Or.inl rfl | exact Or.inr rfl))
      (qss_cons (qs_expr (qe_bm PySem.F.slot_list_append PySem.F.type_list_append mt_append vm_append (qv 2) (qa_cons (qe_mod (qv 3) qe_int) qa_nil)))
        (qss_one (qs_set (i := 3) sc_law_mixed.nd rfl (by first | exact Or.inl rfl | exact Or.inr rfl) (qe_fdiv (qv 3) qe_int)))))
      (qss_one (qs_ret (qv 2))))
    qss_nil)
    (qss_cons (qs_set (i := 3) sc_law_mixed.nd rfl (by first | exact Or.inl rfl | exact Or.inr rfl) (qe_mod (qe_add (qe_mul (qe_mod (qv 3) qe_int) qe_int) qe_int) qe_int))
    (qss_cons (qs_for PassesOwn.never rfl (qi_range1 rfl T.b_range (qa_cons (qv 1) qa_nil)) (qg_name (i := 4) sc_law_mixed.nd rfl (by first | exact Or.inl rfl | exact Or.inr rfl))
    (qss_cons (qs_set (i := 3) sc_law_mixed.nd rfl (by first | exact Or.inl rfl | exact Or.inr rfl) (qe_mod (qe_add (qe_add (qe_add (qe_mul (qv 3) (qv 3)) (qe_mul qe_int (qv 3))) (qv 4)) qe_int) qe_int))
      (qss_one (qs_expr (qe_bm PySem.F.slot_list_append PySem.F.type_list_append mt_append vm_append (qv 2) (qa_cons (qv 3) qa_nil))))))
    (qss_one (qs_ret (qv 2)))))))), ?_⟩)
  intro vs H Q E h
  unfold sp_mixed at h
  split at h
  · rename_i c m
    obtain ⟨⟨h0, h1⟩, h⟩ := h
    walk_at "rd"
    refine ⟨small_size (by decide), fun p hp => ⟨cdvB (by decide) (by decide), by decide, ?_⟩⟩
    have hs : ∀ (xs : List Int) (i : Nat), xs.length = i → i < m.toNat → (xs.map PV.int).length < sizeLine := fun xs i h1 h2 => by
      rw [List.length_map]; exact small1000 (by omega)
    refine cif_by (fun _ => ⟨⟨by omega, by omega⟩, ?_⟩) (fun _ => ⟨by decide, .inr ⟨?f1, ?f2⟩, by decide, ⟨by omega, by omega⟩, ?_⟩)
    · refine for_rng (fun i σ H2 => ∃ num k xs, σ = [some (.int c), some (.int m), some (.ref p), some (.int num), k] ∧ H2 = put H p (.lst (xs.map PV.int)) ∧ xs.length = i) ?_ ?_ ⟨_, _, [], rfl, rfl, rfl⟩
      · rintro σ H2 ⟨num, k, xs, rfl, rfl, hl⟩
        exact ⟨trivial, _, Sub.refl _, h p xs hp hl⟩
      · rintro G i σ H2 hi ⟨num, k, xs, rfl, rfl, hl⟩ kk
        refine ⟨trivial, ?_⟩
        walk_at "rd"
        exact ⟨⟨_, rfl⟩, by decide, hs xs i hl hi, cdvB (by decide) (by decide), kk _ _ ⟨_, _, xs ++ [num.fmod 5040], rfl, by rw [put_put, List.map_append]; rfl, by rw [List.length_append, hl]; rfl⟩⟩
    case f1 => have := fm (a := c.fdiv 2) (b := 2147483647) (by decide); exact fit64 (by omega)
    case f2 => exact fit64 (by decide)
    · have b0 := fm (a := (c.fdiv 2).fmod 2147483647 * 16807 + 11) (b := 2147483647) (by decide)
      generalize ((c.fdiv 2).fmod 2147483647 * 16807 + 11).fmod 2147483647 = num at *
      refine for_rng (fun i σ H2 => ∃ num k xs, (0 ≤ num ∧ num < 2147483647) ∧ σ = [some (.int c), some (.int m), some (.ref p), some (.int num), k] ∧ H2 = put H p (.lst (xs.map PV.int)) ∧ xs.length = i) ?_ ?_ ⟨_, _, [], b0, rfl, rfl, rfl⟩
      · rintro σ H2 ⟨num, k, xs, _, rfl, rfl, hl⟩
        exact ⟨trivial, _, Sub.refl _, h p xs hp hl⟩
      · rintro G i σ H2 hi ⟨num, k, xs, ⟨b1, b2⟩, rfl, rfl, hl⟩ kk
        refine ⟨trivial, ?_⟩
        walk_at "rd"
        exact ⟨.inr ⟨fit64 (by omega), fit64 (by omega)⟩, .inr ⟨fit64 (by decide), fit64 (by omega)⟩, by decide, ⟨_, rfl⟩, hs xs i hl hi, kk _ _ ⟨_, _, xs ++ [_], fm (by decide), rfl, by rw [put_put, List.map_append]; rfl, by rw [List.length_append, hl]; rfl⟩⟩
  · exact h.elim

theorem G_law_pairs (T : Tx K mg t) : FnOk' P w K mg base CX0 2 t.a_law_pairs t.d_law_pairs ["_law_script", "_law_at"] sp_pairs := by
  refine okU (k := 1) T.F_law_pairs sc_law_pairs (fun vs H Q E h => by
    unfold sp_pairs at h
    split at h
    · rfl
    · exact h.elim) (fun cdv A outer s H E B hr => ⟨_, (qss_cons (qs_set (i := 2) sc_law_pairs.nd rfl (by first | exact Or.inl rfl | exact Or.inr rfl) (qe_call (G_law_cell_at T) (hr.mono (by decide)) rfl T.g_law_cell_at T.F_law_cell_at.kp T.B_law_cell_at (qa_cons (qv 0) (qa_cons (qv 1) qa_nil))))
    (qss_cons (qs_set (i := 3) sc_law_pairs.nd rfl (by first | exact Or.inl rfl | exact Or.inr rfl) (qe_add qe_int (qe_mod (qv 2) qe_int)))
    (qss_cons (qs_set (i := 4) sc_law_pairs.nd rfl (by first | exact Or.inl rfl | exact Or.inr rfl) (qe_mod (qe_fdiv (qv 2) qe_int) qe_int))
    (qss_cons (qs_set (i := 5) sc_law_pairs.nd rfl (by first | exact Or.inl rfl | exact Or.inr rfl) (qe_call (G_law_mixed T) (hr.mono (by decide)) rfl T.g_law_mixed T.F_law_mixed.kp T.B_law_mixed (qa_cons (qe_call (G_law_cell_at T) (hr.mono (by decide)) rfl T.g_law_cell_at T.F_law_cell_at.kp T.B_law_cell_at (qa_cons (qv 0) (qa_cons (qe_add (qv 1) qe_int) qa_nil))) (qa_cons qe_int qa_nil))))
    (qss_cons (qs_set (i := 6) sc_law_pairs.nd rfl (by first | exact Or.inl rfl | exact Or.inr rfl) (qe_lst qa_nil))
    (qss_cons (qs_set (i := 7) sc_law_pairs.nd rfl (by first | exact Or.inl rfl | exact Or.inr rfl) (qe_lst qa_nil))
    (qss_cons (qs_set (i := 8) sc_law_pairs.nd rfl (by first | exact Or.inl rfl | exact Or.inr rfl) qe_int)
    (qss_cons (qs_for PassesOwn.never rfl (qi_range1 rfl T.b_range (qa_cons (qv 3) qa_nil)) (qg_name (i := 9) sc_law_pairs.nd rfl (by first | exact Or.inl rfl | exact Or.inr rfl))
    (qss_one (qs_for PassesOwn.never rfl (qi_range1 rfl T.b_range (qa_cons (qv 9) qa_nil)) (qg_name (i := 10) sc_law_pairs.nd rfl (by first | exact Or.inl rfl | exact Or.inr rfl))
      (qss_cons (qs_if (qt_cmp (op_eqU hr.units) vr_eq (qe_mod (qe_ix (qv 5) (qv 8) (fun _ _ => rfl)) (qe_ix (qe_lst (qa_cons qe_int (qa_cons qe_int (qa_cons qe_int (qa_cons qe_int qa_nil))))) (qv 4) (fun _ _ => rfl))) qe_int (nomark _))
        (qss_one (qs_expr (qe_bm PySem.F.slot_list_append PySem.F.type_list_append mt_append vm_append (qv 6) (qa_cons (qe_tup (qa_cons (qv 10) (qa_cons (qv 9) qa_nil))) qa_nil))))
        qss_nil)
        (qss_cons (qs_if (qt_bool (qw_and (qt_cmp (op_eqU hr.units) vr_eq (qe_mod (qe_fdiv (qe_ix (qv 5) (qv 8) (fun _ _ => rfl)) qe_int) (qe_ix (qe_lst (qa_cons qe_int (qa_cons qe_int (qa_cons qe_int (qa_cons qe_int qa_nil))))) (qv 4) (fun _ _ => rfl))) qe_int (nomark _)) (qw_and1 (qt_cmp op_lt vr_lt (qe_callB call_len_seq vc_len rfl T.b_len PySem.boot_len (qa_cons (qv 7) qa_nil)) qe_int (nomark _)))))
        (qss_one (qs_expr (qe_bm PySem.F.slot_list_append PySem.F.type_list_append mt_append vm_append (qv 7) (qa_cons (qe_tup (qa_cons (qv 10) (qa_cons (qv 9) qa_nil))) qa_nil))))
        qss_nil)
        (qss_one (qs_set (i := 8) sc_law_pairs.nd rfl (by first | exact Or.inl rfl | exact Or.inr rfl) (qe_add (qv 8) qe_int))))))))
    (qss_one (qs_ret (qe_tup (qa_cons (qv 3) (qa_cons (qv 6) (qa_cons (qv 7) qa_nil)))))))))))))), ?_⟩)
  intro vs H Q E h
  unfold sp_pairs at h
  split at h
  · rename_i l k
    obtain ⟨⟨h0, h1⟩, ns, rfl, h⟩ := h
    walk_at "rd"
    refine ⟨⟨h0, by omega⟩, ns, rfl, by decide, cdvB (by decide) (by decide), by decide, ⟨by omega, by omega⟩, ns, rfl, ⟨by decide, by decide⟩, fun p xs hp hxs => ⟨small_size (by decide), fun p1 hp1 => ⟨small_size (by decide), fun p2 hp2 => ?_⟩⟩⟩
    have hc := fm (a := ns.getD k.toNat 0) (b := 6) (by decide)
    have hd := fm (a := (ns.getD k.toNat 0).fdiv 6) (b := 4) (by decide)
    generalize ((ns.getD k.toNat 0).fdiv 6).fmod 4 = d at *
    generalize hcc : 1 + (ns.getD k.toNat 0).fmod 6 = c at *
    have hc1 : 1 ≤ c ∧ c ≤ 6 := by omega
    refine ⟨⟨by omega, by omega⟩, ?_⟩
    have q1 : H p1 = none := (Sub.put (Sub.refl H) hp).free hp1
    have n12 : p1 ≠ p2 := fun e => by subst e; rw [put_same] at hp2; cases hp2
    have q2 : H p2 = none := ((Sub.put (Sub.refl H) hp).put (o := .lst []) q1).free hp2
    refine for_rng (fun i σ H2 => ∃ v u ts bs, σ = [some (.fls (ns.map PV.int)), some (.int k), some (.int (ns.getD k.toNat 0)), some (.int c), some (.int d), some (.ref p), some (.ref p1), some (.ref p2), some (.int (DM.tri i : Nat)), v, u] ∧ (U.Sub H H2 ∧ H2 p = some (.lst (xs.map PV.int)) ∧ H2 p1 = some (.lst (ts.map prV)) ∧ H2 p2 = some (.lst (bs.map prV))) ∧ DM.Good (i : Nat) ts ∧ DM.Good (i : Nat) bs ∧ bs.length ≤ 6) ?_ ?_ ?_
    · rintro σ H2 ⟨v, u, ts, bs, rfl, ⟨s1, s2, s3, s4⟩, g1, g2, l6⟩
      refine ⟨trivial, ?_⟩
      walk_at "rd"
      have ec : ((c.toNat : Nat) : Int) = c := by omega
      rw [ec] at g1 g2
      exact ⟨small_size (by decide), _, sub_put (sub_put s1 s3) s4, h c ts bs p1 p2 hc1 g1 g2 l6 q1 q2 n12⟩
    · rintro G i σ H2 hi ⟨v, u, ts, bs, rfl, hH, g1, g2, l6⟩ kk
      refine ⟨trivial, ?_⟩
      walk_at "rd"
      obtain ⟨s1, s2, s3, s4⟩ := hH
      obtain ⟨da, hda, da0⟩ := ix4a hd.1 hd.2
      obtain ⟨db, hdb, db0⟩ := ix4b hd.1 hd.2
      have ht := DM.tri_le i (by omega)
      refine ⟨⟨by omega, by omega⟩, ?_⟩
      rw [Int.toNat_natCast]
      refine for_rng (fun j σ H3 => ∃ u ts bs, σ = [some (.fls (ns.map PV.int)), some (.int k), some (.int (ns.getD k.toNat 0)), some (.int c), some (.int d), some (.ref p), some (.ref p1), some (.ref p2), some (.int (DM.tri i + j : Nat)), some (.int (i : Nat)), u] ∧ (U.Sub H H3 ∧ H3 p = some (.lst (xs.map PV.int)) ∧ H3 p1 = some (.lst (ts.map prV)) ∧ H3 p2 = some (.lst (bs.map prV))) ∧ GJ (i : Nat) (j : Nat) ts ∧ GJ (i : Nat) (j : Nat) bs ∧ bs.length ≤ 6) ?_ ?_ ⟨_, ts, bs, rfl, ⟨s1, s2, s3, s4⟩, GJ.of g1, GJ.of g2, l6⟩
      · rintro σ H3 ⟨u, ts, bs, rfl, hH, a1, a2, l6⟩
        exact ⟨trivial, kk _ _ ⟨_, _, ts, bs, rfl, hH, a1.good, a2.good, l6⟩⟩
      · rintro G' j σ H3 hj ⟨u, ts, bs, rfl, ⟨s1, s2, s3, s4⟩, a1, a2, l6⟩ kk'
        refine ⟨trivial, ?_⟩
        have hx : atI (xs.map PV.int) ((DM.tri i + j : Nat) : Int) = some (.int (xs.getD ((DM.tri i + j : Nat) : Int).toNat 0)) := atI_int (by omega) (by rw [hxs]; omega)
        generalize xs.getD ((DM.tri i + j : Nat) : Int).toNat 0 = xv at hx
        have last : ∀ ts' bs' H4, (U.Sub H H4 ∧ H4 p = some (.lst (xs.map PV.int)) ∧ H4 p1 = some (.lst (ts'.map prV)) ∧ H4 p2 = some (.lst (bs'.map prV))) → GJ (i : Nat) ((j : Nat) + 1 : Int) ts' → GJ (i : Nat) ((j : Nat) + 1 : Int) bs' → bs'.length ≤ 6 →
            G' [some (.fls (ns.map PV.int)), some (.int k), some (.int (ns.getD k.toNat 0)), some (.int c), some (.int d), some (.ref p), some (.ref p1), some (.ref p2), some (.int (((DM.tri i + j : Nat) : Int) + 1)), some (.int (i : Nat)), some (.int (j : Nat))] H4 := fun ts' bs' H4 x1 x2 x3 x4 => kk' _ _ ⟨_, ts', bs', rfl, x1, x2, x3, x4⟩
        refine seq_abs fun R hR => ?_
        have second : ∀ (ts' : List DM.P2) (H4 : PHp), (U.Sub H H4 ∧ H4 p = some (.lst (xs.map PV.int)) ∧ H4 p1 = some (.lst (ts'.map prV)) ∧ H4 p2 = some (.lst (bs.map prV))) → GJ (i : Nat) ((j : Nat) + 1 : Int) ts' →
            R { nx := G', rt := fun v H => ∃ H3, U.Sub H3 H ∧ Q v H3, bk := G, ct := G' } [some (.fls (ns.map PV.int)), some (.int k), some (.int (ns.getD k.toNat 0)), some (.int c), some (.int d), some (.ref p), some (.ref p1), some (.ref p2), some (.int ((DM.tri i + j : Nat) : Int)), some (.int (i : Nat)), some (.int (j : Nat))] H4 := by
          rintro ts' H4 ⟨u1, u2, u3, u4⟩ b1
          subst hR
          refine seq_abs fun R hR => ?_
          walk_at "rd"
          refine ⟨_, u2, ?_⟩
          rw [hx]
          walk_at "rd"
          refine ⟨cdvB (by decide) (by decide), small_size (by decide), fun p4 hp4 => ?_⟩
          try walk_at "rd"
          rw [hdb]
          try walk_at "rd"
          have m1 := ne_none u2 hp4
          have m2 := ne_none u3 hp4
          have m3 := ne_none u4 hp4
          have sb4 := u1.put (o := .lst [.int 2, .int 3, .int 5, .int 2]) (u1.free hp4)
          have w2 := (put_ne (o := .lst [.int 2, .int 3, .int 5, .int 2]) m1).trans u2
          have w3 := (put_ne (o := .lst [.int 2, .int 3, .int 5, .int 2]) m2).trans u3
          have w4 := (put_ne (o := .lst [.int 2, .int 3, .int 5, .int 2]) m3).trans u4
          generalize put H4 p4 (.lst [.int 2, .int 3, .int 5, .int 2]) = H5 at *
          refine ⟨db0, ?_⟩
          have nxt : R { nx := G', rt := fun v H => ∃ H3, U.Sub H3 H ∧ Q v H3, bk := G, ct := G' } [some (.fls (ns.map PV.int)), some (.int k), some (.int (ns.getD k.toNat 0)), some (.int c), some (.int d), some (.ref p), some (.ref p1), some (.ref p2), some (.int ((DM.tri i + j : Nat) : Int)), some (.int (i : Nat)), some (.int (j : Nat))] H5 := by
            subst hR
            walk_at "rd"
            exact last ts' bs H5 ⟨sb4, w2, w3, w4⟩ b1 a2.up l6
          refine cif_by (fun _ => ?_) (fun _ => ?_)
          · refine ⟨_, w4, ?_⟩
            by_cases h6 : bs.length < 6
            · refine cif_pos (by rw [List.length_map]; simp; omega) ?_
              refine ⟨⟨_, w4⟩, small_size (by decide), _, w4, by rw [List.length_map]; exact small1000 (by omega), ?_⟩
              subst hR
              walk_at "rd"
              have n12' : p1 ≠ p2 := n12
              have np2 : p ≠ p2 := fun e => by
                subst e
                rw [put_ne (fun e => by subst e; rw [put_same] at hp1; cases hp1), put_same] at hp2; cases hp2
              refine last ts' (bs ++ [(((j : Nat) : Int), ((i : Nat) : Int))]) _ ⟨sb4.put q2, (put_ne np2).trans w2, (put_ne n12).trans w3, ?_⟩ b1 (a2.app (by omega) (by omega)) (by rw [List.length_append]; simp; omega)
              rw [put_same, List.map_append]; rfl
            · refine cif_neg (by rw [List.length_map]; simp; omega) nxt
          · exact nxt
        walk_at "rd"
        refine ⟨_, s2, ?_⟩
        rw [hx]
        walk_at "rd"
        refine ⟨small_size (by decide), fun p3 hp3 => ?_⟩
        try walk_at "rd"
        rw [hda]
        try walk_at "rd"
        have m1 := ne_none s2 hp3
        have m2 := ne_none s3 hp3
        have m3 := ne_none s4 hp3
        have sb3 := s1.put (o := .lst [.int 2, .int 3, .int 2, .int 4]) (s1.free hp3)
        have w2 := (put_ne (o := .lst [.int 2, .int 3, .int 2, .int 4]) m1).trans s2
        have w3 := (put_ne (o := .lst [.int 2, .int 3, .int 2, .int 4]) m2).trans s3
        have w4 := (put_ne (o := .lst [.int 2, .int 3, .int 2, .int 4]) m3).trans s4
        generalize put H3 p3 (.lst [.int 2, .int 3, .int 2, .int 4]) = H5 at *
        have t15 : ts.length ≤ 15 := (show DM.Good ((i : Nat) + 1 : Int) ts from ⟨a1.nd, fun p hp => by have := a1.lo p hp; omega⟩).len (by omega)
        refine ⟨da0, cif_by (fun _ => ?_) (fun _ => second ts H5 ⟨sb3, w2, w3, w4⟩ a1.up)⟩
        refine ⟨⟨_, w3⟩, small_size (by decide), _, w3, by rw [List.length_map]; exact small1000 (by omega), ?_⟩
        have np1 : p ≠ p1 := fun e => by subst e; rw [put_same] at hp1; cases hp1
        refine second (ts ++ [(((j : Nat) : Int), ((i : Nat) : Int))]) _ ⟨sb3.put q1, (put_ne np1).trans w2, ?_, (put_ne n12.symm).trans w4⟩ (a1.app (by omega) (by omega))
        rw [put_same, List.map_append]; rfl
    · have np1 : p ≠ p1 := fun e => by subst e; rw [put_same] at hp1; cases hp1
      have np2 : p ≠ p2 := fun e => by subst e; rw [put_ne np1, put_same] at hp2; cases hp2
      refine ⟨_, _, [], [], rfl, ⟨?_, ?_, ?_, put_same⟩, ⟨List.nodup_nil, by simp⟩, ⟨List.nodup_nil, by simp⟩, by simp⟩
      · exact (((Sub.refl H).put hp).put q1).put q2
      · rw [put_ne np2, put_ne np1, put_same]
      · rw [put_ne n12, put_same]; rfl
  · exact h.elim

theorem G_pair_text (T : Tx K mg t) : FnOk' P w K mg base CX0 1 t.a_pair_text t.d_pair_text ["pair", "sign"] sp_pt := by
  refine okU (k := 0) T.F_pair_text sc_pair_text (fun vs H Q E h => by
    unfold sp_pt at h
    split at h
    · rfl
    · exact h.elim) (fun cdv A outer s H E B hr => ⟨_, (qss_one (qs_ret (qe_addS (qe_addS (qe_ixS (qe_globE (v' := .str "abcdef") rfl T.c_LETTERS (fun _ => by simp [RP])) (qe_ix (qv 0) qe_int (fun _ _ => rfl)) (fun _ _ => rfl)) (qv 1)) (qe_ixS (qe_globE (v' := .str "abcdef") rfl T.c_LETTERS (fun _ => by simp [RP])) (qe_ix (qv 0) qe_int (fun _ _ => rfl)) (fun _ _ => rfl))))), ?_⟩)
  intro vs H Q E h
  unfold sp_pt at h
  split at h
  · rename_i u v z
    obtain ⟨⟨⟨u0, u1⟩, v0, v1⟩, c, rfl, h⟩ := h
    walk_at "rd"
    refine ⟨line_ge (by decide), _, abc_at u0 u1, ?_⟩
    try walk_at "rd"
    refine ⟨line_ge (by first | omega | (simp only [List.length_append, List.length_cons, List.length_nil]; omega)), line_ge (by decide), _, abc_at v0 v1, ?_⟩
    try walk_at "rd"
    exact ⟨line_ge (by first | omega | (simp only [List.length_append, List.length_cons, List.length_nil]; omega)), H, Sub.refl _, h⟩
  · exact h.elim

theorem G_written (T : Tx K mg t) : FnOk' P w K mg base CX0 2 t.a_written t.d_written ["drawing"] (sp_wr t) := by
  refine okU (k := 1) T.F_written sc_written (fun vs H Q E h => by
    unfold sp_wr at h
    split at h
    · rfl
    · exact h.elim) (fun cdv A outer s H E B hr => ⟨_, (qss_cons (qs_setC (i := 1) sc_written.nd rfl (by first | exact Or.inl rfl | exact Or.inr rfl) (N2 := ["tie"]) (nt := 1) (js := []) (cok (sc := defScope s_written) (by exact rfl) (by repeat (first | exact trivial | refine ⟨rfl, ?_⟩)) rfl (by rfl) (by decide +kernel) (by decide +kernel) (by rfl) (by decide +kernel) (by rfl) (by rfl)) rfl (qi_seq (qe_fld (qv 0) T.cl_Drawing T.nf_Drawing_ties rfl)) (fun s0 H0 fp ps => ⟨(qg_name (i := 0) (show List.Nodup (["tie"] : List Str) by decide +kernel) rfl (by first | exact Or.inl rfl | exact Or.inr rfl)), qif_nil, (qe_call (G_pair_text T) (hr.mono (by decide)) rfl T.g_pair_text T.F_pair_text.kp T.B_pair_text (qa_cons (qv 0) (qa_cons qe_str qa_nil)))⟩))
    (qss_cons (qs_setC (i := 2) sc_written.nd rfl (by first | exact Or.inl rfl | exact Or.inr rfl) (N2 := ["bow"]) (nt := 1) (js := []) (cok (sc := defScope s_written) (by exact rfl) (by repeat (first | exact trivial | refine ⟨rfl, ?_⟩)) rfl (by rfl) (by decide +kernel) (by decide +kernel) (by rfl) (by decide +kernel) (by rfl) (by rfl)) rfl (qi_seq (qe_fld (qv 0) T.cl_Drawing T.nf_Drawing_bows rfl)) (fun s0 H0 fp ps => ⟨(qg_name (i := 0) (show List.Nodup (["bow"] : List Str) by decide +kernel) rfl (by first | exact Or.inl rfl | exact Or.inr rfl)), qif_nil, (qe_call (G_pair_text T) (hr.mono (by decide)) rfl T.g_pair_text T.F_pair_text.kp T.B_pair_text (qa_cons (qv 0) (qa_cons qe_str qa_nil)))⟩))
    (qss_one (qs_ret (qe_bmS PySem.F.plainAttrs_str PySem.F.slot_str_join PySem.F.type_str_join mt_join vm_join qe_str (qa_cons (qe_cat (qe_cat (qe_lst (qa_cons (qe_addS (qe_callTy call_str_int vc_strI rfl T.b_str boot_str (qa_cons (qe_fld (qv 0) T.cl_Drawing T.nf_Drawing_count rfl) qa_nil)) qe_str) qa_nil)) (qv 1)) (qv 2)) qa_nil)))))), ?_⟩)
  intro vs H Q E h
  unfold sp_wr at h
  split at h
  · rename_i x
    obtain ⟨dx, c, ts, bs, hx, hc, t6, b6, t15, b15, h⟩ := h
    refine seq_abs fun R hR => ?_
    walk_at "rd"
    refine ⟨_, _, _, hx, rfl, ?_⟩
    show ∀ acc, H acc = none → _
    intro p1 hp1
    refine comp_pure (fun y => PV.str (sT (ptx 62 (pOf y)))) (fun _ => true) (fun σ => ∃ z, σ = [z]) (by rw [List.length_map]; omega) (fun _ => trivial) ?_ ?_ ⟨_, rfl⟩
    · rintro y hy l σ R ⟨z, rfl⟩ hl kT kF
      obtain ⟨q, hq, rfl⟩ := List.mem_map.mp hy
      have q6 := t6 q hq
      unfold prV at *
      walk_at "rd"
      exact ⟨q6, 62, rfl, hl, by rw [put_put]; exact kT rfl _ ⟨_, rfl⟩⟩
    rw [pt_map]
    subst hR
    have s1 := (Sub.refl H).put (o := .lst ((ts.map fun p => sT (ptx 62 p)).map PV.str)) hp1
    have hp1s : put H p1 (.lst ((ts.map fun p => sT (ptx 62 p)).map PV.str)) p1 = some (.lst ((ts.map fun p => sT (ptx 62 p)).map PV.str)) := put_same
    have hx1 := s1 _ _ hx
    generalize put H p1 (.lst ((ts.map fun p => sT (ptx 62 p)).map PV.str)) = H1 at *
    refine seq_abs fun R hR => ?_
    walk_at "rd"
    refine ⟨_, _, _, hx1, rfl, ?_⟩
    show ∀ acc, H1 acc = none → _
    intro p2 hp2
    refine comp_pure (fun y => PV.str (sT (ptx 126 (pOf y)))) (fun _ => true) (fun σ => ∃ z, σ = [z]) (by rw [List.length_map]; omega) (fun _ => trivial) ?_ ?_ ⟨_, rfl⟩
    · rintro y hy l σ R ⟨z, rfl⟩ hl kT kF
      obtain ⟨q, hq, rfl⟩ := List.mem_map.mp hy
      have q6 := b6 q hq
      unfold prV at *
      walk_at "rd"
      exact ⟨q6, 126, rfl, hl, by rw [put_put]; exact kT rfl _ ⟨_, rfl⟩⟩
    rw [pt_map]
    subst hR
    have s2 := s1.put (o := .lst ((bs.map fun p => sT (ptx 126 p)).map PV.str)) (s1.free hp2)
    have hp1t : put H1 p2 (.lst ((bs.map fun p => sT (ptx 126 p)).map PV.str)) p1 = some (.lst ((ts.map fun p => sT (ptx 62 p)).map PV.str)) := (put_ne (ne_none hp1s hp2)).trans hp1s
    have hp2s : put H1 p2 (.lst ((bs.map fun p => sT (ptx 126 p)).map PV.str)) p2 = some (.lst ((bs.map fun p => sT (ptx 126 p)).map PV.str)) := put_same
    have hx2 := s2 _ _ hx
    generalize put H1 p2 (.lst ((bs.map fun p => sT (ptx 126 p)).map PV.str)) = H2 at *
    walk_at "rd"
    refine ⟨_, _, _, hx2, rfl, ?_⟩
    walk_at "rd"
    rw [str_num hc]
    try walk_at "rd"
    refine ⟨lg6 hc, line_ge (by first | omega | (simp only [List.length_append, List.length_cons, List.length_nil]; omega)), small_size (by decide), fun r hr => ?_⟩
    try walk_at "rd"
    have hp1u := (put_ne (o := .lst [tx [48 + c.toNat, 58]]) (ne_none hp1t hr)).trans hp1t
    have hp2u := (put_ne (o := .lst [tx [48 + c.toNat, 58]]) (ne_none hp2s hr)).trans hp2s
    have s3 := s2.put (o := .lst [tx [48 + c.toNat, 58]]) (s2.free hr)
    have hru : put H2 r (.lst [tx [48 + c.toNat, 58]]) r = some (.lst [tx [48 + c.toNat, 58]]) := put_same
    generalize put H2 r (.lst [tx [48 + c.toNat, 58]]) = H3 at *
    refine ⟨[tx [48 + c.toNat, 58]], _, rfl, hp1u, small_size (by simp only [List.length_append, List.length_map, List.length_cons, List.length_nil]; omega), fun q hq => ?_⟩
    try walk_at "rd"
    have hp2v := (put_ne (o := .lst ([tx [48 + c.toNat, 58]] ++ (ts.map fun p => sT (ptx 62 p)).map PV.str)) (ne_none hp2u hq)).trans hp2u
    have s4 := s3.put (o := .lst ([tx [48 + c.toNat, 58]] ++ (ts.map fun p => sT (ptx 62 p)).map PV.str)) (s3.free hq)
    refine ⟨_, _, rfl, hp2v, small_size (by simp only [List.length_append, List.length_map, List.length_cons, List.length_nil]; omega), fun q2 hq2 => ?_⟩
    try walk_at "rd"
    have ey : [tx [48 + c.toNat, 58]] ++ (ts.map fun p => sT (ptx 62 p)).map PV.str ++ (bs.map fun p => sT (ptx 126 p)).map PV.str = ((wps c ts bs).map sT).map PV.str := by
      rw [wps_map]
      unfold pts
      rw [List.map_cons, List.map_append]
      rfl
    have wl := wps_len (c := c) (ts := ts) (bs := bs)
    refine ⟨(wps c ts bs).map sT, ey, by decide, by omega, H, s4.put (s4.free hq2), ?_⟩
    have ej : Txt.join (sT [32]) ((wps c ts bs).map sT) = sT (wtx c ts bs) := (StrLaws.glued_eq_join _ _).trans wps_join
    rw [ej]
    exact h
  · exact h.elim

theorem G_pairs_with (T : Tx K mg t) : FnOk' P w K mg base CX0 1 t.a_pairs_with t.d_pairs_with ["parts", "sign"] sp_pw := by
  refine okU (k := 0) T.F_pairs_with sc_pairs_with (fun vs H Q E h => by
    unfold sp_pw at h
    split at h
    · rfl
    · exact h.elim) (fun cdv A outer s H E B hr => ⟨_, (qss_one (qs_ret (qe_comp (N2 := ["part", "sign"]) (nt := 1) (js := [1]) (cok (sc := defScope s_pairs_with) (by exact rfl) (by repeat (first | exact trivial | refine ⟨rfl, ?_⟩)) rfl (by rfl) (by decide +kernel) (by decide +kernel) (by rfl) (by decide +kernel) (by rfl) (by rfl)) rfl (qi_seq (qv 0)) (fun s0 H0 fp ps => ⟨(qg_name (i := 0) (show List.Nodup (["part", "sign"] : List Str) by decide +kernel) rfl (by first | exact Or.inl rfl | exact Or.inr rfl)), (qif_one (qt_cmp op_in_str vr_inS (qv 1) (qv 0) (by with_unfolding_all rfl))), (qe_tup (qa_cons (qe_bmS PySem.F.plainAttrs_str PySem.F.slot_str_find PySem.F.type_str_find mt_find vm_find (qe_globE (v' := .str "abcdef") rfl T.c_LETTERS (fun _ => by simp [RP])) (qa_cons (qe_ixS (qv 0) qe_int (fun _ _ => rfl)) qa_nil)) (qa_cons (qe_bmS PySem.F.plainAttrs_str PySem.F.slot_str_find PySem.F.type_str_find mt_find vm_find (qe_globE (v' := .str "abcdef") rfl T.c_LETTERS (fun _ => by simp [RP])) (qa_cons (qe_ixS (qv 0) (qe_neg qe_int) (fun _ _ => rfl)) qa_nil)) qa_nil)))⟩)))), ?_⟩)
  intro vs H Q E h
  unfold sp_pw at h
  split at h
  · rename_i a z
    obtain ⟨ts, bs, c, ha, rfl, hc, t6, b6, t15, b15, h⟩ := h
    walk_at "rd"
    refine ⟨_, ha, fun acc hacc => ?_⟩
    refine comp_pure fP (hasC c) (fun σ => ∃ z, σ = [z, some (.str (sT [c]))]) (by rw [List.length_map]; unfold pts; rw [List.length_append, List.length_map, List.length_map]; omega) (fun l => (put_ne (ne_none ha hacc)).trans ha) ?_ ?_ ⟨_, rfl⟩
    · rintro y hy l σ R ⟨z, rfl⟩ hl kT kF
      obtain ⟨p, d, p6, rfl⟩ : ∃ p d, ((0 ≤ p.1 ∧ p.1 < 6) ∧ (0 ≤ p.2 ∧ p.2 < 6)) ∧ y = .str (sT (ptx d p)) := by
        obtain ⟨z, hz, rfl⟩ := List.mem_map.mp hy
        rcases List.mem_append.mp hz with h | h
        · obtain ⟨p, hp, rfl⟩ := List.mem_map.mp h; exact ⟨p, 62, t6 p hp, rfl⟩
        · obtain ⟨p, hp, rfl⟩ := List.mem_map.mp h; exact ⟨p, 126, b6 p hp, rfl⟩
      walk_at "rd"
      have ein : (!(Builtin.Str.occurrences (sT (ptx d p)) (sT [c]) 0 (ptx d p).length 1).isEmpty) = hasC c (.str (sT (ptx d p))) := by
        have := StrLaws.found_one (sT (ptx d p)) c
        rw [sT_len] at this
        exact this
      rw [ein]
      rw [fP_ptx p6] at kT
      refine cif_by (fun q => ?_) (fun q => kF q _ ⟨_, rfl⟩)
      refine ⟨line_ge (by simp [ptx]), ltr p.1, by rw [sT_cps]; rfl, ?_⟩
      try walk_at "rd"
      rw [abc_find p6.1.1 p6.1.2]
      try walk_at "rd"
      refine ⟨line_ge (by simp [ptx]), ltr p.2, by rw [sT_cps]; rfl, ?_⟩
      try walk_at "rd"
      rw [abc_find p6.2.1 p6.2.2]
      try walk_at "rd"
      exact ⟨small_size (by decide), hl, by rw [put_put]; exact kT q _ ⟨_, rfl⟩⟩
    rw [pw_map hc t6 b6]
    exact ⟨_, Sub.refl _, h acc hacc⟩
  · exact h.elim

theorem G_law_same0 (T : Tx K mg t) : FnOk' P w K mg base CX0 (1) t.a_law_same t.d_law_same ["_law_found", "_law_due"] (sp_same 0) := by
  refine okU (k := 0) T.F_law_same sc_law_same (fun vs H Q E h => by
    unfold sp_same at h
    split at h
    · rfl
    · exact h.elim) (fun cdv A outer s H E B hr => ⟨_, qss_never, ?_⟩)
  intro vs H Q E h
  unfold sp_same at h
  split at h
  · rename_i x y
    obtain ⟨_, hp, _⟩ := h
    cases y <;> exact hp.elim
  · exact h.elim
theorem G_law_sameS (T : Tx K mg t) {n : Nat} (ih : FnOk' P w K mg base CX0 (n + 1) t.a_law_same t.d_law_same ["_law_found", "_law_due"] (sp_same n)) : FnOk' P w K mg base CX0 (n + 2) t.a_law_same t.d_law_same ["_law_found", "_law_due"] (sp_same (n + 1)) := by
  refine okU (k := n + 1) T.F_law_same sc_law_same (fun vs H Q E h => by
    unfold sp_same at h
    split at h
    · rfl
    · exact h.elim) (fun cdv A outer s H E B hr => ⟨_, (qss_cons (qs_if (qt_bool (qw_or (qt_val (qe_callB (call_isiB .tuple) (vc_isi .tuple) rfl T.b_isinstance boot_isinstance (qa_cons (qv 1) (qa_cons (qe_bty rfl T.b_tuple boot_tuple) qa_nil)))) (qw_or1 (qt_val (qe_callB (call_isiB .list) (vc_isi .list) rfl T.b_isinstance boot_isinstance (qa_cons (qv 1) (qa_cons (qe_bty rfl T.b_list boot_list) qa_nil)))))))
    (qss_cons (qs_if (qt_bool (qw_or (qt_cmp (op_neU hr.units) vr_eq (qe_callB (call_isiB .tuple) (vc_isi .tuple) rfl T.b_isinstance boot_isinstance (qa_cons (qv 0) (qa_cons (qe_bty rfl T.b_tuple boot_tuple) qa_nil))) (qe_callB (call_isiB .tuple) (vc_isi .tuple) rfl T.b_isinstance boot_isinstance (qa_cons (qv 1) (qa_cons (qe_bty rfl T.b_tuple boot_tuple) qa_nil))) (nomark _)) (qw_or1 (qt_cmp (op_neU hr.units) vr_eq (qe_callB (call_isiB .list) (vc_isi .list) rfl T.b_isinstance boot_isinstance (qa_cons (qv 0) (qa_cons (qe_bty rfl T.b_list boot_list) qa_nil))) (qe_callB (call_isiB .list) (vc_isi .list) rfl T.b_isinstance boot_isinstance (qa_cons (qv 1) (qa_cons (qe_bty rfl T.b_list boot_list) qa_nil))) (nomark _)))))
      (qss_one (qs_ret qe_bl))
      qss_nil)
      (qss_cons (qs_if (qt_cmp (op_neU hr.units) vr_eq (qe_callB call_len_seq vc_len rfl T.b_len PySem.boot_len (qa_cons (qv 0) qa_nil)) (qe_callB call_len_seq vc_len rfl T.b_len PySem.boot_len (qa_cons (qv 1) qa_nil)) (nomark _))
      (qss_one (qs_ret qe_bl))
      qss_nil)
      (qss_cons (qs_for PassesOwn.never rfl (qi_range1 rfl T.b_range (qa_cons (qe_callB call_len_seq vc_len rfl T.b_len PySem.boot_len (qa_cons (qv 1) qa_nil)) qa_nil)) (qg_name (i := 2) sc_law_same.nd rfl (by first | exact Or.inl rfl | exact Or.inr rfl))
      (qss_one (qs_if (qt_not (qt_val (qe_call ih (hr.mono (by omega)) rfl T.g_law_same T.F_law_same.kp T.B_law_same (qa_cons (qe_ix (qv 0) (qv 2) (fun _ _ => rfl)) (qa_cons (qe_ix (qv 1) (qv 2) (fun _ _ => rfl)) qa_nil)))))
        (qss_one (qs_ret qe_bl))
        qss_nil)))
      (qss_one (qs_ret qe_bl)))))
    qss_nil)
    (qss_cons (qs_if (qt_val (qe_callB (call_isiB .bool) (vc_isi .bool) rfl T.b_isinstance boot_isinstance (qa_cons (qv 1) (qa_cons (qe_bty rfl T.b_bool boot_bool) qa_nil))))
    (qss_one (qs_ret (qe_and (qe_callB (call_isiB .bool) (vc_isi .bool) rfl T.b_isinstance boot_isinstance (qa_cons (qv 0) (qa_cons (qe_bty rfl T.b_bool boot_bool) qa_nil))) (qe_one (qe_cmp (op_eqU hr.units) vr_eq (qv 0) (qv 1) (nomark _))))))
    qss_nil)
    (qss_cons (qs_if (qt_val (qe_callB (call_isiB .int) (vc_isi .int) rfl T.b_isinstance boot_isinstance (qa_cons (qv 1) (qa_cons (qe_bty rfl T.b_int boot_int) qa_nil))))
    (qss_one (qs_ret (qe_and (qe_callB (call_isiB .int) (vc_isi .int) rfl T.b_isinstance boot_isinstance (qa_cons (qv 0) (qa_cons (qe_bty rfl T.b_int boot_int) qa_nil))) (qe_and (qe_not (qe_callB (call_isiB .bool) (vc_isi .bool) rfl T.b_isinstance boot_isinstance (qa_cons (qv 0) (qa_cons (qe_bty rfl T.b_bool boot_bool) qa_nil)))) (qe_one (qe_cmp (op_eqU hr.units) vr_eq (qv 0) (qv 1) (nomark _)))))))
    qss_nil)
    (qss_cons (qs_if (qt_val (qe_callB (call_isiB .str) (vc_isi .str) rfl T.b_isinstance boot_isinstance (qa_cons (qv 1) (qa_cons (qe_bty rfl T.b_str boot_str) qa_nil))))
    (qss_one (qs_ret (qe_and (qe_callB (call_isiB .str) (vc_isi .str) rfl T.b_isinstance boot_isinstance (qa_cons (qv 0) (qa_cons (qe_bty rfl T.b_str boot_str) qa_nil))) (qe_one (qe_cmp (op_eqU hr.units) vr_eq (qv 0) (qv 1) (nomark _))))))
    qss_nil)
    (qss_one (qs_ret (qe_and (qe_cmp op_isN vr_isN (qv 1) qe_non (nomark _)) (qe_one (qe_cmp op_isN vr_isN (qv 0) qe_non (nomark _)))))))))), ?_⟩)
  intro vs H Q E h
  unfold sp_same at h
  split at h
  · rename_i x y
    obtain ⟨rfl, hp, h⟩ := h
    cases x with
    | int i =>
      walk_at "rd"
      exact ⟨H, Sub.refl _, by rw [beq_self_eq_true]; exact h⟩
    | str z =>
      walk_at "rd"
      exact ⟨H, Sub.refl _, by rw [beq_self_eq_true]; exact h⟩
    | tup l =>
      unfold Plain at hp
      obtain ⟨hl, hp⟩ := hp
      walk_at "rd"
      refine cif_neg rfl (cif_neg rfl (cif_neg (by simp) ⟨⟨by omega, by omega⟩, ?_⟩))
      rw [Int.toNat_natCast]
      refine for_rng (fun i σ H2 => ∃ k, σ = [some (.tup l), some (.tup l), k] ∧ H2 = H) ?_ ?_ ⟨none, rfl, rfl⟩
      · rintro σ H2 ⟨k, rfl, rfl⟩
        exact ⟨trivial, H2, Sub.refl _, h⟩
      · rintro G i σ H2 hi ⟨k, rfl, rfl⟩ kk
        refine ⟨trivial, ?_⟩
        walk_at "rd"
        rw [atI_at hi]
        walk_at "rd"
        exact ⟨hp _ (List.getElem_mem hi), kk _ _ ⟨_, rfl, rfl⟩⟩
    | _ => exact hp.elim
  · exact h.elim
theorem G_law_same (T : Tx K mg t) : ∀ n, FnOk' P w K mg base CX0 (n + 1) t.a_law_same t.d_law_same ["_law_found", "_law_due"] (sp_same n)
  | 0 => G_law_same0 T
  | n + 1 => G_law_sameS T (G_law_same T n)

theorem G_read (T : Tx K mg t) : FnOk' P w K mg base CX0 5 t.a_read t.d_read ["text"] (sp_rd t) := by
  refine okU (k := 4) T.F_read sc_read (fun vs H Q E h => by
    unfold sp_rd at h
    split at h
    · rfl
    · exact h.elim) (fun cdv A outer s H E B hr => ⟨_, (qss_cons (qs_set (i := 1) sc_read.nd rfl (by first | exact Or.inl rfl | exact Or.inr rfl) (qe_bmS PySem.F.plainAttrs_str PySem.F.slot_str_find PySem.F.type_str_find mt_find vm_find (qe_globE (v' := .str "0123456") rfl T.c_COUNTS (fun _ => by simp [RP])) (qa_cons (qe_sliceS (qv 0) qo_none (qo_some qe_int)) qa_nil)))
    (qss_cons (qs_set (i := 2) sc_read.nd rfl (by first | exact Or.inl rfl | exact Or.inr rfl) (qe_slice (qe_bmS PySem.F.plainAttrs_str PySem.F.slot_str_split PySem.F.type_str_split mt_split vm_split (qv 0) (qa_cons qe_str qa_nil)) (qo_some qe_int) qo_none))
    (qss_cons (qs_set (i := 3) sc_read.nd rfl (by first | exact Or.inl rfl | exact Or.inr rfl) (qe_call (G_pairs_with T) (hr.mono (by decide)) rfl T.g_pairs_with T.F_pairs_with.kp T.B_pairs_with (qa_cons (qv 2) (qa_cons qe_str qa_nil))))
    (qss_cons (qs_set (i := 4) sc_read.nd rfl (by first | exact Or.inl rfl | exact Or.inr rfl) (qe_call (G_pairs_with T) (hr.mono (by decide)) rfl T.g_pairs_with T.F_pairs_with.kp T.B_pairs_with (qa_cons (qv 2) (qa_cons qe_str qa_nil))))
    (qss_cons (qs_try0 (fun _ _ h => h) (qss_one (qs_set (i := 5) sc_read.nd rfl (by first | exact Or.inl rfl | exact Or.inr rfl) (qe_make T.mk_Drawing (G_Drawing_init T) (hr.mono (by decide)) rfl T.g_Drawing T.B_Drawing_init (qa_cons (qv 1) (qa_cons (qv 3) (qa_cons (qv 4) qa_nil)))))))
    (qss_cons (qs_if (qt_cmp (op_neU hr.units) vr_eq (qe_call (G_written T) (hr.mono (by decide)) rfl T.g_written T.F_written.kp T.B_written (qa_cons (qv 5) qa_nil)) (qv 0) (nomark _))
    qss_never
    qss_nil)
    (qss_one (qs_ret (qv 5))))))))), ?_⟩)
  intro vs H Q E h
  unfold sp_rd at h
  split at h
  · rename_i z
    obtain ⟨c, ts, bs, rfl, ⟨hc, gt, gb, l6, st, sb⟩, h⟩ := h
    have t15 := gt.len hc.2
    have lw := len_wtx (c := c) (ts := ts) (bs := bs)
    refine seq_abs fun R hR => ?_
    walk_at "rd"
    refine ⟨line_ge (by omega), ?_⟩
    have es : Txt.slice (sT (wtx c ts bs)) none (some 1) = sT [48 + c.toNat] := slice_first
    rw [es, num_find hc]
    subst hR
    refine seq_abs fun R hR => ?_
    walk_at "rd"
    refine ⟨rfl, line_ge (by omega), fun r hr => ?_⟩
    rw [split_w, wps_map]
    try walk_at "rd"
    intro p hp
    have ec : cutP (PV.str (sT [48 + c.toNat, 58]) :: (pts ts bs).map PV.str) (some 1) none = (pts ts bs).map PV.str := cut_from _ 1
    rw [ec]
    have s0 := (Sub.refl H).put (o := .lst (PV.str (sT [48 + c.toNat, 58]) :: (pts ts bs).map PV.str)) hr
    have s1 := s0.put (o := .lst ((pts ts bs).map PV.str)) (s0.free hp)
    have hp1 : put (put H r (.lst (PV.str (sT [48 + c.toNat, 58]) :: (pts ts bs).map PV.str))) p (.lst ((pts ts bs).map PV.str)) p = some (.lst ((pts ts bs).map PV.str)) := put_same
    generalize put (put H r (.lst (PV.str (sT [48 + c.toNat, 58]) :: (pts ts bs).map PV.str))) p (.lst ((pts ts bs).map PV.str)) = H1 at *
    subst hR
    have b15 := gb.len hc.2
    refine seq_abs fun R hR => ?_
    walk_at "rd"
    refine ⟨ts, bs, 62, hp1, rfl, .inl rfl, good6 gt hc.2, good6 gb hc.2, t15, b15, fun a ha => ?_⟩
    rw [if_pos rfl]
    have s2 := s1.put (o := .lst (ts.map prV)) (s1.free ha)
    have hp2 := (put_ne (o := .lst (ts.map prV)) (ne_none hp1 ha)).trans hp1
    have ha2 : put H1 a (.lst (ts.map prV)) a = some (.lst (ts.map prV)) := put_same
    generalize put H1 a (.lst (ts.map prV)) = H2 at *
    subst hR
    refine seq_abs fun R hR => ?_
    walk_at "rd"
    refine ⟨ts, bs, 126, hp2, rfl, .inr rfl, good6 gt hc.2, good6 gb hc.2, t15, b15, fun b hb => ?_⟩
    rw [if_neg (by decide)]
    have s3 := s2.put (o := .lst (bs.map prV)) (s2.free hb)
    have ha3 := (put_ne (o := .lst (bs.map prV)) (ne_none ha2 hb)).trans ha2
    have hb3 : put H2 b (.lst (bs.map prV)) b = some (.lst (bs.map prV)) := put_same
    generalize put H2 b (.lst (bs.map prV)) = H3 at *
    subst hR
    refine seq_abs fun R hR => ?_
    walk_at "rd"
    refine fun x dx hx hdx nd => ?_
    have sc := (Sub.refl H3).put (o := .ins t.a_Drawing dx []) hx
    refine ⟨dx, _, _, ts, bs, rfl, sc _ _ ha3, sc _ _ hb3, rows_prV, rows_prV, gt, gb, ⟨hc.1, hc.2, l6⟩, fun T1 B1 pT sT1 pB sB1 => ?_⟩
    have e1 : T1 = ts := DM.perm_eq pT sT1 (List.Perm.refl _) st
    have e2 : B1 = bs := DM.perm_eq pB sB1 (List.Perm.refl _) sb
    subst e1
    subst e2
    try rw [put_put]
    subst hR
    walk_at "rd"
    refine ⟨dx, c, T1, B1, rfl, hc, good6 gt hc.2, good6 gb hc.2, t15, b15, ?_⟩
    try walk_at "rd"
    refine cif_neg (by simp) ?_
    exact ⟨_, sub_put (s3.put (s3.free hx)) put_same, h x dx (s3.free hx)⟩
  · exact h.elim

theorem G_law_written (T : Tx K mg t) : FnOk' P w K mg base CX0 1 t.a_law_written t.d_law_written ["_law_count", "_law_ties", "_law_bows"] sp_lw := by
  refine okU (k := 0) T.F_law_written sc_law_written (fun vs H Q E h => by
    unfold sp_lw at h
    split at h
    · rfl
    · exact h.elim) (fun cdv A outer s H E B hr => ⟨_, (qss_cons (qs_set (i := 3) sc_law_written.nd rfl (by first | exact Or.inl rfl | exact Or.inr rfl) (qe_addS (qe_callTy call_str_int vc_strI rfl T.b_str boot_str (qa_cons (qv 0) qa_nil)) qe_str))
    (qss_cons (qs_for PassesOwn.never rfl (qi_seq (qe_callB call_sortP vc_sortP rfl T.b_sorted boot_sorted (qa_cons (qv 1) qa_nil))) (qg_tup (n := 2) rfl (qgs_cons (qg_name (i := 4) sc_law_written.nd rfl (by first | exact Or.inl rfl | exact Or.inr rfl)) (qgs_cons (qg_name (i := 5) sc_law_written.nd rfl (by first | exact Or.inl rfl | exact Or.inr rfl)) qgs_nil)))
    (qss_one (qs_set (i := 3) sc_law_written.nd rfl (by first | exact Or.inl rfl | exact Or.inr rfl) (qe_addS (qe_addS (qe_addS (qe_addS (qv 3) qe_str) (qe_ixS qe_str (qv 4) (fun _ _ => rfl))) qe_str) (qe_ixS qe_str (qv 5) (fun _ _ => rfl))))))
    (qss_cons (qs_for PassesOwn.never rfl (qi_seq (qe_callB call_sortP vc_sortP rfl T.b_sorted boot_sorted (qa_cons (qv 2) qa_nil))) (qg_tup (n := 2) rfl (qgs_cons (qg_name (i := 4) sc_law_written.nd rfl (by first | exact Or.inl rfl | exact Or.inr rfl)) (qgs_cons (qg_name (i := 5) sc_law_written.nd rfl (by first | exact Or.inl rfl | exact Or.inr rfl)) qgs_nil)))
    (qss_one (qs_set (i := 3) sc_law_written.nd rfl (by first | exact Or.inl rfl | exact Or.inr rfl) (qe_addS (qe_addS (qe_addS (qe_addS (qv 3) qe_str) (qe_ixS qe_str (qv 4) (fun _ _ => rfl))) qe_str) (qe_ixS qe_str (qv 5) (fun _ _ => rfl))))))
    (qss_one (qs_ret (qv 3)))))), ?_⟩)
  intro vs H Q E h
  unfold sp_lw at h
  split at h
  · rename_i c a b
    obtain ⟨ps, qs, ha, hb, hc, gp, gq, h⟩ := h
    have p15 := gp.len hc.2
    have q15 := gq.len hc.2
    refine seq_abs fun R hR => ?_
    walk_at "rd"
    rw [str_num hc]
    try walk_at "rd"
    refine ⟨lg6 hc, line_ge (by first | omega | (simp only [List.length_append, List.length_cons, List.length_nil]; omega)), ?_⟩
    subst hR
    refine seq_abs fun R hR => ?_
    walk_at "rd"
    refine ⟨ps, ha, gp.nd, fun p hp => by have := gp.lo p hp; omega, by omega, fun r ts hr pT sT' => ?_⟩
    try walk_at "rd"
    have s1 := (Sub.refl H).put (o := .lst (ts.map prV)) hr
    have hb1 := (put_ne (o := .lst (ts.map prV)) (ne_none hb hr)).trans hb
    have hr1 : put H r (.lst (ts.map prV)) r = some (.lst (ts.map prV)) := put_same
    generalize put H r (.lst (ts.map prV)) = H1 at *
    have t6 : In6 ts := fun p hp => good6 gp hc.2 p (pT.mem_iff.mp hp)
    have t15 : ts.length ≤ 15 := by rw [pT.length_eq]; exact p15
    refine for_atD (fun i σ H2 => ∃ z4 z5, σ = [some (.int c), some (.ref a), some (.ref b), some (tx ([48 + c.toNat, 58] ++ (ts.take i).flatMap (fun p => 32 :: ptx 62 p))), z4, z5] ∧ H2 = H1) ?_ ?_ ⟨none, none, by simp, rfl⟩
    rotate_left
    · rintro D i y σ H2 hy ⟨z4, z5, rfl, rfl⟩ kk
      refine ⟨hr1, ?_⟩
      rw [List.getElem?_map] at hy
      cases hg : ts[i]? with
      | none => rw [hg] at hy; cases hy
      | some q =>
        rw [hg] at hy
        cases hy
        have q6 := t6 q (List.mem_of_getElem? hg)
        have hi := (List.getElem?_eq_some_iff.mp hg).1
        have ln : ((ts.take i).flatMap (fun p => 32 :: ptx 62 p)).length = 4 * (ts.take i).length := len_pts
        rw [List.length_take] at ln
        try simp only [Option.map_some]
        unfold prV
        walk_at "rd"
        refine ⟨line_ge (by first | omega | (simp only [List.length_append, List.length_cons, List.length_nil]; omega)), line_ge (by decide), _, abc_at q6.1.1 q6.1.2, ?_⟩
        try walk_at "rd"
        refine ⟨line_ge (by first | omega | (simp only [List.length_append, List.length_cons, List.length_nil]; omega)), line_ge (by first | omega | (simp only [List.length_append, List.length_cons, List.length_nil]; omega)), line_ge (by decide), _, abc_at q6.2.1 q6.2.2, ?_⟩
        try walk_at "rd"
        refine ⟨line_ge (by first | omega | (simp only [List.length_append, List.length_cons, List.length_nil]; omega)), kk _ _ ⟨some (.int q.1), some (.int q.2), ?_, rfl⟩⟩
        rw [List.take_add_one, hg, List.flatMap_append]
        simp [ptx]
    rintro σ H2 ⟨z4, z5, rfl, rfl⟩
    refine ⟨hr1, ?_⟩
    rw [List.length_map, List.take_length]
    have ln1 : (ts.flatMap (fun p => 32 :: ptx 62 p)).length = 4 * ts.length := len_pts
    subst hR
    dsimp only
    refine seq_abs fun R hR => ?_
    walk_at "rd"
    refine ⟨qs, hb1, gq.nd, fun p hp => by have := gq.lo p hp; omega, by omega, fun r2 bs hr2 pB sB' => ?_⟩
    try walk_at "rd"
    have s2 := s1.put (o := .lst (bs.map prV)) (s1.free hr2)
    have hr3 : put H2 r2 (.lst (bs.map prV)) r2 = some (.lst (bs.map prV)) := put_same
    generalize put H2 r2 (.lst (bs.map prV)) = H3 at *
    have b6 : In6 bs := fun p hp => good6 gq hc.2 p (pB.mem_iff.mp hp)
    have b15 : bs.length ≤ 15 := by rw [pB.length_eq]; exact q15
    refine for_atD (fun i σ H2 => ∃ z4 z5, σ = [some (.int c), some (.ref a), some (.ref b), some (tx (([48 + c.toNat, 58] ++ ts.flatMap (fun p => 32 :: ptx 62 p)) ++ (bs.take i).flatMap (fun p => 32 :: ptx 126 p))), z4, z5] ∧ H2 = H3) ?_ ?_ ⟨z4, z5, by simp, rfl⟩
    rotate_left
    · rintro D i y σ H2 hy ⟨z4, z5, rfl, rfl⟩ kk
      refine ⟨hr3, ?_⟩
      rw [List.getElem?_map] at hy
      cases hg : bs[i]? with
      | none => rw [hg] at hy; cases hy
      | some q =>
        rw [hg] at hy
        cases hy
        have q6 := b6 q (List.mem_of_getElem? hg)
        have hi := (List.getElem?_eq_some_iff.mp hg).1
        have ln : ((bs.take i).flatMap (fun p => 32 :: ptx 126 p)).length = 4 * (bs.take i).length := len_pts
        rw [List.length_take] at ln
        try simp only [Option.map_some]
        unfold prV
        walk_at "rd"
        refine ⟨line_ge (by first | omega | (simp only [List.length_append, List.length_cons, List.length_nil]; omega)), line_ge (by decide), _, abc_at q6.1.1 q6.1.2, ?_⟩
        try walk_at "rd"
        refine ⟨line_ge (by first | omega | (simp only [List.length_append, List.length_cons, List.length_nil]; omega)), line_ge (by first | omega | (simp only [List.length_append, List.length_cons, List.length_nil]; omega)), line_ge (by decide), _, abc_at q6.2.1 q6.2.2, ?_⟩
        try walk_at "rd"
        refine ⟨line_ge (by first | omega | (simp only [List.length_append, List.length_cons, List.length_nil]; omega)), kk _ _ ⟨some (.int q.1), some (.int q.2), ?_, rfl⟩⟩
        rw [List.take_add_one, hg, List.flatMap_append]
        simp [ptx]
    rintro σ H4 ⟨z4, z5, rfl, rfl⟩
    refine ⟨hr3, ?_⟩
    rw [List.length_map, List.take_length]
    subst hR
    walk_at "rd"
    refine ⟨H, s2, ?_⟩
    have := h ts bs pT sT' pB sB'
    simpa [wtx] using this
  · exact h.elim

theorem G_law (T : Tx K mg t) : FnOk' P w K mg base CX0 6 t.a_law t.d_law ["_law_script"] spL := by
  refine okU (k := 5) T.F_law sc_law (fun vs H Q E h => by
    unfold spL at h
    split at h
    · rfl
    · exact h.elim) (fun cdv A outer s H E B hr => ⟨_, (qss_cons (qs_for PassesOwn.never rfl (qi_range1 rfl T.b_range (qa_cons (qe_callB (call_max2 rfl) vc_max rfl T.b_max boot_max (qa_cons qe_int (qa_cons (qe_callB (call_min2 rfl) vc_min rfl T.b_min boot_min (qa_cons qe_int (qa_cons (qe_callB call_len_seq vc_len rfl T.b_len PySem.boot_len (qa_cons (qv 0) qa_nil)) qa_nil))) qa_nil))) qa_nil)) (qg_name (i := 1) sc_law.nd rfl (by first | exact Or.inl rfl | exact Or.inr rfl))
    (qss_cons (qs_asg (qe_call (G_law_pairs T) (hr.mono (by decide)) rfl T.g_law_pairs T.F_law_pairs.kp T.B_law_pairs (qa_cons (qv 0) (qa_cons (qv 1) qa_nil))) (qg_tup (n := 3) rfl (qgs_cons (qg_name (i := 2) sc_law.nd rfl (by first | exact Or.inl rfl | exact Or.inr rfl)) (qgs_cons (qg_name (i := 3) sc_law.nd rfl (by first | exact Or.inl rfl | exact Or.inr rfl)) (qgs_cons (qg_name (i := 4) sc_law.nd rfl (by first | exact Or.inl rfl | exact Or.inr rfl)) qgs_nil)))))
      (qss_cons (qs_set (i := 5) sc_law.nd rfl (by first | exact Or.inl rfl | exact Or.inr rfl) (qe_call (G_law_written T) (hr.mono (by decide)) rfl T.g_law_written T.F_law_written.kp T.B_law_written (qa_cons (qv 2) (qa_cons (qv 3) (qa_cons (qv 4) qa_nil)))))
      (qss_cons (qs_if (qt_not (qt_val (qe_call (G_law_same T 4) (hr.mono (by decide)) rfl T.g_law_same T.F_law_same.kp T.B_law_same (qa_cons (qe_call (G_written T) (hr.mono (by decide)) rfl T.g_written T.F_written.kp T.B_written (qa_cons (qe_make T.mk_Drawing (G_Drawing_init T) (hr.mono (by decide)) rfl T.g_Drawing T.B_Drawing_init (qa_cons (qv 2) (qa_cons (qe_rev1 (qv 3) (qo_some (qe_neg qe_int))) (qa_cons (qe_callTy call_list_of vc_list rfl T.b_list boot_list (qa_cons (qv 4) qa_nil)) qa_nil)))) qa_nil)) (qa_cons (qv 5) qa_nil)))))
      (qss_one (qs_ret qe_bl))
      qss_nil)
      (qss_cons (qs_set (i := 6) sc_law.nd rfl (by first | exact Or.inl rfl | exact Or.inr rfl) (qe_call (G_read T) (hr.mono (by decide)) rfl T.g_read T.F_read.kp T.B_read (qa_cons (qv 5) qa_nil)))
      (qss_cons (qs_set (i := 7) sc_law.nd rfl (by first | exact Or.inl rfl | exact Or.inr rfl) (qe_tup (qa_cons (qv 2) (qa_cons (qe_callTy call_tuple_of vc_tuple rfl T.b_tuple boot_tuple (qa_cons (qe_callB call_sortP vc_sortP rfl T.b_sorted boot_sorted (qa_cons (qv 3) qa_nil)) qa_nil)) (qa_cons (qe_callTy call_tuple_of vc_tuple rfl T.b_tuple boot_tuple (qa_cons (qe_callB call_sortP vc_sortP rfl T.b_sorted boot_sorted (qa_cons (qv 4) qa_nil)) qa_nil)) qa_nil)))))
      (qss_one (qs_if (qt_bool (qw_or (qt_not (qt_val (qe_own T.own_Drawing T.g_Drawing rfl rfl T.b_isinstance (qv 6)))) (qw_or1 (qt_not (qt_val (qe_call (G_law_same T 4) (hr.mono (by decide)) rfl T.g_law_same T.F_law_same.kp T.B_law_same (qa_cons (qe_tup (qa_cons (qe_fld (qv 6) T.cl_Drawing T.nf_Drawing_count rfl) (qa_cons (qe_fld (qv 6) T.cl_Drawing T.nf_Drawing_ties rfl) (qa_cons (qe_fld (qv 6) T.cl_Drawing T.nf_Drawing_bows rfl) qa_nil)))) (qa_cons (qv 7) qa_nil))))))))
      (qss_one (qs_ret qe_bl))
      qss_nil))))))))
    (qss_one (qs_ret qe_bl))), ?_⟩)
  intro vs H Q E h
  unfold spL at h
  split at h
  · rename_i l
    obtain ⟨ns, rfl, hl, h⟩ := h
    refine seq_abs fun R hR => ?_
    walk_at "rd"
    rw [List.length_map]
    generalize hm : (if ((ns.length : Nat) : Int) < 60 then ((ns.length : Nat) : Int) else 60) = m0
    have m0b : m0 ≤ 60 := by rw [← hm]; split <;> omega
    generalize hm2 : (if m0 > 1 then m0 else 1) = m
    have mb : 1 ≤ m ∧ m ≤ 60 := by rw [← hm2]; split <;> omega
    refine ⟨⟨by omega, by omega⟩, ?_⟩
    refine for_rngD (fun i σ H2 => ∃ z1 z2 z3 z4 z5 z6 z7, σ = [some (.fls (ns.map PV.int)), z1, z2, z3, z4, z5, z6, z7] ∧ U.Sub H H2) ?_ ?_ ⟨none, none, none, none, none, none, none, rfl, Sub.refl _⟩
    · rintro σ H2 ⟨z1, z2, z3, z4, z5, z6, z7, rfl, s2⟩
      refine ⟨trivial, ?_⟩
      subst hR
      walk_at "rd"
      exact ⟨H, s2, h⟩
    · rintro D i σ H2 hi ⟨z1, z2, z3, z4, z5, z6, z7, rfl, s2⟩ kk
      refine ⟨trivial, ?_⟩
      simp only [vName, List.set_cons_zero, List.set_cons_succ]
      refine seq_abs fun R hR => ?_
      walk_at "rd"
      refine ⟨⟨by omega, by omega⟩, ns, rfl, fun c ts bs p q hc gt gb l6 hp hq npq => ?_⟩
      try walk_at "rd"
      subst hR
      have t15 := gt.len hc.2
      have b15 := gb.len hc.2
      have s3 : U.Sub H (put (put H2 p (.lst (ts.map prV))) q (.lst (bs.map prV))) := (s2.put (s2.free hp)).put (s2.free hq)
      have e1 : put (put H2 p (.lst (ts.map prV))) q (.lst (bs.map prV)) p = some (.lst (ts.map prV)) := (put_ne npq).trans put_same
      have e2 : put (put H2 p (.lst (ts.map prV))) q (.lst (bs.map prV)) q = some (.lst (bs.map prV)) := put_same
      generalize put (put H2 p (.lst (ts.map prV))) q (.lst (bs.map prV)) = H3 at *
      refine seq_abs fun R hR => ?_
      walk_at "rd"
      refine ⟨ts, bs, e1, e2, hc, gt, gb, fun T1 B1 pT sT1 pB sB1 => ?_⟩
      subst hR
      have gT : DM.Good c T1 := gt.perm pT
      have gB : DM.Good c B1 := gb.perm pB
      have T15 := gT.len hc.2
      have B15 := gB.len hc.2
      refine seq_abs fun R hR => ?_
      walk_at "rd"
      refine ⟨_, e1, fun p1 hp1 => ⟨_, (put_ne (ne_none e2 hp1)).trans e2, fun p2 hp2 x dx hx hdx nd => ?_⟩⟩
      rw [← List.map_reverse] at *
      have gR : DM.Good c ts.reverse := gt.perm (List.reverse_perm ts)
      have s4 := s3.put (o := .lst (ts.reverse.map prV)) (s3.free hp1)
      have f1 : put H3 p1 (.lst (ts.reverse.map prV)) p1 = some (.lst (ts.reverse.map prV)) := put_same
      have g1 := (put_ne (o := .lst (ts.reverse.map prV)) (ne_none e1 hp1)).trans e1
      have g2 := (put_ne (o := .lst (ts.reverse.map prV)) (ne_none e2 hp1)).trans e2
      generalize put H3 p1 (.lst (ts.reverse.map prV)) = H4 at *
      have s5 := s4.put (o := .lst (bs.map prV)) (s4.free hp2)
      have f1' := (put_ne (o := .lst (bs.map prV)) (ne_none f1 hp2)).trans f1
      have f2 : put H4 p2 (.lst (bs.map prV)) p2 = some (.lst (bs.map prV)) := put_same
      have g1' := (put_ne (o := .lst (bs.map prV)) (ne_none g1 hp2)).trans g1
      have g2' := (put_ne (o := .lst (bs.map prV)) (ne_none g2 hp2)).trans g2
      generalize put H4 p2 (.lst (bs.map prV)) = H5 at *
      have sc := (Sub.refl H5).put (o := .ins t.a_Drawing dx []) hx
      refine ⟨dx, _, _, ts.reverse, bs, rfl, sc _ _ f1', sc _ _ f2, rows_prV, rows_prV, gR, gb, ⟨hc.1, hc.2, l6⟩, fun T2 B2 pT2 sT2 pB2 sB2 => ?_⟩
      have eT : T2 = T1 := DM.perm_eq (pT2.trans (List.reverse_perm ts)) sT2 pT sT1
      have eB : B2 = B1 := DM.perm_eq pB2 sB2 pB sB1
      subst eT
      subst eB
      try rw [put_put]
      have s6 := s5.put (o := .ins t.a_Drawing dx (DF c T2 B2)) (s5.free hx)
      have k1 := (put_ne (o := .ins t.a_Drawing dx (DF c T2 B2)) (ne_none g1' hx)).trans g1'
      have k2 := (put_ne (o := .ins t.a_Drawing dx (DF c T2 B2)) (ne_none g2' hx)).trans g2'
      have k3 : put H5 x (.ins t.a_Drawing dx (DF c T2 B2)) x = some (.ins t.a_Drawing dx (DF c T2 B2)) := put_same
      generalize put H5 x (.ins t.a_Drawing dx (DF c T2 B2)) = H6 at *
      try walk_at "rd"
      refine ⟨dx, c, T2, B2, rfl, hc, good6 gT hc.2, good6 gB hc.2, T15, B15, rfl, trivial, ?_⟩
      try walk_at "rd"
      subst hR
      refine seq_abs fun R hR => ?_
      walk_at "rd"
      refine ⟨c, T2, B2, rfl, ⟨hc, gT, gB, by rw [pB.length_eq]; exact l6, sT1, sB1⟩, fun x2 dx2 hx2 => ?_⟩
      have s7 := s6.put (o := .ins t.a_Drawing dx2 (DF c T2 B2)) (s6.free hx2)
      have m1 := (put_ne (o := .ins t.a_Drawing dx2 (DF c T2 B2)) (ne_none k1 hx2)).trans k1
      have m2 := (put_ne (o := .ins t.a_Drawing dx2 (DF c T2 B2)) (ne_none k2 hx2)).trans k2
      have m3 : put H6 x2 (.ins t.a_Drawing dx2 (DF c T2 B2)) x2 = some (.ins t.a_Drawing dx2 (DF c T2 B2)) := put_same
      generalize put H6 x2 (.ins t.a_Drawing dx2 (DF c T2 B2)) = H7 at *
      subst hR
      refine seq_abs fun R hR => ?_
      walk_at "rd"
      refine ⟨ts, m1, gt.nd, fun p hp => by have := gt.lo p hp; omega, by omega, fun r3 T3 hr3 pT3 sT3 => ?_⟩
      have eT3 : T3 = T2 := DM.perm_eq pT3 sT3 pT sT1
      subst eT3
      have s8 := s7.put (o := .lst (T3.map prV)) (s7.free hr3)
      have n2 := (put_ne (o := .lst (T3.map prV)) (ne_none m2 hr3)).trans m2
      have n3 := (put_ne (o := .lst (T3.map prV)) (ne_none m3 hr3)).trans m3
      try walk_at "rd"
      generalize put H7 r3 (.lst (T3.map prV)) = H8 at *
      refine ⟨bs, n2, gb.nd, fun p hp => by have := gb.lo p hp; omega, by omega, fun r4 B3 hr4 pB3 sB3 => ?_⟩
      have eB3 : B3 = B2 := DM.perm_eq pB3 sB3 pB sB1
      subst eB3
      have s9 := s8.put (o := .lst (B3.map prV)) (s8.free hr4)
      have o3 := (put_ne (o := .lst (B3.map prV)) (ne_none n3 hr4)).trans n3
      try walk_at "rd"
      generalize put H8 r4 (.lst (B3.map prV)) = H9 at *
      refine ⟨small_size (by decide), ?_⟩
      subst hR
      walk_at "rd"
      refine ⟨_, _, o3, ?_⟩
      try walk_at "rd"
      refine ⟨_, _, _, o3, rfl, _, _, _, o3, rfl, _, _, _, o3, rfl, small_size (by decide), ?_⟩
      try walk_at "rd"
      refine ⟨pl_D T15 B15, ?_⟩
      exact kk _ _ ⟨_, _, _, _, _, _, _, rfl, s9⟩
  · exact h.elim

end
theorem txt_mk {K : PySem.W.Frag} {h : Heap} {mg : Str → Option Value} {f_is_pair f_are_pairs f_Drawing_init f_pair_text f_written f_pairs_with f_read f_law_cell_at f_law_mixed f_law_pairs f_law_written f_law_same f_law k_Drawing : Addr} (X : K.In h) (G : h.Ns mainGlobals mg)
    {tk_COUNTS : Tok}
    {tk_LETTERS : Tok}
    {od_is_pair an_is_pair od_are_pairs an_are_pairs od_Drawing_init an_Drawing_init od_pair_text an_pair_text od_written an_written od_pairs_with an_pairs_with od_read an_read od_law_cell_at an_law_cell_at od_law_mixed an_law_mixed od_law_pairs an_law_pairs od_law_written an_law_written od_law_same an_law_same od_law an_law : Option Addr} {sl_is_pair sl_are_pairs sl_Drawing_init sl_pair_text sl_written sl_pairs_with sl_read sl_law_cell_at sl_law_mixed sl_law_pairs sl_law_written sl_law_same sl_law : Array (Option Value)} {oc_is_pair kV_is_pair dc_is_pair pm_is_pair cd_is_pair ct_is_pair oc_are_pairs kV_are_pairs dc_are_pairs pm_are_pairs cd_are_pairs ct_are_pairs oc_Drawing_init kV_Drawing_init dc_Drawing_init pm_Drawing_init cd_Drawing_init ct_Drawing_init oc_pair_text kV_pair_text dc_pair_text pm_pair_text cd_pair_text ct_pair_text oc_written kV_written dc_written pm_written cd_written ct_written oc_pairs_with kV_pairs_with dc_pairs_with pm_pairs_with cd_pairs_with ct_pairs_with oc_read kV_read dc_read pm_read cd_read ct_read oc_law_cell_at kV_law_cell_at dc_law_cell_at pm_law_cell_at cd_law_cell_at ct_law_cell_at oc_law_mixed kV_law_mixed dc_law_mixed pm_law_mixed cd_law_mixed ct_law_mixed oc_law_pairs kV_law_pairs dc_law_pairs pm_law_pairs cd_law_pairs ct_law_pairs oc_law_written kV_law_written dc_law_written pm_law_written cd_law_written ct_law_written oc_law_same kV_law_same dc_law_same pm_law_same cd_law_same ct_law_same oc_law kV_law dc_law pm_law cd_law ct_law : Value}
    {tk_MOST_BOWS tk_MOST_NAMES : Tok}
    (C_Drawing : PySem.W.nsIn K mainGlobals "Drawing" = some (some (.ref k_Drawing)))
    (a_is_pair : PySem.W.nsIn K mainGlobals "is_pair" = some (some (.ref f_is_pair)))
    (l_is_pair : K.lookup f_is_pair = some ⟨oc_is_pair, od_is_pair, .func (PySem.W.fnOf "is_pair" "is_pair" (defArgs s_is_pair) (defBody s_is_pair) (defScope s_is_pair) .none kV_is_pair dc_is_pair pm_is_pair an_is_pair cd_is_pair ct_is_pair), sl_is_pair⟩)
    (c_is_pair : PySem.W.codeIn K cd_is_pair "is_pair" = true)
    (k_is_pair : PySem.W.keepIn K (.ref f_is_pair) = true)
    (a_are_pairs : PySem.W.nsIn K mainGlobals "are_pairs" = some (some (.ref f_are_pairs)))
    (l_are_pairs : K.lookup f_are_pairs = some ⟨oc_are_pairs, od_are_pairs, .func (PySem.W.fnOf "are_pairs" "are_pairs" (defArgs s_are_pairs) (defBody s_are_pairs) (defScope s_are_pairs) .none kV_are_pairs dc_are_pairs pm_are_pairs an_are_pairs cd_are_pairs ct_are_pairs), sl_are_pairs⟩)
    (c_are_pairs : PySem.W.codeIn K cd_are_pairs "are_pairs" = true)
    (k_are_pairs : PySem.W.keepIn K (.ref f_are_pairs) = true)
    (a_Drawing_init : PySem.W.findIn K (.ref k_Drawing) "__init__" = some (some (.ref f_Drawing_init)))
    (i_Drawing_init : PySem.W.isFn K (.ref f_Drawing_init) = true)
    (l_Drawing_init : K.lookup f_Drawing_init = some ⟨oc_Drawing_init, od_Drawing_init, .func (PySem.W.fnOf "__init__" "Drawing.__init__" (defArgs s_Drawing_init) (defBody s_Drawing_init) (defScope s_Drawing_init) .none kV_Drawing_init dc_Drawing_init pm_Drawing_init an_Drawing_init cd_Drawing_init ct_Drawing_init), sl_Drawing_init⟩)
    (c_Drawing_init : PySem.W.codeIn K cd_Drawing_init "Drawing.__init__" = true)
    (k_Drawing_init : PySem.W.keepIn K (.ref f_Drawing_init) = true)
    (a_pair_text : PySem.W.nsIn K mainGlobals "pair_text" = some (some (.ref f_pair_text)))
    (l_pair_text : K.lookup f_pair_text = some ⟨oc_pair_text, od_pair_text, .func (PySem.W.fnOf "pair_text" "pair_text" (defArgs s_pair_text) (defBody s_pair_text) (defScope s_pair_text) .none kV_pair_text dc_pair_text pm_pair_text an_pair_text cd_pair_text ct_pair_text), sl_pair_text⟩)
    (c_pair_text : PySem.W.codeIn K cd_pair_text "pair_text" = true)
    (k_pair_text : PySem.W.keepIn K (.ref f_pair_text) = true)
    (a_written : PySem.W.nsIn K mainGlobals "written" = some (some (.ref f_written)))
    (l_written : K.lookup f_written = some ⟨oc_written, od_written, .func (PySem.W.fnOf "written" "written" (defArgs s_written) (defBody s_written) (defScope s_written) .none kV_written dc_written pm_written an_written cd_written ct_written), sl_written⟩)
    (c_written : PySem.W.codeIn K cd_written "written" = true)
    (k_written : PySem.W.keepIn K (.ref f_written) = true)
    (a_pairs_with : PySem.W.nsIn K mainGlobals "pairs_with" = some (some (.ref f_pairs_with)))
    (l_pairs_with : K.lookup f_pairs_with = some ⟨oc_pairs_with, od_pairs_with, .func (PySem.W.fnOf "pairs_with" "pairs_with" (defArgs s_pairs_with) (defBody s_pairs_with) (defScope s_pairs_with) .none kV_pairs_with dc_pairs_with pm_pairs_with an_pairs_with cd_pairs_with ct_pairs_with), sl_pairs_with⟩)
    (c_pairs_with : PySem.W.codeIn K cd_pairs_with "pairs_with" = true)
    (k_pairs_with : PySem.W.keepIn K (.ref f_pairs_with) = true)
    (a_read : PySem.W.nsIn K mainGlobals "read" = some (some (.ref f_read)))
    (l_read : K.lookup f_read = some ⟨oc_read, od_read, .func (PySem.W.fnOf "read" "read" (defArgs s_read) (defBody s_read) (defScope s_read) .none kV_read dc_read pm_read an_read cd_read ct_read), sl_read⟩)
    (c_read : PySem.W.codeIn K cd_read "read" = true)
    (k_read : PySem.W.keepIn K (.ref f_read) = true)
    (a_law_cell_at : PySem.W.nsIn K mainGlobals "_law_cell_at" = some (some (.ref f_law_cell_at)))
    (l_law_cell_at : K.lookup f_law_cell_at = some ⟨oc_law_cell_at, od_law_cell_at, .func (PySem.W.fnOf "_law_cell_at" "_law_cell_at" (defArgs s_law_cell_at) (defBody s_law_cell_at) (defScope s_law_cell_at) .none kV_law_cell_at dc_law_cell_at pm_law_cell_at an_law_cell_at cd_law_cell_at ct_law_cell_at), sl_law_cell_at⟩)
    (c_law_cell_at : PySem.W.codeIn K cd_law_cell_at "_law_cell_at" = true)
    (k_law_cell_at : PySem.W.keepIn K (.ref f_law_cell_at) = true)
    (a_law_mixed : PySem.W.nsIn K mainGlobals "_law_mixed" = some (some (.ref f_law_mixed)))
    (l_law_mixed : K.lookup f_law_mixed = some ⟨oc_law_mixed, od_law_mixed, .func (PySem.W.fnOf "_law_mixed" "_law_mixed" (defArgs s_law_mixed) (defBody s_law_mixed) (defScope s_law_mixed) .none kV_law_mixed dc_law_mixed pm_law_mixed an_law_mixed cd_law_mixed ct_law_mixed), sl_law_mixed⟩)
    (c_law_mixed : PySem.W.codeIn K cd_law_mixed "_law_mixed" = true)
    (k_law_mixed : PySem.W.keepIn K (.ref f_law_mixed) = true)
    (a_law_pairs : PySem.W.nsIn K mainGlobals "_law_pairs" = some (some (.ref f_law_pairs)))
    (l_law_pairs : K.lookup f_law_pairs = some ⟨oc_law_pairs, od_law_pairs, .func (PySem.W.fnOf "_law_pairs" "_law_pairs" (defArgs s_law_pairs) (defBody s_law_pairs) (defScope s_law_pairs) .none kV_law_pairs dc_law_pairs pm_law_pairs an_law_pairs cd_law_pairs ct_law_pairs), sl_law_pairs⟩)
    (c_law_pairs : PySem.W.codeIn K cd_law_pairs "_law_pairs" = true)
    (k_law_pairs : PySem.W.keepIn K (.ref f_law_pairs) = true)
    (a_law_written : PySem.W.nsIn K mainGlobals "_law_written" = some (some (.ref f_law_written)))
    (l_law_written : K.lookup f_law_written = some ⟨oc_law_written, od_law_written, .func (PySem.W.fnOf "_law_written" "_law_written" (defArgs s_law_written) (defBody s_law_written) (defScope s_law_written) .none kV_law_written dc_law_written pm_law_written an_law_written cd_law_written ct_law_written), sl_law_written⟩)
    (c_law_written : PySem.W.codeIn K cd_law_written "_law_written" = true)
    (k_law_written : PySem.W.keepIn K (.ref f_law_written) = true)
    (a_law_same : PySem.W.nsIn K mainGlobals "_law_same" = some (some (.ref f_law_same)))
    (l_law_same : K.lookup f_law_same = some ⟨oc_law_same, od_law_same, .func (PySem.W.fnOf "_law_same" "_law_same" (defArgs s_law_same) (defBody s_law_same) (defScope s_law_same) .none kV_law_same dc_law_same pm_law_same an_law_same cd_law_same ct_law_same), sl_law_same⟩)
    (c_law_same : PySem.W.codeIn K cd_law_same "_law_same" = true)
    (k_law_same : PySem.W.keepIn K (.ref f_law_same) = true)
    (a_law : PySem.W.nsIn K mainGlobals "law" = some (some (.ref f_law)))
    (l_law : K.lookup f_law = some ⟨oc_law, od_law, .func (PySem.W.fnOf "law" "law" (defArgs s_law) (defBody s_law) (defScope s_law) .none kV_law dc_law pm_law an_law cd_law ct_law), sl_law⟩)
    (c_law : PySem.W.codeIn K cd_law "law" = true)
    (k_law : PySem.W.keepIn K (.ref f_law) = true)
    (pg_Drawing : PySem.W.plainGet K k_Drawing Str.empty = true)
    (hd_Drawing : PySem.W.hasDictIn K k_Drawing = true)
    (po_Drawing : PySem.W.plainOver K k_Drawing = true)
    (sa_Drawing : PySem.W.findIn K (.ref k_Drawing) "__setattr__" = some (some (.builtin "object.__setattr__")))
    (mk_Drawing : PySem.W.makesIn K k_Drawing = true)
    (kc_Drawing : PySem.W.keepIn K (.ref k_Drawing) = true)
    (z_all : PySem.W.nsIn K mainGlobals "all" = some none)
    (z_bool : PySem.W.nsIn K mainGlobals "bool" = some none)
    (z_int : PySem.W.nsIn K mainGlobals "int" = some none)
    (z_isinstance : PySem.W.nsIn K mainGlobals "isinstance" = some none)
    (z_len : PySem.W.nsIn K mainGlobals "len" = some none)
    (z_list : PySem.W.nsIn K mainGlobals "list" = some none)
    (z_max : PySem.W.nsIn K mainGlobals "max" = some none)
    (z_min : PySem.W.nsIn K mainGlobals "min" = some none)
    (z_range : PySem.W.nsIn K mainGlobals "range" = some none)
    (z_set : PySem.W.nsIn K mainGlobals "set" = some none)
    (z_sorted : PySem.W.nsIn K mainGlobals "sorted" = some none)
    (z_str : PySem.W.nsIn K mainGlobals "str" = some none)
    (z_tuple : PySem.W.nsIn K mainGlobals "tuple" = some none)
    (v_MOST_BOWS : PySem.W.nsIn K mainGlobals "MOST_BOWS" = some (some (.int 6 tk_MOST_BOWS)))
    (v_MOST_NAMES : PySem.W.nsIn K mainGlobals "MOST_NAMES" = some (some (.int 6 tk_MOST_NAMES)))
    (n_Drawing_bows : PySem.W.findIn K (.ref k_Drawing) "bows" = some none)
    (n_Drawing_count : PySem.W.findIn K (.ref k_Drawing) "count" = some none)
    (n_Drawing_ties : PySem.W.findIn K (.ref k_Drawing) "ties" = some none)
    (v_COUNTS : PySem.W.nsIn K mainGlobals "COUNTS" = some (some (.str "0123456" tk_COUNTS)))
    (v_LETTERS : PySem.W.nsIn K mainGlobals "LETTERS" = some (some (.str "abcdef" tk_LETTERS)))
    (ow_a : PySem.W.findIn K (.ref k_Drawing) "__class__" = some (some (.builtin "object.__class__")))
    (ow_n : PySem.W.specialIn K (.builtin "object.__class__") "__get__" = some (some (.builtin "getset_descriptor.__get__")))
    (ow_t : PySem.W.takesIn K (.builtin "object.__class__") = some true)
    (ow_m : PySem.W.mroIn K k_Drawing (.type "object") = some true)
    (ow_k : PySem.W.kitOne K (.ref k_Drawing) (.ref k_Drawing) = some true) :
    ∃ t : Ad, Tx K mg t ∧ t.a_law = f_law ∧ ∀ (s : Shared) (v : Value), BindsTo s t.d_law ⟨[v], []⟩ [("_law_script", v)] := by
  have F_is_pair := fun_mk (st := s_is_pair) l_is_pair c_is_pair k_is_pair
  have B_is_pair := F_is_pair.binds (ps := ["count", "pair"]) fun _ _ _ _ _ _ us hl => len2 (P := fun us => bindArgs _ ⟨us, []⟩ = pure (List.zip _ us)) (fun _ _ => rfl) us hl
  have F_are_pairs := fun_mk (st := s_are_pairs) l_are_pairs c_are_pairs k_are_pairs
  have B_are_pairs := F_are_pairs.binds (ps := ["count", "pairs"]) fun _ _ _ _ _ _ us hl => len2 (P := fun us => bindArgs _ ⟨us, []⟩ = pure (List.zip _ us)) (fun _ _ => rfl) us hl
  have F_Drawing_init := fun_mk (st := s_Drawing_init) l_Drawing_init c_Drawing_init k_Drawing_init
  have B_Drawing_init := F_Drawing_init.binds (ps := ["self", "count", "ties", "bows"]) fun _ _ _ _ _ _ us hl => len4 (P := fun us => bindArgs _ ⟨us, []⟩ = pure (List.zip _ us)) (fun _ _ _ _ => rfl) us hl
  have F_pair_text := fun_mk (st := s_pair_text) l_pair_text c_pair_text k_pair_text
  have B_pair_text := F_pair_text.binds (ps := ["pair", "sign"]) fun _ _ _ _ _ _ us hl => len2 (P := fun us => bindArgs _ ⟨us, []⟩ = pure (List.zip _ us)) (fun _ _ => rfl) us hl
  have F_written := fun_mk (st := s_written) l_written c_written k_written
  have B_written := F_written.binds (ps := ["drawing"]) fun _ _ _ _ _ _ us hl => len1 (P := fun us => bindArgs _ ⟨us, []⟩ = pure (List.zip _ us)) (fun _ => rfl) us hl
  have F_pairs_with := fun_mk (st := s_pairs_with) l_pairs_with c_pairs_with k_pairs_with
  have B_pairs_with := F_pairs_with.binds (ps := ["parts", "sign"]) fun _ _ _ _ _ _ us hl => len2 (P := fun us => bindArgs _ ⟨us, []⟩ = pure (List.zip _ us)) (fun _ _ => rfl) us hl
  have F_read := fun_mk (st := s_read) l_read c_read k_read
  have B_read := F_read.binds (ps := ["text"]) fun _ _ _ _ _ _ us hl => len1 (P := fun us => bindArgs _ ⟨us, []⟩ = pure (List.zip _ us)) (fun _ => rfl) us hl
  have F_law_cell_at := fun_mk (st := s_law_cell_at) l_law_cell_at c_law_cell_at k_law_cell_at
  have B_law_cell_at := F_law_cell_at.binds (ps := ["_law_script", "_law_k"]) fun _ _ _ _ _ _ us hl => len2 (P := fun us => bindArgs _ ⟨us, []⟩ = pure (List.zip _ us)) (fun _ _ => rfl) us hl
  have F_law_mixed := fun_mk (st := s_law_mixed) l_law_mixed c_law_mixed k_law_mixed
  have B_law_mixed := F_law_mixed.binds (ps := ["_law_cell", "_law_many"]) fun _ _ _ _ _ _ us hl => len2 (P := fun us => bindArgs _ ⟨us, []⟩ = pure (List.zip _ us)) (fun _ _ => rfl) us hl
  have F_law_pairs := fun_mk (st := s_law_pairs) l_law_pairs c_law_pairs k_law_pairs
  have B_law_pairs := F_law_pairs.binds (ps := ["_law_script", "_law_at"]) fun _ _ _ _ _ _ us hl => len2 (P := fun us => bindArgs _ ⟨us, []⟩ = pure (List.zip _ us)) (fun _ _ => rfl) us hl
  have F_law_written := fun_mk (st := s_law_written) l_law_written c_law_written k_law_written
  have B_law_written := F_law_written.binds (ps := ["_law_count", "_law_ties", "_law_bows"]) fun _ _ _ _ _ _ us hl => len3 (P := fun us => bindArgs _ ⟨us, []⟩ = pure (List.zip _ us)) (fun _ _ _ => rfl) us hl
  have F_law_same := fun_mk (st := s_law_same) l_law_same c_law_same k_law_same
  have B_law_same := F_law_same.binds (ps := ["_law_found", "_law_due"]) fun _ _ _ _ _ _ us hl => len2 (P := fun us => bindArgs _ ⟨us, []⟩ = pure (List.zip _ us)) (fun _ _ => rfl) us hl
  have F_law := fun_mk (st := s_law) l_law c_law k_law
  have B_law := F_law.binds (ps := ["_law_script"]) fun _ _ _ _ _ _ us hl => len1 (P := fun us => bindArgs _ ⟨us, []⟩ = pure (List.zip _ us)) (fun _ => rfl) us hl
  exact ⟨⟨f_is_pair, _, f_are_pairs, _, f_Drawing_init, _, f_pair_text, _, f_written, _, f_pairs_with, _, f_read, _, f_law_cell_at, _, f_law_mixed, _, f_law_pairs, _, f_law_written, _, f_law_same, _, f_law, _, k_Drawing⟩, ⟨F_is_pair,
    B_is_pair,
    PySem.W.mg_of X G a_is_pair,
    F_are_pairs,
    B_are_pairs,
    PySem.W.mg_of X G a_are_pairs,
    F_Drawing_init,
    B_Drawing_init,
    F_pair_text,
    B_pair_text,
    PySem.W.mg_of X G a_pair_text,
    F_written,
    B_written,
    PySem.W.mg_of X G a_written,
    F_pairs_with,
    B_pairs_with,
    PySem.W.mg_of X G a_pairs_with,
    F_read,
    B_read,
    PySem.W.mg_of X G a_read,
    F_law_cell_at,
    B_law_cell_at,
    PySem.W.mg_of X G a_law_cell_at,
    F_law_mixed,
    B_law_mixed,
    PySem.W.mg_of X G a_law_mixed,
    F_law_pairs,
    B_law_pairs,
    PySem.W.mg_of X G a_law_pairs,
    F_law_written,
    B_law_written,
    PySem.W.mg_of X G a_law_written,
    F_law_same,
    B_law_same,
    PySem.W.mg_of X G a_law_same,
    F_law,
    B_law,
    PySem.W.mg_of X G a_law,
    PySem.W.mg_of X G C_Drawing,
    ⟨pg_Drawing, hd_Drawing, po_Drawing, sa_Drawing⟩,
    ⟨mk_Drawing, a_Drawing_init, i_Drawing_init, kc_Drawing⟩,
    PySem.W.mg_none_of X G z_all,
    PySem.W.mg_none_of X G z_bool,
    PySem.W.mg_none_of X G z_int,
    PySem.W.mg_none_of X G z_isinstance,
    PySem.W.mg_none_of X G z_len,
    PySem.W.mg_none_of X G z_list,
    PySem.W.mg_none_of X G z_max,
    PySem.W.mg_none_of X G z_min,
    PySem.W.mg_none_of X G z_range,
    PySem.W.mg_none_of X G z_set,
    PySem.W.mg_none_of X G z_sorted,
    PySem.W.mg_none_of X G z_str,
    PySem.W.mg_none_of X G z_tuple,
    ⟨_, PySem.W.mg_of X G v_MOST_BOWS, ⟨_, rfl⟩⟩,
    ⟨_, PySem.W.mg_of X G v_MOST_NAMES, ⟨_, rfl⟩⟩,
    n_Drawing_bows,
    n_Drawing_count,
    n_Drawing_ties,
    ⟨_, PySem.W.mg_of X G v_COUNTS, ⟨_, rfl⟩⟩,
    ⟨_, PySem.W.mg_of X G v_LETTERS, ⟨_, rfl⟩⟩,
    ⟨⟨pg_Drawing, hd_Drawing, po_Drawing, sa_Drawing⟩, ow_a, ow_n, ow_t, ow_m, ow_k⟩⟩, rfl, fun s v => .of_eq rfl⟩
theorem tx_of {K : PySem.W.Frag} {mg : Str → Option Value} {f : Addr} {x : Str} (h : ∃ t : Ad, Tx K mg t ∧ t.a_law = f ∧ ∀ (s : Shared) (v : Value), BindsTo s t.d_law ⟨[v], []⟩ [(x, v)]) (e : mg "law" = some (.ref f)) :
    ∃ t : Ad, Tx K mg t ∧ mg "law" = some (.ref t.a_law) ∧ ∀ (s : Shared) (v : Value), BindsTo s t.d_law ⟨[v], []⟩ [(x, v)] := by
  obtain ⟨t, T, rfl, b⟩ := h
  exact ⟨t, T, e, b⟩
end Lw
open PySem PySem.W PyProof.Rows
set_option maxRecDepth 100000 in
set_option maxHeartbeats 0 in
theorem PySem.Challenge.cw_doingbook_k81_texts_of_drawings_holds : PySem.Challenge.rw_doingbook_k81_texts_of_drawings.Holds := by
  w_on; o_law; k_head; (case hw => w_witness2)
  k_fill
  refine L2.walk_ofK (l := PySem.Challenge.rw_doingbook_k81_texts_of_drawings) (n := 63) (k := 6) (x := "_law_script") (CX := L2.CX0) (sp := fun K => U.lowSp K U.spL) rfl (by decide) rfl ⟨rfl, by decide, by decide⟩ (fun w h Y => PySem.W.kIn_of Y) ?F (fun K H a ns hl hO hS => U.spL_start hl hO hS) (fun _ _ _ _ z => z)
  case F =>
    intro w mg fa h KX G hmg
    have T : ∃ t : Lw.Ad, Lw.Tx (L2.KOf KX) mg t ∧ mg "law" = some (.ref t.a_law) ∧ ∀ (s : Shared) (v : Value), BindsTo s t.d_law ⟨[v], []⟩ [("_law_script", v)] := by
      dsimp only [L2.KOf]
      refine' Lw.tx_of (Lw.txt_mk KX G ?C_Drawing ?a_is_pair ?l_is_pair ?c_is_pair ?k_is_pair ?a_are_pairs ?l_are_pairs ?c_are_pairs ?k_are_pairs ?a_Drawing_init ?i_Drawing_init ?l_Drawing_init ?c_Drawing_init ?k_Drawing_init ?a_pair_text ?l_pair_text ?c_pair_text ?k_pair_text ?a_written ?l_written ?c_written ?k_written ?a_pairs_with ?l_pairs_with ?c_pairs_with ?k_pairs_with ?a_read ?l_read ?c_read ?k_read ?a_law_cell_at ?l_law_cell_at ?c_law_cell_at ?k_law_cell_at ?a_law_mixed ?l_law_mixed ?c_law_mixed ?k_law_mixed ?a_law_pairs ?l_law_pairs ?c_law_pairs ?k_law_pairs ?a_law_written ?l_law_written ?c_law_written ?k_law_written ?a_law_same ?l_law_same ?c_law_same ?k_law_same ?a_law ?l_law ?c_law ?k_law ?pg_Drawing ?hd_Drawing ?po_Drawing ?sa_Drawing ?mk_Drawing ?kc_Drawing ?z_all ?z_bool ?z_int ?z_isinstance ?z_len ?z_list ?z_max ?z_min ?z_range ?z_set ?z_sorted ?z_str ?z_tuple ?v_MOST_BOWS ?v_MOST_NAMES ?n_Drawing_bows ?n_Drawing_count ?n_Drawing_ties ?v_COUNTS ?v_LETTERS ?ow_a ?ow_n ?ow_t ?ow_m ?ow_k) ?tl
      (case C_Drawing => k_is)
      (case a_is_pair => k_is)
      (case l_is_pair => k_is)
      (case c_is_pair => k_is)
      (case k_is_pair => k_is)
      (case a_are_pairs => k_is)
      (case l_are_pairs => k_is)
      (case c_are_pairs => k_is)
      (case k_are_pairs => k_is)
      (case a_Drawing_init => k_is)
      (case i_Drawing_init => k_is)
      (case l_Drawing_init => k_is)
      (case c_Drawing_init => k_is)
      (case k_Drawing_init => k_is)
      (case a_pair_text => k_is)
      (case l_pair_text => k_is)
      (case c_pair_text => k_is)
      (case k_pair_text => k_is)
      (case a_written => k_is)
      (case l_written => k_is)
      (case c_written => k_is)
      (case k_written => k_is)
      (case a_pairs_with => k_is)
      (case l_pairs_with => k_is)
      (case c_pairs_with => k_is)
      (case k_pairs_with => k_is)
      (case a_read => k_is)
      (case l_read => k_is)
      (case c_read => k_is)
      (case k_read => k_is)
      (case a_law_cell_at => k_is)
      (case l_law_cell_at => k_is)
      (case c_law_cell_at => k_is)
      (case k_law_cell_at => k_is)
      (case a_law_mixed => k_is)
      (case l_law_mixed => k_is)
      (case c_law_mixed => k_is)
      (case k_law_mixed => k_is)
      (case a_law_pairs => k_is)
      (case l_law_pairs => k_is)
      (case c_law_pairs => k_is)
      (case k_law_pairs => k_is)
      (case a_law_written => k_is)
      (case l_law_written => k_is)
      (case c_law_written => k_is)
      (case k_law_written => k_is)
      (case a_law_same => k_is)
      (case l_law_same => k_is)
      (case c_law_same => k_is)
      (case k_law_same => k_is)
      (case a_law => k_is)
      (case l_law => k_is)
      (case c_law => k_is)
      (case k_law => k_is)
      (case pg_Drawing => k_is)
      (case hd_Drawing => k_is)
      (case po_Drawing => k_is)
      (case sa_Drawing => k_is)
      (case mk_Drawing => k_is)
      (case kc_Drawing => k_is)
      (case z_all => k_is)
      (case z_bool => k_is)
      (case z_int => k_is)
      (case z_isinstance => k_is)
      (case z_len => k_is)
      (case z_list => k_is)
      (case z_max => k_is)
      (case z_min => k_is)
      (case z_range => k_is)
      (case z_set => k_is)
      (case z_sorted => k_is)
      (case z_str => k_is)
      (case z_tuple => k_is)
      (case v_MOST_BOWS => k_is)
      (case v_MOST_NAMES => k_is)
      (case n_Drawing_bows => k_is)
      (case n_Drawing_count => k_is)
      (case n_Drawing_ties => k_is)
      (case v_COUNTS => k_is)
      (case v_LETTERS => k_is)
      (case ow_a => k_is)
      (case ow_n => k_is)
      (case ow_t => k_is)
      (case ow_m => k_is)
      (case ow_k => kit_is)
      (case tl => exact PySem.W.mg_of KX G (by k_is))
    obtain ⟨t, T, e, hb⟩ := T
    have e0 := hmg.symm.trans e
    cases e0
    exact ⟨t.d_law, hb, fun base kb nb => Lw.G_law T⟩
