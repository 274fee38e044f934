import PyProof.Rows.All
import Wide.All
import OpenK.AllK
import Wide.FinOn
import Lean
import PyProof.EqAt
import PyProof.EqKinds
import PyProof.TupleCall
import PyProof.NeKinds
import PyProof.StationsW
import PyProof.RulesAs
import PyProof.ExcClass2
import PyProof.IsiH_tuple
import PyProof.NsDelKeeps
import PySem.Challenge.RW_doingbook_k02_sums_and_quotients
set_option Elab.async false
def PySem.W.Fast.tw11243469340601233751 : Unit := ()
def PySem.W.Fast.tw3973363497414097543 : Unit := ()
def PySem.W.Fast.tw6508294683221755591 : Unit := ()
def PySem.W.Fast.tw2906073899879543642 : Unit := ()
def PySem.W.Fast.tw12316710360624756613 : Unit := ()
def PySem.W.Fast.tw844718410126771241 : Unit := ()
def PySem.W.Fast.tw6853879536569313476 : Unit := ()
def PySem.W.Fast.tw7811267395920698747 : Unit := ()
def PySem.W.Fast.tw8749719512324345980 : Unit := ()
def PySem.W.Fast.tw6097878321541131061 : Unit := ()
def PySem.W.Fast.tw9119939080411202199 : Unit := ()
def PySem.W.Fast.tw14849164800635402848 : Unit := ()
def PySem.W.Fast.tw11621785049674275606 : Unit := ()
def PySem.W.Fast.tw12992412080078873867 : Unit := ()
def PySem.W.Fast.tw3430221775062759238 : Unit := ()
def PySem.W.Fast.tw6394093973978910326 : Unit := ()
def PySem.W.Fast.tw8853771821729567737 : Unit := ()
def PySem.W.Fast.tw11759153469568175715 : Unit := ()
def PySem.W.Fast.tw8244323379167199379 : Unit := ()
def PySem.W.Fast.tw14589582446800674145 : Unit := ()
def PySem.W.Fast.tw1997007913136083288 : Unit := ()
def PySem.W.Fast.tw16133585557631283652 : Unit := ()
def PySem.W.Fast.tw17066710626624079267 : Unit := ()
set_option genSizeOf false
-- CHANGE: your row's module here, as the last of these rows
set_option Elab.async false
set_option linter.all false
set_option maxRecDepth 100000
namespace L2
open PySem PySem.Spec PyProof.Rows

abbrev Key := Sum Int Str
def keyIs : Key → Value → Bool
  | .inl k, v => Value.isInt k v
  | .inr x, v => Value.isStrOf x v
def keyH (w : World) : Key → Int
  | .inl k => hashInt k
  | .inr x => hashStr w x
theorem keyIs_shape : ∀ {k : Key} {v : Value}, keyIs k v = true → (∃ i t, k = Sum.inl i ∧ v = Value.int i t) ∨ (∃ x t, k = Sum.inr x ∧ v = Value.str x t)
  | .inl i, v, h => by
    obtain ⟨t, e⟩ := Value.isInt_shape (k := i) (v := v) h
    exact .inl ⟨i, t, rfl, e⟩
  | .inr x, v, h => by
    obtain ⟨t, e⟩ := Value.isStrOf_shape (x := x) (v := v) h
    exact .inr ⟨x, t, rfl, e⟩
theorem key_ll (a b : Int) : decide ((Sum.inl a : Key) = Sum.inl b) = (a == b) := by
  by_cases e : a = b
  · subst e; simp
  · have h : ¬ (Sum.inl a : Key) = Sum.inl b := fun q => e (Sum.inl.inj q)
    rw [decide_eq_false h]
    exact (beq_eq_false_iff_ne.mpr e).symm
theorem key_rr (a b : Str) : decide ((Sum.inr a : Key) = Sum.inr b) = decide (a = b) := by
  by_cases e : a = b
  · subst e; simp
  · have h : ¬ (Sum.inr a : Key) = Sum.inr b := fun q => e (Sum.inr.inj q)
    rw [decide_eq_false h, decide_eq_false e]
theorem key_lr (a : Int) (b : Str) : decide ((Sum.inl a : Key) = Sum.inr b) = false := decide_eq_false (fun q => nomatch q)
theorem key_rl (a : Str) (b : Int) : decide ((Sum.inr a : Key) = Sum.inl b) = false := decide_eq_false (fun q => nomatch q)

def mixKind (prog : Program) (w : World) : PySem.KeyKind prog w Key where
  is := keyIs
  hash := keyH w
  inj := fun v a b ha hb => by
    rcases keyIs_shape ha with ⟨i, t, rfl, rfl⟩ | ⟨x, t, rfl, rfl⟩
    · rcases keyIs_shape hb with ⟨j, u, rfl, e⟩ | ⟨y, u, rfl, e⟩
      · injection e with e1 _; rw [e1]
      · exact nomatch e
    · rcases keyIs_shape hb with ⟨j, u, rfl, e⟩ | ⟨y, u, rfl, e⟩
      · exact nomatch e
      · injection e with e1 _; rw [e1]
  byValue := fun k v h => by
    rcases keyIs_shape h with ⟨i, t, rfl, rfl⟩ | ⟨x, t, rfl, rfl⟩ <;> rfl
  pyHash := fun hv h => by
    rcases keyIs_shape hv with ⟨i, t, rfl, rfl⟩ | ⟨x, t, rfl, rfl⟩
    · exact wpAny_pyHash_int h
    · exact wpAny_pyHash_str h
  eqBool := fun hu hv h => by
    rcases keyIs_shape hu with ⟨i, t, rfl, rfl⟩ | ⟨x, t, rfl, rfl⟩
    · rcases keyIs_shape hv with ⟨j, u, rfl, rfl⟩ | ⟨y, u, rfl, rfl⟩
      · rw [key_ll] at h; exact wpAny_eqBool_int h
      · rw [key_lr] at h; exact SeqAt.EqAt.int_str i t y u _ _ _ _ h
    · rcases keyIs_shape hv with ⟨j, u, rfl, rfl⟩ | ⟨y, u, rfl, rfl⟩
      · rw [key_rl] at h; exact SeqAt.EqAt.str_int x t j u _ _ _ _ h
      · rw [key_rr] at h; exact wpAny_eqBool_str h
  «strs» := fun k x t v h => by
    rcases keyIs_shape h with ⟨i, u, rfl, e⟩ | ⟨y, u, rfl, e⟩
    · exact nomatch e
    · injection e with e1 _
      subst e1
      cases v <;> rfl

end L2

namespace L2
open PySem PySem.Spec PyProof.Rows

inductive V where
  | non | bl (b : Bool) | int (i : Int) | str (x : Str) | byt (b : Array UInt8) | flt (b : UInt64) | ref (a : Addr) | ty (n : String)
  deriving DecidableEq

def RelV : V → Value → Prop
  | .non, u => u = Value.none
  | .bl b, u => u = Value.bool b
  | .int i, u => ∃ t, u = Value.int i t
  | .str x, u => ∃ t, u = Value.str x t
  | .byt b, u => ∃ t, u = Value.bytes b t
  | .flt b, u => ∃ t, u = Value.float b t
  | .ref a, u => u = Value.ref a
  | .ty n, u => u = Value.type n

abbrev Vals : List V → List Value → Prop := Paired RelV
theorem Vals.length {xs : List V} {us : List Value} (r : Vals xs us) : xs.length = us.length := Paired.length r
theorem Vals.get : ∀ {xs : List V} {us : List Value} {i : Nat} {x : V}, Vals xs us → xs[i]? = some x → ∃ u, us[i]? = some u ∧ RelV x u
  | _, _, _, _, .nil, e => by simp at e
  | _, _, 0, _, .cons r _, e => by simp at e; subst e; exact ⟨_, rfl, r⟩
  | _, _, i + 1, x, .cons _ t, e => by
    obtain ⟨u, h1, h2⟩ := Vals.get (i := i) (x := x) t (by simpa using e)
    exact ⟨u, by simpa using h1, h2⟩
theorem Vals.append : ∀ {xs ys : List V} {us ws : List Value}, Vals xs us → Vals ys ws → Vals (xs ++ ys) (us ++ ws)
  | _, _, _, _, .nil, s => s
  | _, _, _, _, .cons r t, s => .cons r (Vals.append t s)
theorem Vals.take : ∀ {xs : List V} {us : List Value} (n : Nat), Vals xs us → Vals (xs.take n) (us.take n)
  | _, _, 0, _ => .nil
  | _, _, _ + 1, .nil => .nil
  | _, _, n + 1, .cons r t => .cons r (Vals.take n t)
theorem Vals.drop : ∀ {xs : List V} {us : List Value} (n : Nat), Vals xs us → Vals (xs.drop n) (us.drop n)
  | _, _, 0, r => r
  | _, _, _ + 1, .nil => .nil
  | _, _, n + 1, .cons _ t => Vals.drop n t
def RelO : Option V → Option Value → Prop
  | some v, some u => RelV v u
  | none, none => True
  | _, _ => False
def KV {κ : Type} : List (κ × V) → List (κ × Value) → Prop := Paired fun (p : κ × V) (q : κ × Value) => p.1 = q.1 ∧ RelV p.2 q.2

def kV : Key → V
  | .inl i => .int i
  | .inr x => .str x

inductive HO where
    | lst (xs : List V)
    | tup (xs : List V)
    | dK (kvs : List (Key × V)) | dT (kvs : List (List Key × V))
    | set (S : Int → Bool) (n : Nat)
    | ins (C dx : Addr) (fs : List (Str × V))
    | own (x : Addr)
    | xd (fs : List (Str × V))
    | met (f x : Addr)
    | rng (lo hi : Int)
    | frz (o : Obj) (u : HO)
    | tbl (ps : Array Value)
    | ext (φ : Heap → Prop)

abbrev Hp := Addr → Option HO
def upd (H : Hp) (a : Addr) (o : HO) : Hp := fun b => if b = a then some o else H b
theorem upd_same {H : Hp} {a : Addr} {o : HO} : upd H a o a = some o := by unfold upd; rw [if_pos rfl]
theorem upd_ne {H : Hp} {a b : Addr} {o : HO} (h : b ≠ a) : upd H a o b = H b := by unfold upd; rw [if_neg h]
theorem ne_of {H : Hp} {a b : Addr} {o u : HO} (h : H a = some o) (h' : H b = some u) (d : o ≠ u) : a ≠ b := by
  intro e; subst e; rw [h] at h'; exact d (Option.some.inj h')
theorem ne_of_none {H : Hp} {a b : Addr} {o : HO} (h : H a = some o) (h' : H b = none) : a ≠ b := by
  intro e; subst e; rw [h] at h'; cases h'

section
variable (P : Program) (w : World)
def ObjOk (H : Hp) (h : Heap) (a : Addr) : HO → Prop
  | .lst xs => xs.length ≤ sizeLine ∧ ∃ (its : List Value) (n : Nat), Vals xs its ∧ h.get? a = some { cls := .type "list", data := .seq its.toArray n }
  | .tup xs => xs.length ≤ sizeLine ∧ ∃ its : List Value, Vals xs its ∧ IsTup h a its.toArray
  | .dK kvs => kvs.length ≤ sizeLine ∧ (a == sysModules) = false ∧ ∃ vs, KV kvs vs ∧ h.DictOf (mixKind P w) a vs
  | .dT kvs => kvs.length ≤ sizeLine ∧ (a == sysModules) = false ∧ ∃ xs : List (List Key × Addr × Value),
      Paired (fun (p : List Key × V) (q : List Key × Addr × Value) => p.1 = q.1 ∧ H q.2.1 = some (.tup (p.1.map kV)) ∧ RelV p.2 q.2.2) kvs xs ∧
      ∃ o es ep, h.get? a = some o ∧ o.ExactDict ∧ o.data = .dict es ep ∧ es.toList = xs.map (entryOfKey (tupleKind (mixKind P w))) ∧ (xs.map (·.1)).Nodup
  | .set S n => h.SetOf (intKind P w) a S n
  | .ins C dx fs => H dx = some (.own a) ∧ fs.length ≤ 1000 ∧ dx ≠ a ∧ h.get? a = some (PySem.W.instObj C dx) ∧
      ∃ mA, h.Ns1 dx mA ∧ (∀ f, RelO (fs.lookup f) (mA f)) ∧ PySem.Within mA (fs.map (·.1))
  | .own _ => ∃ o, h.get? a = some o
  | .xd fs => ∃ mA, h.Ns1 a mA ∧ ∀ f, RelO (fs.lookup f) (mA f)
  | .rng lo hi => ∃ t u v, h.get? a = some { cls := .type "range", data := .fields #[.int lo t, .int hi u, .int 1 v] }
  | .frz o u => h.get? a = some o ∧ ObjOk H h a u
  | .tbl ps => h.get? a = some { cls := .none, data := .fields ps }
  | .met f x => h.get? a = some (PySem.W.methodObj (.ref f) (.ref x))
  | .ext φ => φ h ∧ (∃ o, h.get? a = some o) ∧ ∀ h1 h2 : Heap, φ h1 → (∀ o, h1.get? a = some o → h2.get? a = some o) → φ h2
def HOk (H : Hp) (h : Heap) : Prop := ∀ a o, H a = some o → ObjOk P w H h a o
end

section
variable {P : Program} {w : World} {H H' : Hp} {h h' : Heap} {a : Addr} {o : HO}
theorem ObjOk.lt (x : ObjOk P w H h a o) : a < h.objs.size := by
  cases o with
  | lst xs => obtain ⟨_, _, _, _, e⟩ := x; exact Heap.lt_size e
  | tup xs => obtain ⟨_, _, _, p⟩ := x; exact p.lt
  | dK kvs => obtain ⟨_, _, _, _, o, _, _, e, _⟩ := x; exact Heap.lt_size e
  | dT kvs => obtain ⟨_, _, _, _, o, _, _, e, _⟩ := x; exact Heap.lt_size e
  | set S n => obtain ⟨o, _, _, _, e, _⟩ := x; exact Heap.lt_size e
  | ins C dx fs => obtain ⟨_, _, _, e, _⟩ := x; exact Heap.lt_size e
  | own y => obtain ⟨_, e⟩ := x; exact Heap.lt_size e
  | xd fs => obtain ⟨_, ⟨_, _, _, e, _⟩, _⟩ := x; exact Heap.lt_size e
  | rng lo hi => obtain ⟨_, _, _, e⟩ := x; exact Heap.lt_size e
  | frz ob u => obtain ⟨e, _⟩ := x; exact Heap.lt_size e
  | tbl ps => exact Heap.lt_size (show h.get? a = some _ from x)
  | met f y => exact Heap.lt_size (show h.get? a = some _ from x)
  | ext φ => obtain ⟨_, ⟨_, e⟩, _⟩ := x; exact Heap.lt_size e
theorem Paired.mapP {α β : Type} {F G : α → β → Prop} : ∀ {l₁ : List α} {l₂ : List β}, Paired F l₁ l₂ → (∀ a b, F a b → G a b) → Paired G l₁ l₂
  | _, _, .nil, _ => .nil
  | _, _, .cons r t, f => .cons (f _ _ r) (Paired.mapP t f)
theorem ObjOk.stay (x : ObjOk P w H h a o) (k : ∀ b u, (b = a ∨ H b = some (.own a)) → h.get? b = some u → h'.get? b = some u)
    (ho : ∀ b, H b = some (.own a) → H' b = some (.own a)) (ht : ∀ b xs, H b = some (.tup xs) → H' b = some (.tup xs)) : ObjOk P w H' h' a o := by
  induction o with
  | lst xs => obtain ⟨z, its, n, r, e⟩ := x; exact ⟨z, its, n, r, k _ _ (.inl rfl) e⟩
  | tup xs => obtain ⟨z, its, r, ob, e, c⟩ := x; exact ⟨z, its, r, ob, k _ _ (.inl rfl) e, c⟩
  | dK kvs => obtain ⟨z, y, vs, r, ob, es, ep, e, c⟩ := x; exact ⟨z, y, vs, r, ob, es, ep, k _ _ (.inl rfl) e, c⟩
  | dT kvs =>
    obtain ⟨z, y, xs, r, ob, es, ep, e, c⟩ := x
    exact ⟨z, y, xs, Paired.mapP r fun p q z => ⟨z.1, ht _ _ z.2.1, z.2.2⟩, ob, es, ep, k _ _ (.inl rfl) e, c⟩
  | set S n => obtain ⟨ob, es, ep, t, e, c⟩ := x; exact ⟨ob, es, ep, t, k _ _ (.inl rfl) e, c⟩
  | ins C dx fs =>
    obtain ⟨d, z, ne, e, mA, ⟨od, es, ep, e2, c⟩, r⟩ := x
    exact ⟨ho _ d, z, ne, k _ _ (.inl rfl) e, mA, ⟨od, es, ep, k _ _ (.inr d) e2, c⟩, r⟩
  | own y => obtain ⟨ob, e⟩ := x; exact ⟨ob, k _ _ (.inl rfl) e⟩
  | xd fs => obtain ⟨mA, ⟨od, es, ep, e, c⟩, r⟩ := x; exact ⟨mA, ⟨od, es, ep, k _ _ (.inl rfl) e, c⟩, r⟩
  | rng lo hi => obtain ⟨t, u, v, e⟩ := x; exact ⟨t, u, v, k _ _ (.inl rfl) e⟩
  | frz ob u ih => obtain ⟨e, q⟩ := x; exact ⟨k _ _ (.inl rfl) e, ih q⟩
  | tbl ps =>
    have e : h.get? a = some { cls := .none, data := .fields ps } := x
    show h'.get? a = some { cls := .none, data := .fields ps }
    exact k a _ (.inl rfl) e
  | met f y =>
    have e : h.get? a = some (PySem.W.methodObj (.ref f) (.ref y)) := x
    show h'.get? a = some (PySem.W.methodObj (.ref f) (.ref y))
    exact k a _ (.inl rfl) e
  | ext φ => obtain ⟨p, ⟨o, e⟩, st⟩ := x; exact ⟨st _ _ p fun o q => k _ _ (.inl rfl) q, ⟨o, k _ _ (.inl rfl) e⟩, st⟩
theorem HOk.lt (x : HOk P w H h) (e : H a = some o) : a < h.objs.size := (x a o e).lt
theorem HOk.fresh (x : HOk P w H h) (e : h.objs.size ≤ a) : H a = none := by
  cases q : H a with
  | none => rfl
  | some u => exact absurd (Nat.lt_of_lt_of_le (x.lt q) e) (Nat.lt_irrefl _)
theorem HOk.kept (x : HOk P w H h) (k : ∀ b u, h.get? b = some u → h'.get? b = some u) : HOk P w H h' := fun a o e =>
  (x a o e).stay (fun b u _ q => k b u q) (fun _ q => q) fun _ _ q => q
theorem HOk.laid (x : HOk P w H h) (k : ∀ b u, h.get? b = some u → h'.get? b = some u) (hp : h.objs.size ≤ a) (new : ObjOk P w (upd H a o) h' a o) : HOk P w (upd H a o) h' := fun b u e => by
  have hn := x.fresh hp
  by_cases hb : b = a
  · subst hb; rw [upd_same] at e; cases e; exact new
  · rw [upd_ne hb] at e
    exact (x b u e).stay (fun c v _ q => k c v q) (fun c q => by rw [upd_ne (ne_of_none q hn)]; exact q) fun c xs q => by rw [upd_ne (ne_of_none q hn)]; exact q
end

def Rd (H : Hp) (a : Addr) (u : HO) : Prop := H a = some u ∨ ∃ o, H a = some (.frz o u)
theorem Rd.ok {P : Program} {w : World} {H : Hp} {h : Heap} {a : Addr} {u : HO} (r : Rd H a u) (x : HOk P w H h) : ObjOk P w H h a u := by
  rcases r with r | ⟨o, r⟩
  · exact x a u r
  · obtain ⟨_, q⟩ := x a _ r
    exact q
def Mut : Option HO → Prop
  | some (.lst _) => True
  | some (.dK _) => True
  | some (.dT _) => True
  | some (.set _ _) => True
  | some (.ins _ _ _) => True
  | some (.ext _) => True
  | _ => False
section
variable {P : Program} {w : World} {H : Hp} {h h' : Heap} {x e : Addr} {o' : HO}
theorem HOk.write (ok : HOk P w H h) (mu : Mut (H x)) (he : e = x ∨ H e = some (.own x)) (k : ∀ b u, b ≠ e → h.get? b = some u → h'.get? b = some u) (heo : ∃ u, h'.get? e = some u)
    (new : ObjOk P w (upd H x o') h' x o') : HOk P w (upd H x o') h' := fun b u q => by
  have nown : ∀ c y, H c = some (.own y) → c ≠ x := fun c y r z => by subst z; rw [r] at mu; exact mu
  have ntup : ∀ c xs, H c = some (.tup xs) → c ≠ x := fun c xs r z => by subst z; rw [r] at mu; exact mu
  by_cases hb : b = x
  · subst hb; rw [upd_same] at q; cases q; exact new
  · rw [upd_ne hb] at q
    by_cases hbe : b = e
    · have q' : H b = some (.own x) := by
        rcases he with z | z
        · exact absurd (hbe.trans z) hb
        · rw [hbe]; exact z
      rw [q] at q'; cases q'
      obtain ⟨v, hv⟩ := heo
      exact ⟨v, by rw [hbe]; exact hv⟩
    · refine (ok b u q).stay (fun c v hc r => k c v ?_ r) (fun c r => by rw [upd_ne (nown c b r)]; exact r) fun c xs r => by rw [upd_ne (ntup c xs r)]; exact r
      rcases hc with rfl | hc
      · exact hbe
      · rintro rfl
        rcases he with z | z
        · exact nown c b hc z
        · rw [hc] at z; cases z; exact hb rfl
end

structure Un (fs ex : List Addr) (H H' : Hp) (h h' : Heap) : Prop where
  keep : ∀ b o, h.get? b = some o → H b = none → b ∉ fs → b ∉ ex → h'.get? b = some o
  slot : ∀ b o, h.get? b = some o → H b = none → b ∈ fs → b ∉ ex → ∃ sl, h'.get? b = some { o with slots := sl }
  free : ∀ b o, h.get? b = some o → H b = none → b ∉ ex → H' b = none
  there : ∀ b o, h.get? b = some o → b ∉ ex → ∃ o', h'.get? b = some o'
  tups : ∀ b xs, H b = some (.tup xs) → H' b = some (.tup xs)
  frzs : ∀ b o u, H b = some (.frz o u) → H' b = some (.frz o u)
  tbls : ∀ b ps, H b = some (.tbl ps) → ∃ more, H' b = some (.tbl (ps ++ more))
section
variable {fs fs' ex ex' : List Addr} {H H1 H2 : Hp} {h h1 h2 h' : Heap} {a x e : Addr} {o : HO}
theorem Un.any (u : Un fs ex H H1 h h1) {b : Addr} {ob : Obj} (q : h.get? b = some ob) (n : H b = none) (hx : b ∉ ex) : ∃ sl, h1.get? b = some { ob with slots := sl } := by
  by_cases hb : b ∈ fs
  · exact u.slot b ob q n hb hx
  · exact ⟨ob.slots, u.keep b ob q n hb hx⟩
theorem Un.kept (k : ∀ b u, h.get? b = some u → h'.get? b = some u) : Un fs ex H H h h' :=
  ⟨fun b ob q _ _ _ => k b ob q, fun b ob q _ _ _ => ⟨ob.slots, k b ob q⟩, fun _ _ _ n _ => n, fun b ob q _ => ⟨ob, k b ob q⟩, fun _ _ q => q, fun _ _ _ q => q, fun _ ps q => ⟨#[], by rw [q]; simp⟩⟩
theorem Un.refl : Un fs ex H H h h := Un.kept fun _ _ q => q
theorem Un.laid (k : ∀ b u, h.get? b = some u → h'.get? b = some u) (hp : h.objs.size ≤ a) (hn : H a = none) : Un fs ex H (upd H a o) h h' where
  keep := fun b u q _ _ _ => k b u q
  slot := fun b u q _ _ _ => ⟨u.slots, k b u q⟩
  free := fun b u q n _ => by rw [upd_ne (Nat.ne_of_lt (Nat.lt_of_lt_of_le (Heap.lt_size q) hp))]; exact n
  there := fun b u q _ => ⟨u, k b u q⟩
  tups := fun b xs q => by rw [upd_ne (ne_of_none q hn)]; exact q
  frzs := fun b u xs q => by rw [upd_ne (ne_of_none q hn)]; exact q
  tbls := fun b ps q => ⟨#[], by rw [upd_ne (ne_of_none q hn), q]; simp⟩
theorem Un.write (mu : Mut (H x)) (he : e = x ∨ H e = some (.own x)) (k : ∀ b u, b ≠ e → h.get? b = some u → h'.get? b = some u) (heo : ∃ u, h'.get? e = some u) : Un fs ex H (upd H x o) h h' := by
  have hx : ∀ b, H b = none → b ≠ x := fun b n z => by subst z; rw [n] at mu; exact mu
  have hb : ∀ b, H b = none → b ≠ e := fun b n z => by
    subst z
    rcases he with r | r
    · exact hx b n r
    · rw [n] at r; cases r
  have hm : ∀ b u, H b = some u → ¬ Mut (some u) → b ≠ x := fun b u q nm z => by subst z; rw [q] at mu; exact nm mu
  refine ⟨fun b u q n _ _ => k b u (hb b n) q, fun b u q n _ _ => ⟨u.slots, k b u (hb b n) q⟩, fun b u q n _ => by rw [upd_ne (hx b n)]; exact n, fun b u q _ => ?_,
    fun b xs q => by rw [upd_ne (hm b _ q fun z => z)]; exact q, fun b u xs q => by rw [upd_ne (hm b _ q fun z => z)]; exact q, fun b ps q => ⟨#[], by rw [upd_ne (hm b _ q fun z => z), q]; simp⟩⟩
  by_cases hbe : b = e
  · subst hbe; exact heo
  · exact ⟨u, k b u hbe q⟩
end

def trk (h : Heap) (H : Hp) : List Addr := (List.range h.objs.size).filter fun a => (H a).isSome
def hidT (h : Heap) (H : Hp) : Heap := PySem.W.hideAll h (trk h H)
theorem hidT_size (h : Heap) (H : Hp) : (hidT h H).objs.size = h.objs.size := PySem.W.hideAll_size _ _
theorem hidT_get {h : Heap} {H : Hp} {b : Addr} {o : Obj} (e : h.get? b = some o) (n : H b = none) : (hidT h H).get? b = some o :=
  PySem.W.hideAll_get _ e fun hm => by
    have q : (H b).isSome = true := (List.mem_filter.mp hm).2
    rw [n] at q; simp at q
theorem of_hidT {h : Heap} {H : Hp} {b : Addr} {o : Obj} (e : (hidT h H).get? b = some o) : h.get? b = some o ∧ H b = none := by
  have e' : h.get? b = some o := PySem.W.of_hideAll (trk h H) e
  refine ⟨e', ?_⟩
  cases q : H b with
  | none => rfl
  | some x =>
    have hm : b ∈ trk h H := List.mem_filter.mpr ⟨List.mem_range.mpr (Heap.lt_size e'), by simp [q]⟩
    have z : (hidT h H).get? b = none := PySem.W.hideAll_none (trk h H) hm
    rw [z] at e; cases e

def allNews (g h : Heap) (L : Addr) : List (Addr × Obj) := (List.range h.objs.size).filterMap fun a => if a = L ∨ (g.get? a).isSome = true then none else (h.get? a).map fun o => (a, o)
def rest (g h : Heap) (L d : Addr) : List (Addr × Obj) := (allNews g h L).filter fun p => decide (p.1 ≠ d)
end L2

namespace L2
open PySem PySem.Spec PyProof.Rows

structure Mod (K : PySem.W.Frag) (mg : Str → Option Value) (base : Heap) : Prop where
  kin : K.In base
  glob : base.Ns mainGlobals mg
  blt : ∃ mb, base.Ns builtinsNs mb ∧ ∀ x : Str, x ≠ "__name__" → mb x = bootBuiltins x
  nolimit : base.NoLimit

structure Cx where
  prog : Program
  w : World
  K : PySem.W.Frag
  mg : Str → Option Value
  base : Heap
  A : Around
  N : List Str
  s₀ : Shared
  H₀ : Hp
  env : Env
  outer : List Env
  stack : List Env
  ex : List Addr
  fn : Str → Bool
  calm : Bool
  pn : List (Addr × Obj)
  xe : Value → Shared → Prop
def frs (l : List Env) : List Addr := l.filterMap (·.frame)
abbrev Cx.fs (X : Cx) : List Addr := frs X.outer

def Vis (sc : Scope) (x : Str) : Prop := sc.names.lookup x = some .local ∨ sc.names.lookup x = some .cell ∨ sc.names.lookup x = some .free
def Loc (sc : Scope) (x : Str) : Prop := sc.names.lookup x = some .local ∨ sc.names.lookup x = some .cell
def Look (env : Env) (h : Heap) (m : Str → Option Value) (x : Str) (u : Value) : Prop :=
  (env.kindOf x = some .local ∧ m x = some u) ∨ ((env.kindOf x = some .cell ∨ env.kindOf x = some .free) ∧ ∃ c, env.cells.lookup x = some c ∧ h.IsCell c (some u))

structure Cx.Ok (X : Cx) : Prop where
  mod : Mod X.K X.mg X.base
  kind : X.env.scope.kind = .function
  glob : X.env.globals = mainGlobals
  blt : X.env.builtins = builtinsNs
  above : X.s₀.heap.objs.size ≤ X.env.locals
  inj : ∀ x y c, X.env.cells.lookup x = some c → X.env.cells.lookup y = some c → x = y
  has : ∀ x, (X.env.kindOf x = some .cell ∨ X.env.kindOf x = some .free) → ∃ c, X.env.cells.lookup x = some c
  cab : ∀ x c, X.fn x = true → X.env.cells.lookup x = some c → X.s₀.heap.objs.size ≤ c
  hd : X.calm = true → X.A.handled = none
  frames : X.A.frames = some X.stack
  stk : X.stack = X.outer ∨ (X.stack = X.env :: X.outer ∧ X.env.frame = some X.env.locals)
  exf : ∀ b ∈ X.ex, b ≠ X.env.locals ∧ ∀ x c, X.env.cells.lookup x = some c → c ≠ b
  bs : ∀ b o, X.base.get? b = some o → X.s₀.heap.get? b = some o ∧ X.H₀ b = none
  bsz : X.base.objs.size ≤ X.s₀.heap.objs.size
  noex : ∀ b o, X.base.get? b = some o → b ∉ X.ex
  exfs : ∀ b ∈ X.ex, b ∉ X.fs
  funs : X.s₀.heap.FunFrames X.base X.outer
  frf : ∀ b ∈ X.fs, X.H₀ b = none

structure Inv (X : Cx) (pins : List (Addr × Obj)) (σ : List (Option V)) (H : Hp) (s : Shared) : Prop where
  ok : X.Ok
  os : s.os = X.s₀.os
  bare : AllBare s.gens
  base : Un X.fs X.ex X.H₀ H X.s₀.heap s.heap
  loc : ∃ m, s.heap.Ns X.env.locals m ∧ ∀ (i : Nat) (x : Str) (v : V), X.N[i]? = some x → σ[i]? = some (some v) → Vis X.env.scope x → ∃ u, RelV v u ∧ Look X.env s.heap m x u
  cell : ∀ x c, X.env.cells.lookup x = some c → ∃ v, s.heap.IsCell c v
  free : H X.env.locals = none
  freeC : ∀ x c, X.env.cells.lookup x = some c → H c = none
  pin : ∀ p ∈ X.pn ++ pins, s.heap.get? p.1 = some p.2 ∧ H p.1 = none ∧ p.1 ≠ X.env.locals ∧ p.1 ∉ X.fs ∧ ∀ v, p.2.data ≠ .cell v
  hok : HOk X.prog X.w H s.heap
  len : σ.length = X.N.length

section
variable {X : Cx} {pins : List (Addr × Obj)} {σ : List (Option V)} {H H' : Hp} {s : Shared} {h' : Heap}

theorem Cx.Ok.nofr (ok : X.Ok) {b : Addr} {o : Obj} (e : X.base.get? b = some o) : b ∉ X.fs := fun hb => by
  have := (ok.funs.mem hb).1
  rw [e] at this; cases this
theorem Inv.bs (I : Inv X pins σ H s) : ∀ b o, X.base.get? b = some o → s.heap.get? b = some o ∧ H b = none := fun b o e =>
  ⟨I.base.keep b o (I.ok.bs b o e).1 (I.ok.bs b o e).2 (I.ok.nofr e) (I.ok.noex b o e), I.base.free b o (I.ok.bs b o e).1 (I.ok.bs b o e).2 (I.ok.noex b o e)⟩
theorem Inv.bk (I : Inv X pins σ H s) : ∀ b o, X.base.get? b = some o → s.heap.get? b = some o := fun b o e => (I.bs b o e).1
theorem Inv.mod (I : Inv X pins σ H s) : Mod X.K X.mg X.base := I.ok.mod
theorem Inv.kIn (I : Inv X pins σ H s) : X.K.In s.heap := I.ok.mod.kin.keeps I.bk
theorem Inv.lt (I : Inv X pins σ H s) : X.env.locals < s.heap.objs.size := let ⟨_, hn, _⟩ := I.loc; hn.lt
theorem Inv.sz (I : Inv X pins σ H s) : X.s₀.heap.objs.size ≤ s.heap.objs.size := Nat.le_trans I.ok.above (Nat.le_of_lt I.lt)
theorem Inv.nofs (I : Inv X pins σ H s) {a : Addr} (h : s.heap.objs.size ≤ a) : a ∉ X.fs := fun hb => by
  obtain ⟨_, o, ho, _⟩ := I.ok.funs.mem hb
  exact absurd (Nat.lt_of_lt_of_le (Heap.lt_size ho) (Nat.le_trans I.sz h)) (Nat.lt_irrefl _)
theorem Inv.cne (I : Inv X pins σ H s) : ∀ x c, X.env.cells.lookup x = some c → c ≠ X.env.locals := fun x c e z => by
  obtain ⟨v, o, ho, hd⟩ := I.cell x c e
  obtain ⟨m, ⟨o', es, ep, ho', hd', _⟩, _⟩ := I.loc
  rw [z, ho'] at ho; cases ho; rw [hd'] at hd; cases hd
theorem Inv.funs (I : Inv X pins σ H s) : s.heap.FunFrames X.base X.outer := by
  have all : ∀ (l : List Env), (∀ b ∈ frs l, b ∈ X.fs) → X.s₀.heap.FunFrames X.base l → s.heap.FunFrames X.base l := by
    intro l
    induction l with
    | nil => intro _ _; trivial
    | cons env r ih =>
      intro hs hl
      obtain ⟨hk, ⟨L, o, hf, hn, ho, hd⟩, hr⟩ := hl
      have hL : L ∈ X.fs := hs L (by unfold frs; rw [List.filterMap_cons, hf]; exact List.mem_cons_self)
      obtain ⟨sl, e⟩ := I.base.slot L o ho (I.ok.frf L hL) hL fun z => I.ok.exfs L z hL
      exact ⟨hk, ⟨L, _, hf, hn, e, hd⟩, ih (fun b hb => hs b (by unfold frs; rw [List.filterMap_cons, hf]; exact List.mem_cons_of_mem _ hb)) hr⟩
  exact all X.outer (fun _ hb => hb) I.ok.funs

theorem Inv.stack (I : Inv X pins σ H s) : s.heap.FunFrames X.base X.stack := by
  rcases I.ok.stk with e | ⟨e, hf⟩
  · rw [e]; exact I.funs
  · rw [e]
    obtain ⟨m, hn, _⟩ := I.loc
    refine .cons (by rw [I.ok.kind]; decide) hf hn ?_ I.funs
    exact Heap.get?_none_of_le (Nat.le_trans I.ok.bsz I.ok.above)
theorem Inv.stkSub (I : Inv X pins σ H s) : ∀ b ∈ frs X.stack, b ∈ X.env.locals :: X.fs := fun b hb => by
  rcases I.ok.stk with e | ⟨e, hf⟩
  · rw [e] at hb; exact List.mem_cons_of_mem _ hb
  · rw [e] at hb
    unfold frs at hb
    rw [List.filterMap_cons, hf] at hb
    exact hb
theorem Inv.stkFree (I : Inv X pins σ H s) : ∀ b ∈ frs X.stack, H b = none := fun b hb => by
  rcases List.mem_cons.mp (I.stkSub b hb) with e | hb
  · rw [e]; exact I.free
  · obtain ⟨_, o, ho, _⟩ := I.ok.funs.mem hb
    exact I.base.free b o ho (I.ok.frf b hb) fun z => I.ok.exfs b z hb

theorem Inv.step {g' : Array GenState} {t' : Nat} {d' : Drawn} {ch : List Addr} (I : Inv X pins σ H s)
    (hch : ∀ b ∈ ch, (b ∈ X.ex ∨ X.s₀.heap.objs.size ≤ b) ∧ b ≠ X.env.locals ∧ (∀ x c, X.env.cells.lookup x = some c → c ≠ b) ∧ ∀ p ∈ X.pn ++ pins, p.1 ≠ b)
    (keep : ∀ b o, b ≠ X.env.locals → b ∉ X.fs → b ∉ ch → s.heap.get? b = some o → H b = none → h'.get? b = some o)
    (slot : ∀ b o, b ≠ X.env.locals → b ∈ X.fs → b ∉ ch → s.heap.get? b = some o → H b = none → ∃ sl, h'.get? b = some { o with slots := sl }) (free : ∀ b o, b ∉ ch → s.heap.get? b = some o → H b = none → H' b = none)
    (there : ∀ b o, b ∉ ch → s.heap.get? b = some o → ∃ o', h'.get? b = some o')
    (tups : ∀ b xs, H b = some (.tup xs) → H' b = some (.tup xs)) (frzs : ∀ b o u, H b = some (.frz o u) → H' b = some (.frz o u)) (tbls : ∀ b ps, H b = some (.tbl ps) → ∃ more, H' b = some (.tbl (ps ++ more)))
    (ns : ∀ m, s.heap.Ns X.env.locals m → h'.Ns X.env.locals m) (hok : HOk X.prog X.w H' h') (hg : AllBare g') :
    Inv X pins σ H' { s with heap := h', gens := g', drawn := d', toks := t' } := by
  have neL : ∀ b o, X.s₀.heap.get? b = some o → b ≠ X.env.locals := fun b o e => Nat.ne_of_lt (Nat.lt_of_lt_of_le (Heap.lt_size e) I.ok.above)
  have neC : ∀ b o, X.s₀.heap.get? b = some o → b ∉ X.ex → b ∉ ch := fun b o e hx hb => by
    rcases (hch b hb).1 with z | z
    · exact hx z
    · exact absurd (Nat.lt_of_lt_of_le (Heap.lt_size e) z) (Nat.lt_irrefl _)
  have cellK : ∀ x c, X.env.cells.lookup x = some c → ∀ v, s.heap.IsCell c v → h'.IsCell c v := fun x c e v ⟨o, ho, hd⟩ => by
    have nch : c ∉ ch := fun z => (hch c z).2.2.1 x c e rfl
    by_cases hc : c ∈ X.fs
    · obtain ⟨sl, q⟩ := slot c o (I.cne x c e) hc nch ho (I.freeC x c e)
      exact ⟨_, q, hd⟩
    · exact ⟨o, keep c o (I.cne x c e) hc nch ho (I.freeC x c e), hd⟩
  refine ⟨I.ok, I.os, hg, ⟨fun b o e n hb hx => ?_, fun b o e n hb hx => ?_, fun b o e n hx => ?_, fun b o e hx => ?_, fun b xs e => tups b xs (I.base.tups b xs e), fun b o xs e => frzs b o xs (I.base.frzs b o xs e), fun b ps e => ?_⟩, ?_, fun x c e => ?_, ?_, fun x c e => ?_, fun p hp => ?_, hok, I.len⟩
  · exact keep b o (neL b o e) hb (neC b o e hx) (I.base.keep b o e n hb hx) (I.base.free b o e n hx)
  · obtain ⟨sl, e1⟩ := I.base.slot b o e n hb hx
    obtain ⟨sl', e2⟩ := slot b _ (neL b o e) hb (neC b o e hx) e1 (I.base.free b o e n hx)
    exact ⟨sl', e2⟩
  · obtain ⟨o', e1⟩ := I.base.there b o e hx
    exact free b o' (neC b o e hx) e1 (I.base.free b o e n hx)
  · obtain ⟨o', e1⟩ := I.base.there b o e hx
    exact there b o' (neC b o e hx) e1
  · obtain ⟨m1, e1⟩ := I.base.tbls b ps e
    obtain ⟨m2, e2⟩ := tbls b _ e1
    exact ⟨m1 ++ m2, by rw [e2, Array.append_assoc]⟩
  · obtain ⟨m, hn, hl⟩ := I.loc
    refine ⟨m, ns m hn, fun i x v e1 e2 e3 => ?_⟩
    obtain ⟨u, r, l⟩ := hl i x v e1 e2 e3
    refine ⟨u, r, ?_⟩
    rcases l with l | ⟨k, c, e, z⟩
    · exact .inl l
    · exact .inr ⟨k, c, e, cellK x c e _ z⟩
  · obtain ⟨v, z⟩ := I.cell x c e
    exact ⟨v, cellK x c e v z⟩
  · obtain ⟨m, ⟨o, _, _, ho, _⟩, _⟩ := I.loc
    exact free _ o (fun z => (hch _ z).2.1 rfl) ho I.free
  · obtain ⟨v, o, ho, hd⟩ := I.cell x c e
    exact free c o (fun z => (hch c z).2.2.1 x c e rfl) ho (I.freeC x c e)
  · obtain ⟨e, n, ne, nf, d⟩ := I.pin p hp
    have nch : p.1 ∉ ch := fun z => (hch p.1 z).2.2.2 p hp rfl
    exact ⟨keep p.1 p.2 ne nf nch e n, free p.1 p.2 nch e n, ne, nf, d⟩
theorem Inv.un {t' : Nat} (I : Inv X pins σ H s) (u : Un X.fs [] H H' s.heap h') (hok : HOk X.prog X.w H' h') : Inv X pins σ H' { s with heap := h', toks := t' } := by
  obtain ⟨m, ⟨o, es, ep, ho, r⟩, _⟩ := id I.loc
  obtain ⟨sl, hL⟩ := u.any ho I.free (by simp)
  exact I.step (g' := s.gens) (d' := s.drawn) (ch := []) (fun _ z => nomatch z) (fun b o _ hb _ e n => u.keep b o e n hb (by simp)) (fun b o _ hb _ e n => u.slot b o e n hb (by simp)) (fun b o _ e n => u.free b o e n (by simp)) (fun b o _ e => u.there b o e (by simp)) u.tups u.frzs u.tbls (fun m' hm => by
    obtain ⟨o', es', ep', ho', r'⟩ := hm
    rw [ho] at ho'; cases ho'
    exact ⟨_, es', ep', hL, r'⟩) hok I.bare
theorem Inv.call {g' : Array GenState} {t' : Nat} {d' : Drawn} {ch : List Addr} (I : Inv X pins σ H s) (u : Un (frs X.stack) ch H H' s.heap h') (hok : HOk X.prog X.w H' h') (hg : AllBare g')
    (hch : ∀ b ∈ ch, (b ∈ X.ex ∨ X.s₀.heap.objs.size ≤ b) ∧ b ≠ X.env.locals ∧ (∀ x c, X.env.cells.lookup x = some c → c ≠ b) ∧ ∀ p ∈ X.pn ++ pins, p.1 ≠ b) :
    Inv X pins σ H' { s with heap := h', gens := g', drawn := d', toks := t' } := by
  obtain ⟨m, ⟨o, es, ep, ho, r⟩, _⟩ := id I.loc
  obtain ⟨sl, hL⟩ := u.any ho I.free fun z => (hch _ z).2.1 rfl
  exact I.step (ch := ch) hch (fun b o hL hb hc e n => u.keep b o e n (fun z => (List.mem_cons.mp (I.stkSub b z)).elim hL hb) hc) (fun b o _ _ hc e n => u.any e n hc) (fun b o hc e n => u.free b o e n hc) (fun b o hc e => u.there b o e hc) u.tups u.frzs u.tbls (fun m' hm => by
    obtain ⟨o', es', ep', ho', r'⟩ := hm
    rw [ho] at ho'; cases ho'
    exact ⟨_, es', ep', hL, r'⟩) hok hg
theorem Inv.turned {t' : Nat} {it : Addr} (I : Inv X pins σ H s) (k : ∀ b o, b ≠ it → s.heap.get? b = some o → h'.get? b = some o) (hn : H it = none) (hL : it ≠ X.env.locals)
    (h1 : it ∈ X.ex ∨ X.s₀.heap.objs.size ≤ it) (h2 : ∀ x c, X.env.cells.lookup x = some c → c ≠ it) (h3 : ∀ p ∈ X.pn ++ pins, p.1 ≠ it) : Inv X pins σ H { s with heap := h', toks := t' } := by
  have nit : ∀ b u, H b = some u → b ≠ it := fun b u e z => by rw [z, hn] at e; cases e
  refine I.step (g' := s.gens) (d' := s.drawn) (ch := [it]) (fun b hb => ?_) (fun b o _ _ hc e _ => k b o (fun z => hc (by simp [z])) e) (fun b o _ _ hc e _ => ⟨o.slots, k b o (fun z => hc (by simp [z])) e⟩) (fun _ _ _ _ n => n)
    (fun b o hc e => ⟨o, k b o (fun z => hc (by simp [z])) e⟩) (fun _ _ e => e) (fun _ _ _ e => e) (fun b ps e => ⟨#[], by rw [e]; simp⟩) (fun m hm => ?_) (fun b u e => ?_) I.bare
  · have e : b = it := by simpa using hb
    subst e
    exact ⟨h1, hL, h2, h3⟩
  · obtain ⟨o, es, ep, ho, r⟩ := hm
    exact ⟨o, es, ep, k _ o (Ne.symm hL) ho, r⟩
  · refine (I.hok b u e).stay (fun c v hc q => k c v ?_ q) (fun _ q => q) fun _ _ q => q
    rcases hc with z | z
    · rw [z]; exact nit b u e
    · exact nit c _ z
theorem Inv.tok (I : Inv X pins σ H s) (t : Nat) : Inv X pins σ H { s with toks := t } := I.un (h' := s.heap) (t' := t) Un.refl I.hok
theorem Inv.kept {t' : Nat} (I : Inv X pins σ H s) (k : ∀ b u, s.heap.get? b = some u → h'.get? b = some u) : Inv X pins σ H { s with heap := h', toks := t' } := I.un (Un.kept k) (I.hok.kept k)
theorem Inv.laid {a : Addr} {o : HO} {t' : Nat} (I : Inv X pins σ H s) (k : ∀ b u, s.heap.get? b = some u → h'.get? b = some u) (hp : s.heap.objs.size ≤ a) (new : ObjOk X.prog X.w (upd H a o) h' a o) :
    Inv X pins σ (upd H a o) { s with heap := h', toks := t' } := I.un (Un.laid k hp (I.hok.fresh hp)) (I.hok.laid k hp new)
theorem Inv.write {x e : Addr} {o : HO} {t' : Nat} (I : Inv X pins σ H s) (mu : Mut (H x)) (he : e = x ∨ H e = some (.own x)) (k : ∀ b u, b ≠ e → s.heap.get? b = some u → h'.get? b = some u) (heo : ∃ u, h'.get? e = some u)
    (new : ObjOk X.prog X.w (upd H x o) h' x o) : Inv X pins σ (upd H x o) { s with heap := h', toks := t' } := I.un (Un.write mu he k heo) (I.hok.write mu he k heo new)
theorem Inv.pins_of {pins' : List (Addr × Obj)} (I : Inv X pins σ H s) (h : ∀ p ∈ pins', s.heap.get? p.1 = some p.2 ∧ H p.1 = none ∧ p.1 ≠ X.env.locals ∧ p.1 ∉ X.fs ∧ ∀ v, p.2.data ≠ .cell v) : Inv X pins' σ H s :=
  ⟨I.ok, I.os, I.bare, I.base, I.loc, I.cell, I.free, I.freeC, fun p hp => (List.mem_append.mp hp).elim (fun z => I.pin p (List.mem_append_left _ z)) (h p), I.hok, I.len⟩

theorem nodup_ix {N : List Str} (hN : N.Nodup) {i j : Nat} {x : Str} (a : N[i]? = some x) (b : N[j]? = some x) : i = j := by
  obtain ⟨h1, e1⟩ := List.getElem?_eq_some_iff.mp a
  obtain ⟨h2, e2⟩ := List.getElem?_eq_some_iff.mp b
  exact (List.getElem_inj hN).mp (e1.trans e2.symm)

theorem store_ok2 {M : Model} {A : Around} {E : Value → Shared → Prop} {i : Nat} {x : Str} {v : V} {u : Value} {Q : Unit → Shared → Prop} (I : Inv X pins σ H s) (hN : X.N.Nodup) (hi : X.N[i]? = some x) (hx : Loc X.env.scope x) (r : RelV v u)
    (h : ∀ s', Inv X pins (σ.set i (some v)) H s' → (∃ a, Heap.SameBut a s.heap s'.heap ∧ (a = X.env.locals ∨ X.env.cells.lookup x = some a)) → Q () s') (hf : X.fn x = true ∨ X.env.scope.names.lookup x = some .local := by first | exact .inl rfl | exact .inr rfl | assumption) : wpAny M A (storeName X.env x u) Q E s := by
  obtain ⟨m, hn, hl⟩ := id I.loc
  have hcls : (X.env.scope.kind == .class || (X.env.scope.kind == .module && X.env.locals != X.env.globals)) = false := by rw [I.ok.kind]; rfl
  have hiσ : i < σ.length := by rw [I.len]; exact (List.getElem?_eq_some_iff.mp hi).1
  have cne := I.cne
  have tracked : ∀ {a : Addr} {h' : Heap}, (∃ o, s.heap.get? a = some o ∧ H a = none) → Heap.SameBut a s.heap h' → HOk X.prog X.w H h' := fun {a h'} ha hs b ob e => by
    obtain ⟨_, _, hfree⟩ := ha
    refine (I.hok b ob e).stay (fun c w' hc q => (hs.2 c ?_).trans q) (fun _ q => q) fun _ _ q => q
    rintro rfl
    rcases hc with rfl | hc
    · rw [hfree] at e; cases e
    · rw [hfree] at hc; cases hc
  rcases hx with hk | hk
  · refine wpAny_storeName_local hk hn (fun h' hn' hs => ?_) hcls
    obtain ⟨oL, _, _, hoL, _⟩ := id hn
    refine h _ ⟨I.ok, I.os, I.bare, ⟨fun b o e n hb hx => ?_, fun b o e n hb hx => ?_, I.base.free, fun b o e hx => ?_, I.base.tups, I.base.frzs, I.base.tbls⟩, ⟨_, hn', fun j y v' e1 e2 e3 => ?_⟩, fun y c e => ?_, I.free, I.freeC, fun p hp => ?_, tracked ⟨oL, hoL, I.free⟩ hs, by simpa using I.len⟩ ⟨_, hs, .inl rfl⟩
    · exact (hs.2 b (Nat.ne_of_lt (Nat.lt_of_lt_of_le (Heap.lt_size e) I.ok.above))).trans (I.base.keep b o e n hb hx)
    · obtain ⟨sl, e1⟩ := I.base.slot b o e n hb hx
      exact ⟨sl, (hs.2 b (Nat.ne_of_lt (Nat.lt_of_lt_of_le (Heap.lt_size e) I.ok.above))).trans e1⟩
    · obtain ⟨o', e1⟩ := I.base.there b o e hx
      exact ⟨o', (hs.2 b (Nat.ne_of_lt (Nat.lt_of_lt_of_le (Heap.lt_size e) I.ok.above))).trans e1⟩
    · by_cases hj : j = i
      · subst hj
        rw [hi] at e1; cases e1
        rw [List.getElem?_set_self hiσ] at e2
        cases e2
        exact ⟨u, r, .inl ⟨hk, by simp⟩⟩
      · rw [List.getElem?_set_ne (Ne.symm hj)] at e2
        obtain ⟨u', r', q⟩ := hl j y v' e1 e2 e3
        refine ⟨u', r', ?_⟩
        rcases q with ⟨k, e⟩ | ⟨k, c, e, z⟩
        · refine .inl ⟨k, ?_⟩
          have : y ≠ x := fun e => hj (nodup_ix hN e1 (e ▸ hi))
          simp [this, e]
        · exact .inr ⟨k, c, e, z.sameBut hs (cne y c e)⟩
    · obtain ⟨w', z⟩ := I.cell y c e
      exact ⟨w', z.sameBut hs (cne y c e)⟩
    · obtain ⟨e, n, ne, nf, d⟩ := I.pin p hp
      exact ⟨(hs.2 p.1 ne).trans e, n, ne, nf, d⟩
  · have hfn : X.fn x = true := by
      rcases hf with z | z
      · exact z
      · rw [z] at hk; cases hk
    obtain ⟨c, hc⟩ := I.ok.has x (.inl hk)
    obtain ⟨w', z⟩ := I.cell x c hc
    refine wpAny_storeName_cell I.ok.kind hk hc z (fun h' hc' hs => ?_)
    obtain ⟨oc, hoc, hocd⟩ := id z
    refine h { s with heap := h' } ⟨I.ok, I.os, I.bare, ⟨fun b o e n hb hx => ?_, fun b o e n hb hx => ?_, I.base.free, fun b o e hx => ?_, I.base.tups, I.base.frzs, I.base.tbls⟩, ⟨m, hn.sameBut hs (Ne.symm (cne x c hc)), fun j y v' e1 e2 e3 => ?_⟩, fun y c' e => ?_, I.free, I.freeC, fun p hp => ?_, tracked ⟨oc, hoc, I.freeC x c hc⟩ hs, by simpa using I.len⟩ ⟨c, hs, .inr hc⟩
    · exact (hs.2 b (Nat.ne_of_lt (Nat.lt_of_lt_of_le (Heap.lt_size e) (I.ok.cab x c hfn hc)))).trans (I.base.keep b o e n hb hx)
    · obtain ⟨sl, e1⟩ := I.base.slot b o e n hb hx
      exact ⟨sl, (hs.2 b (Nat.ne_of_lt (Nat.lt_of_lt_of_le (Heap.lt_size e) (I.ok.cab x c hfn hc)))).trans e1⟩
    · obtain ⟨o', e1⟩ := I.base.there b o e hx
      exact ⟨o', (hs.2 b (Nat.ne_of_lt (Nat.lt_of_lt_of_le (Heap.lt_size e) (I.ok.cab x c hfn hc)))).trans e1⟩
    · by_cases hj : j = i
      · subst hj
        rw [hi] at e1; cases e1
        rw [List.getElem?_set_self hiσ] at e2
        cases e2
        exact ⟨u, r, .inr ⟨.inl hk, c, hc, hc'⟩⟩
      · rw [List.getElem?_set_ne (Ne.symm hj)] at e2
        obtain ⟨u', r', q⟩ := hl j y v' e1 e2 e3
        refine ⟨u', r', ?_⟩
        rcases q with q | ⟨k, c', e, z'⟩
        · exact .inl q
        · refine .inr ⟨k, c', e, z'.sameBut hs ?_⟩
          rintro rfl
          exact hj (nodup_ix hN e1 (I.ok.inj _ _ _ e hc ▸ hi))
    · by_cases hcc : c' = c
      · subst hcc; exact ⟨_, hc'⟩
      · obtain ⟨w2, z2⟩ := I.cell y c' e
        exact ⟨w2, z2.sameBut hs hcc⟩
    · obtain ⟨e, n, ne, nf, d⟩ := I.pin p hp
      refine ⟨(hs.2 p.1 ?_).trans e, n, ne, nf, d⟩
      intro q
      rw [q, hoc] at e
      have q' : oc = p.2 := Option.some.inj e
      exact d w' (by rw [← q']; exact hocd)
theorem store_ok {M : Model} {A : Around} {E : Value → Shared → Prop} {i : Nat} {x : Str} {v : V} {u : Value} {Q : Unit → Shared → Prop} (I : Inv X pins σ H s) (hN : X.N.Nodup) (hi : X.N[i]? = some x) (hx : Loc X.env.scope x) (r : RelV v u)
    (h : ∀ s', Inv X pins (σ.set i (some v)) H s' → Q () s') (hf : X.fn x = true ∨ X.env.scope.names.lookup x = some .local := by first | exact .inl rfl | exact .inr rfl | assumption) : wpAny M A (storeName X.env x u) Q E s :=
  store_ok2 I hN hi hx r (fun s' I' _ => h s' I') hf
theorem Inv.call' {s' : Shared} {ch : List Addr} (I : Inv X pins σ H s) (ho : s'.os = s.os) (u : Un (frs X.stack) ch H H' s.heap s'.heap) (hok : HOk X.prog X.w H' s'.heap) (hg : AllBare s'.gens)
    (hch : ∀ b ∈ ch, (b ∈ X.ex ∨ X.s₀.heap.objs.size ≤ b) ∧ b ≠ X.env.locals ∧ (∀ x c, X.env.cells.lookup x = some c → c ≠ b) ∧ ∀ p ∈ X.pn ++ pins, p.1 ≠ b) : Inv X pins σ H' s' := by
  obtain ⟨h', g', d', t', o'⟩ := s'
  have e : o' = s.os := ho
  subst e
  exact I.call (g' := g') (t' := t') (d' := d') u hok hg hch
end

abbrev XK := Value → Option Addr → Hp → Prop
abbrev St := List (Option V)
abbrev VK := V → Hp → Prop
abbrev TE := St → Hp → VK → Prop
abbrev TT := St → Hp → (Bool → Hp → Prop) → Prop
abbrev TA := St → Hp → (List V → Hp → Prop) → Prop
structure Ends where
  nx : St → Hp → Prop
  rt : VK
  bk : St → Hp → Prop := fun _ _ => False
  ct : St → Hp → Prop := fun _ _ => False
abbrev TS := Ends → St → Hp → Prop

def EP (X : Cx) (pins : List (Addr × Obj)) (σ : St) (Q : VK) (u : Value) (s' : Shared) : Prop := ∃ v H', Inv X pins σ H' s' ∧ RelV v u ∧ Q v H'
def TP (X : Cx) (pins : List (Addr × Obj)) (σ : St) (Q : Bool → Hp → Prop) (b : Bool) (s' : Shared) : Prop := ∃ H', Inv X pins σ H' s' ∧ Q b H'
def AP (X : Cx) (pins : List (Addr × Obj)) (σ : St) (Q : List V → Hp → Prop) (us : List Value) (s' : Shared) : Prop := ∃ vs H', Inv X pins σ H' s' ∧ Vals vs us ∧ Q vs H'
def SP (X : Cx) (pins : List (Addr × Obj)) (D : Ends) (f : Flow) (s' : Shared) : Prop :=
  match f with
  | .next => ∃ σ' H', Inv X pins σ' H' s' ∧ D.nx σ' H'
  | .brk => ∃ σ' H', Inv X pins σ' H' s' ∧ D.bk σ' H'
  | .cont => ∃ σ' H', Inv X pins σ' H' s' ∧ D.ct σ' H'
  | .ret u => ∃ v σ' H', Inv X pins σ' H' s' ∧ RelV v u ∧ D.rt v H'

def PE (X : Cx) (e : Expr) (t : TE) : Prop :=
  ∀ (pins : List (Addr × Obj)) (s : Shared) (σ : St) (H : Hp) (Q : VK), Inv X pins σ H s → t σ H Q → wpAny (model X.prog X.w) X.A (eval e X.env) (EP X pins σ Q) X.xe s
def PT (X : Cx) (e : Expr) (t : TT) : Prop :=
  ∀ (pins : List (Addr × Obj)) (s : Shared) (σ : St) (H : Hp) (Q : Bool → Hp → Prop), Inv X pins σ H s → t σ H Q → wpAny (model X.prog X.w) X.A (isTrue e X.env (eval e X.env)) (TP X pins σ Q) X.xe s
def PW (X : Cx) (e : Expr) (t : TT) : Prop :=
  ∀ (whole : Sem Value) (pins : List (Addr × Obj)) (s : Shared) (σ : St) (H : Hp) (Q : Bool → Hp → Prop), Inv X pins σ H s → t σ H Q → wpAny (model X.prog X.w) X.A (isTrue e X.env whole) (TP X pins σ Q) X.xe s
theorem PW.pt {X : Cx} {e : Expr} {t : TT} (h : PW X e t) : PT X e t := h _
def PA (X : Cx) (es : List Expr) (t : TA) : Prop :=
  ∀ (pos : Pos) (pins : List (Addr × Obj)) (s : Shared) (σ : St) (H : Hp) (Q : List V → Hp → Prop), Inv X pins σ H s → t σ H Q → wpAny (model X.prog X.w) X.A (spliced (backTo pos (starEach es X.env))) (AP X pins σ Q) X.xe s
def PS (X : Cx) (st : Stmt) (t : TS) : Prop :=
  ∀ (pins : List (Addr × Obj)) (s : Shared) (σ : St) (H : Hp) (D : Ends), Inv X pins σ H s → t D σ H → wpAny (model X.prog X.w) X.A (exec st X.env) (SP X pins D) X.xe s
def PSs (X : Cx) (st : List Stmt) (t : TS) : Prop :=
  ∀ (pins : List (Addr × Obj)) (s : Shared) (σ : St) (H : Hp) (D : Ends), Inv X pins σ H s → t D σ H → wpAny (model X.prog X.w) X.A (execs st X.env) (SP X pins D) X.xe s
theorem thn {α : Type} {t : Sem α} {Q Q' : α → Shared → Prop} {M : Model} {A : Around} {E : Value → Shared → Prop} {s : Shared} (h : wpAny M A t Q E s) (hQ : ∀ a s, Q a s → Q' a s) : wpAny M A t Q' E s := wpAny_mono h hQ fun _ _ x => x
end L2

namespace L2
open PySem PySem.Spec PyProof.Rows
section
variable {X : Cx}

theorem bin {a b : Expr} {ta tb : TE} (ha : PE X a ta) (hb : PE X b tb) {pins : List (Addr × Obj)} {s : Shared} {σ : St} {H : Hp} {R : V → V → Hp → Prop} (I : Inv X pins σ H s) (h : ta σ H fun x H1 => tb σ H1 fun y H2 => R x y H2)
    {α : Type} {Q : α → Shared → Prop} {f : Value → Value → Sem α}
    (hf : ∀ v u s2 x y H2, Inv X pins σ H2 s2 → RelV x v → RelV y u → R x y H2 → wpAny (model X.prog X.w) X.A (f v u) Q X.xe s2) :
    wpAny (model X.prog X.w) X.A (eval a X.env) (fun v s₁ => wpAny (model X.prog X.w) X.A (eval b X.env) (fun u s₂ => wpAny (model X.prog X.w) X.A (f v u) Q X.xe s₂) X.xe s₁) X.xe s := by
  refine thn (ha pins s σ H _ I h) fun v s1 ⟨x, H1, I1, r1, q1⟩ => ?_
  refine thn (hb pins s1 σ H1 _ I1 q1) fun u s2 ⟨y, H2, I2, r2, q2⟩ => ?_
  exact hf v u s2 x y H2 I2 r1 r2 q2

def tVar (i : Nat) : TE := fun σ H Q => ∃ v, σ[i]? = some (some v) ∧ Q v H
def tC (v : V) : TE := fun _ H Q => Q v H
theorem pe_var {i : Nat} {x : Str} {pos : Pos} (hN : X.N[i]? = some x) (hv : Vis X.env.scope x) (hd : (x == ("__debug__" : Str)) = false := by decide) (hcd : (x == ("__classdict__" : Str)) = false := by decide) : PE X (.Name x pos) (tVar i) := by
  intro pins s σ H Q I h
  obtain ⟨v, e, h⟩ := h
  obtain ⟨m, hn, hl⟩ := I.loc
  obtain ⟨u, r, l⟩ := hl i x v hN e hv
  have fin : EP X pins σ Q u s := ⟨v, H, I, r, h⟩
  rcases l with ⟨hk, hm⟩ | ⟨hk, c, hc, hcell⟩
  · exact wpAny_Name (wpAny_loadName_local I.ok.kind hk hn hm fin) hd
  · rcases hk with hk | hk
    · exact wpAny_Name (wpAny_loadName_cell I.ok.kind hk hc hcell fin) hd
    · exact wpAny_Name (wpAny_loadName_free I.ok.kind hk hc hcell fin hcd) hd
theorem pe_int {i j pos} : PE X (.Constant (.int i) j pos) (tC (.int i)) := fun _ _ _ H _ I h => wpAny_Constant_int ⟨.int i, H, I.tok _, ⟨_, rfl⟩, h⟩
theorem pe_bl {b j pos} : PE X (.Constant (.bool b) j pos) (tC (.bl b)) := fun _ _ _ H _ I h => Constant_bool ⟨.bl b, H, I, rfl, h⟩
theorem pe_non {j pos} : PE X (.Constant .none j pos) (tC .non) := fun _ _ _ H _ I h => Constant_none ⟨.non, H, I, rfl, h⟩
theorem pe_str {x j pos} : PE X (.Constant (.str x) j pos) (tC (.str x)) := fun _ _ _ H _ I h => Calls.Constant_str ⟨.str x, H, I.tok _, ⟨_, rfl⟩, h⟩

def Gl (X : Cx) (x : Str) : Prop := X.env.kindOf x = some .globalImplicit
theorem ld_glob {E : Value → Shared → Prop} {pins : List (Addr × Obj)} {s : Shared} {σ : St} {H : Hp} {x : Str} {u : Value} {pos : Pos} {Q : Value → Shared → Prop} (I : Inv X pins σ H s) (hg : Gl X x) (hm : X.mg x = some u) (h : Q u s)
    (hd : (x == ("__debug__" : Str)) = false := by decide) : wpAny (model X.prog X.w) X.A (eval (.Name x pos) X.env) Q E s :=
  Calls.Name_function_global I.ok.kind hg (Calls.loadGlobal_global (by rw [I.ok.glob]; exact I.mod.glob.keeps I.bk) hm h) hd
theorem ld_blt {E : Value → Shared → Prop} {pins : List (Addr × Obj)} {s : Shared} {σ : St} {H : Hp} {x : Str} {u : Value} {pos : Pos} {Q : Value → Shared → Prop} (I : Inv X pins σ H s) (hg : Gl X x) (hm : X.mg x = none) (hv : bootBuiltins x = some u) (h : Q u s)
    (hn : x ≠ "__name__" := by decide) (hd : (x == ("__debug__" : Str)) = false := by decide) : wpAny (model X.prog X.w) X.A (eval (.Name x pos) X.env) Q E s := by
  obtain ⟨mb, h1, h2⟩ := I.mod.blt
  exact Calls.Name_function_global I.ok.kind hg (Calls.loadGlobal_builtin (by rw [I.ok.glob]; exact I.mod.glob.keeps I.bk) hm (by rw [I.ok.blt]; exact h1.keeps I.bk) ((h2 x hn).trans hv) h) hd
theorem pe_glob {x : Str} {v : V} {u : Value} {pos : Pos} (hg : Gl X x) (hm : X.mg x = some u) (r : RelV v u) (hd : (x == ("__debug__" : Str)) = false := by decide) : PE X (.Name x pos) (tC v) :=
  fun _ _ _ H _ I h => ld_glob I hg hm ⟨v, H, I, r, h⟩ hd
theorem pe_bltn {x : Str} {v : V} {u : Value} {pos : Pos} (hg : Gl X x) (hm : X.mg x = none) (hv : bootBuiltins x = some u) (r : RelV v u) (hn : x ≠ "__name__" := by decide) (hd : (x == ("__debug__" : Str)) = false := by decide) : PE X (.Name x pos) (tC v) :=
  fun _ _ _ H _ I h => ld_blt I hg hm hv ⟨v, H, I, r, h⟩ hn hd

variable {a b : Expr} {ta tb : TE} {pos : Pos}
def PC (X : Cx) (op : CmpOp) (a b : Expr) (t : TE) : Prop :=
  ∀ (pins : List (Addr × Obj)) (s : Shared) (σ : St) (H : Hp) (Q : VK), Inv X pins σ H s → t σ H Q →
    wpAny (model X.prog X.w) X.A (eval a X.env) (fun v s₁ => wpAny (model X.prog X.w) X.A (eval b X.env) (fun u s₂ => wpAny (model X.prog X.w) X.A (compareOp op v u) (EP X pins σ Q) X.xe s₂) X.xe s₁) X.xe s
theorem nobehind (b : Expr) {op : CmpOp} (h : op ≠ .In) (h2 : op ≠ .NotIn) : behindInMarks op b = false := by
  have e1 : (op == CmpOp.In) = false := by cases op <;> first | rfl | exact absurd rfl h
  have e2 : (op == CmpOp.NotIn) = false := by cases op <;> first | rfl | exact absurd rfl h2
  cases b <;> simp [behindInMarks, e1, e2]
def tB (t : TE) : TT := fun σ H Q => t σ H fun x H1 => ∃ c, x = .bl c ∧ Q c H1
theorem pt_cmp {op : CmpOp} {t : TE} (h : PC X op a b t) (h1 : behindInMarks op b = false := by first | exact nobehind _ (by decide) (by decide) | rfl) : PT X (.Compare a [op] [b] pos) (tB t) := by
  intro pins s σ H Q I hw
  refine wpAny_isTrue_Compare1 (thn (h pins s σ H _ I hw) fun v s1 h1 => thn h1 fun u s2 h2 => thn h2 fun c s3 ⟨x, H1, I1, r1, q1⟩ => ?_) h1
  obtain ⟨d, rfl, q⟩ := q1
  cases r1
  exact wpAny_truthy_bool ⟨H1, I1, q⟩
theorem pt_val {e : Expr} {t : TE} (h : PE X e t) (he : ∀ whole, isTrue e X.env whole = (do let v ← whole; standAt e.pos; holding [v] (truthy v)) := by intro _; rfl) : PT X e (tB t) := by
  intro pins s σ H Q I hw
  refine isTrue_plain (thn (h pins s σ H _ I hw) fun v s1 ⟨x, H1, I1, r1, q1⟩ => ?_) (he _)
  obtain ⟨d, rfl, q⟩ := q1
  cases r1
  exact wpAny_truthy_bool ⟨H1, I1, q⟩

variable {tA tB' : TT} {rest : List Expr}
def tOr (t u : TT) : TT := fun σ H Q => t σ H fun c H1 => if c = true then Q true H1 else u σ H1 Q
def tNot (t : TT) : TT := fun σ H Q => t σ H fun c H1 => Q (!c) H1
theorem pw_or1 (ha : PT X a tA) : PW X (.BoolOp .Or [a] pos) tA := by
  intro wh pins s σ H Q I h
  refine isTrue_or (thn (ha pins s σ H Q I h) fun c s1 e => ?_)
  cases c with
  | false => exact isTrue_or_nil e
  | true => exact e
theorem pw_or (ha : PT X a tA) (hb : PW X (.BoolOp .Or (b :: rest) pos) tB') : PW X (.BoolOp .Or (a :: b :: rest) pos) (tOr tA tB') := by
  intro wh pins s σ H Q I h
  refine isTrue_or (thn (ha pins s σ H _ I h) fun c s1 ⟨H1, I1, q1⟩ => ?_)
  cases c with
  | true => exact ⟨H1, I1, q1⟩
  | false => exact hb wh pins s1 σ H1 Q I1 q1
theorem pt_not (ha : PT X a tA) : PT X (.UnaryOp .Not a pos) (tNot tA) := by
  intro pins s σ H Q I h
  exact isTrue_not (ha pins s σ H (fun c H1 => Q (!c) H1) I h)
def tAndV (ta tb : TE) : TE := fun σ H Q => ta σ H fun x H1 => ∃ c, x = .bl c ∧ if c = true then tb σ H1 Q else Q (.bl false) H1
def tNotV (ta : TE) : TE := fun σ H Q => ta σ H fun x H1 => ∃ c, x = .bl c ∧ Q (.bl (!c)) H1
theorem pe_one {op} {t : TE} (h : PE X a t) : PE X (.BoolOp op [a] pos) t := fun pins s σ H Q I hw => BoolOp_one (h pins s σ H Q I hw)
theorem pe_and (ha : PE X a ta) (hb : PE X (.BoolOp .And (b :: rest) pos) tb) : PE X (.BoolOp .And (a :: b :: rest) pos) (tAndV ta tb) := by
  intro pins s σ H Q I h
  refine BoolOp_and (thn (ha pins s σ H _ I h) fun v s1 ⟨x, H1, I1, r1, q1⟩ => ?_)
  obtain ⟨c, rfl, q1⟩ := q1
  cases r1
  refine wpAny_truthy_bool ?_
  cases c with
  | true => exact hb pins s1 σ H1 Q I1 q1
  | false => exact ⟨.bl false, H1, I1, rfl, q1⟩
theorem pe_not (ha : PE X a ta) : PE X (.UnaryOp .Not a pos) (tNotV ta) := by
  intro pins s σ H Q I h
  refine UnaryOp_ (thn (ha pins s σ H _ I h) fun v s1 ⟨x, H1, I1, r1, q1⟩ => ?_)
  obtain ⟨c, rfl, q1⟩ := q1
  cases r1
  exact not_of (wpAny_truthy_bool ⟨.bl (!c), H1, I1, rfl, q1⟩)
end
end L2

namespace L2
open PySem PySem.Spec PyProof.Rows

def SqL (K : PySem.W.Frag) (H : Hp) (a : Addr) (xs : List V) : Prop :=
  Rd H a (.lst xs) ∨
    ∃ (o : Obj) (its : Array Value) (n : Nat), K.lookup a = some o ∧ o.cls = .type "list" ∧ o.dict = none ∧ o.data = .seq its n ∧ its.size ≤ sizeLine ∧ Vals xs its.toList
def SqT (K : PySem.W.Frag) (H : Hp) (a : Addr) (xs : List V) : Prop :=
  Rd H a (.tup xs) ∨
    ∃ (o : Obj) (its : Array Value) (n : Nat), K.lookup a = some o ∧ o.cls = .type "tuple" ∧ o.data = .seq its n ∧ its.size ≤ sizeLine ∧ Vals xs its.toList
def absV : Value → Option V
  | .none => some .non
  | .bool b => some (.bl b)
  | .int i _ => some (.int i)
  | .str x _ => some (.str x)
  | .bytes b _ => some (.byt b)
  | .float b _ => some (.flt b)
  | .ref a => some (.ref a)
  | .type n => some (.ty n)
  | _ => none
theorem RelV.abs {x : V} {u : Value} (r : RelV x u) : absV u = some x := by
  cases x with
  | non => cases r; rfl
  | bl _ => cases r; rfl
  | int _ => obtain ⟨t, rfl⟩ := r; rfl
  | str _ => obtain ⟨t, rfl⟩ := r; rfl
  | byt _ => obtain ⟨t, rfl⟩ := r; rfl
  | flt _ => obtain ⟨t, rfl⟩ := r; rfl
  | ref _ => cases r; rfl
  | ty _ => cases r; rfl
theorem RelV.inj {x y : V} {u : Value} (r : RelV x u) (q : RelV y u) : x = y := Option.some.inj (r.abs.symm.trans q.abs)
theorem Vals.inj : ∀ {xs ys : List V} {us : List Value}, Vals xs us → Vals ys us → xs = ys
  | _, _, _, .nil, .nil => rfl
  | _, _, _, .cons r t, .cons r' t' => by rw [r.inj r', Vals.inj t t']
section
variable {X : Cx} {pins : List (Addr × Obj)} {σ : St} {H : Hp} {s : Shared} {a : Addr} {xs ys : List V}
theorem SqL.of {K : PySem.W.Frag} (h : H a = some (.lst xs)) : SqL K H a xs := .inl (.inl h)
theorem SqT.of {K : PySem.W.Frag} (h : H a = some (.tup xs)) : SqT K H a xs := .inl (.inl h)
theorem Inv.list (I : Inv X pins σ H s) (h : SqL X.K H a xs) : ∃ its : List Value, Vals xs its ∧ PlainL s.heap a its.toArray ∧ xs.length ≤ sizeLine := by
  rcases h with h | ⟨o, its, n, hk, hc, hd, hs, hz, r⟩
  · obtain ⟨z, its, n, r, e⟩ := h.ok I.hok
    exact ⟨its, r, ⟨_, n, e, rfl, rfl, rfl⟩, z⟩
  · refine ⟨its.toList, r, ⟨o, n, I.kIn a o hk, hc, hd, by simpa using hs⟩, ?_⟩
    have e := r.length
    simp only [Array.length_toList] at e
    omega
theorem Inv.tuple (I : Inv X pins σ H s) (h : SqT X.K H a xs) : ∃ its : List Value, Vals xs its ∧ IsTup s.heap a its.toArray ∧ xs.length ≤ sizeLine := by
  rcases h with h | ⟨o, its, n, hk, hc, hs, hz, r⟩
  · obtain ⟨z, its, r, p⟩ := h.ok I.hok
    exact ⟨its, r, p, z⟩
  · refine ⟨its.toList, r, ⟨o, I.kIn a o hk, hc, n, by simpa using hs⟩, ?_⟩
    have e := r.length
    simp only [Array.length_toList] at e
    omega
theorem Inv.list_inj (I : Inv X pins σ H s) (h : SqL X.K H a xs) (h' : SqL X.K H a ys) : xs = ys := by
  obtain ⟨its, r, ⟨o, n, e, _, _, d⟩, _⟩ := I.list h
  obtain ⟨its', r', ⟨o', n', e', _, _, d'⟩, _⟩ := I.list h'
  rw [e] at e'; cases e'
  rw [d] at d'
  injection d' with d1 _
  have : its = its' := by simpa using congrArg Array.toList d1
  subst this
  exact r.inj r'
theorem Inv.tuple_inj (I : Inv X pins σ H s) (h : SqT X.K H a xs) (h' : SqT X.K H a ys) : xs = ys := by
  obtain ⟨its, r, ⟨o, e, _, n, d⟩, _⟩ := I.tuple h
  obtain ⟨its', r', ⟨o', e', _, n', d'⟩, _⟩ := I.tuple h'
  rw [e] at e'; cases e'
  rw [d] at d'
  injection d' with d1 _
  have : its = its' := by simpa using congrArg Array.toList d1
  subst this
  exact r.inj r'
end

abbrev Cx.wish (X : Cx) (E : Value → Shared → Prop) : Cx := { X with xe := E }
abbrev Cx.nox (X : Cx) : Cx := X.wish fun _ _ => False
theorem Cx.Ok.wish {X : Cx} (ok : X.Ok) (E : Value → Shared → Prop) : (X.wish E).Ok :=
  ⟨ok.mod, ok.kind, ok.glob, ok.blt, ok.above, ok.inj, ok.has, ok.cab, ok.hd, ok.frames, ok.stk, ok.exf, ok.bs, ok.bsz, ok.noex, ok.exfs, ok.funs, ok.frf⟩
theorem Cx.Ok.unwish {X : Cx} {E : Value → Shared → Prop} (ok : (X.wish E).Ok) : X.Ok :=
  ⟨ok.mod, ok.kind, ok.glob, ok.blt, ok.above, ok.inj, ok.has, ok.cab, ok.hd, ok.frames, ok.stk, ok.exf, ok.bs, ok.bsz, ok.noex, ok.exfs, ok.funs, ok.frf⟩
section
variable {X : Cx} {pins : List (Addr × Obj)} {σ : St} {H : Hp} {s : Shared} {E : Value → Shared → Prop}
theorem Inv.wish (I : Inv X pins σ H s) (E : Value → Shared → Prop) : Inv (X.wish E) pins σ H s := ⟨I.ok.wish E, I.os, I.bare, I.base, I.loc, I.cell, I.free, I.freeC, I.pin, I.hok, I.len⟩
theorem Inv.unwish (I : Inv (X.wish E) pins σ H s) : Inv X pins σ H s := ⟨I.ok.unwish, I.os, I.bare, I.base, I.loc, I.cell, I.free, I.freeC, I.pin, I.hok, I.len⟩
theorem SP.unwish {D : Ends} {f : Flow} {s' : Shared} (h : SP (X.wish E) pins D f s') : SP X pins D f s' := by
  cases f with
  | next => obtain ⟨σ', H', I, q⟩ := h; exact ⟨σ', H', I.unwish, q⟩
  | brk => obtain ⟨σ', H', I, q⟩ := h; exact ⟨σ', H', I.unwish, q⟩
  | cont => obtain ⟨σ', H', I, q⟩ := h; exact ⟨σ', H', I.unwish, q⟩
  | ret u => obtain ⟨v, σ', H', I, r, q⟩ := h; exact ⟨v, σ', H', I.unwish, r, q⟩
theorem PSs.nox {st : List Stmt} {t : TS} (h : PSs X.nox st t) : PSs X st t := fun pins s σ H D I hw =>
  wpAny_mono (h pins s σ H D (I.wish _) hw) (fun _ _ q => q.unwish) fun _ _ z => False.elim z
end

section
variable {X : Cx} {st : Stmt} {rest : List Stmt} {t u : TS} {e : Expr} {te : TE} {pos : Pos}
def tNext : TS := fun D σ H => D.nx σ H
def tSeq (t u : TS) : TS := fun D σ H => t { D with nx := u D } σ H
theorem pss_nil : PSs X [] tNext := fun _ _ σ H _ I h => wpAny_execs_nil ⟨σ, H, I, h⟩
theorem pss_cons (h1 : PS X st t) (h2 : PSs X rest u) : PSs X (st :: rest) (tSeq t u) := by
  intro pins s σ H D I h
  refine wpAny_execs_cons (thn (h1 pins s σ H { D with nx := u D } I h) fun f s1 q => ?_)
  cases f with
  | next =>
    obtain ⟨σ', H', I', q⟩ := q
    exact h2 pins s1 σ' H' D I' q
  | ret v => exact q
  | brk => exact q
  | cont => exact q
theorem pss_one (h1 : PS X st t) : PSs X [st] t := by
  intro pins s σ H D I h
  refine wpAny_execs_cons (thn (h1 pins s σ H D I h) fun f s1 q => ?_)
  cases f with
  | next => exact wpAny_execs_nil q
  | ret v => exact q
  | brk => exact q
  | cont => exact q
theorem Inv.quiet {pins : List (Addr × Obj)} {σ : St} {H : Hp} {s : Shared} (I : Inv X pins σ H s) : interactive X.env = false := by simp [interactive, I.ok.kind]
def tDrop (te : TE) : TS := fun D σ H => te σ H fun _ H1 => D.nx σ H1
theorem ps_expr (he : PE X e te) (hs : swapsWith e none pos.line X.env = pure false := by rfl) : PS X (.Expr e pos) (tDrop te) := by
  intro pins s σ H D I h
  exact wpAny_Expr_any (thn (he pins s σ H _ I h) fun v s1 ⟨x, H1, I1, r1, q1⟩ => ⟨σ, H1, I1, q1⟩) I.quiet hs
def tRet (te : TE) : TS := fun D σ H => te σ H D.rt
theorem ps_ret (he : PE X e te) : PS X (.Return (some e) pos) (tRet te) := by
  intro pins s σ H D I h
  exact wpAny_Return_some (thn (he pins s σ H _ I h) fun v s1 ⟨x, H1, I1, r1, q1⟩ => ⟨x, σ, H1, I1, r1, q1⟩)
def tIfS (c : TT) (t u : TS) : TS := fun D σ H => c σ H fun b H1 => if b = true then t D σ H1 else u D σ H1
theorem ps_if {c : Expr} {a b : List Stmt} {tc : TT} (hc : PT X c tc) (ha : PSs X a t) (hb : PSs X b u) : PS X (.If c a b pos) (tIfS tc t u) := by
  intro pins s σ H D I h
  refine wpAny_If (thn (hc pins s σ H _ I h) fun d s1 ⟨H1, I1, q1⟩ => ?_)
  cases d with
  | true => exact ha pins s1 σ H1 D I1 q1
  | false => exact hb pins s1 σ H1 D I1 q1
end

abbrev TG := V → St → Hp → (St → Hp → Prop) → Prop
abbrev TGs := List V → St → Hp → (St → Hp → Prop) → Prop
def PG (X : Cx) (target : Expr) (t : TG) : Prop :=
  ∀ (pins : List (Addr × Obj)) (s : Shared) (σ : St) (H : Hp) (v : V) (u : Value) (Q : St → Hp → Prop), Inv X pins σ H s → RelV v u → t v σ H Q →
    wpAny (model X.prog X.w) X.A (assign target X.env u) (fun _ s' => ∃ σ' H', Inv X pins σ' H' s' ∧ Q σ' H') X.xe s
def PGs (X : Cx) (ts : List Expr) (t : TGs) : Prop :=
  ∀ (pins : List (Addr × Obj)) (s : Shared) (σ : St) (H : Hp) (vs : List V) (us : List Value) (Q : St → Hp → Prop), Inv X pins σ H s → Vals vs us → t vs σ H Q →
    wpAny (model X.prog X.w) X.A (assignInOrder ((assignEach ts X.env).map (·.2)) us) (fun _ s' => ∃ σ' H', Inv X pins σ' H' s' ∧ Q σ' H') X.xe s
section
variable {X : Cx} {pos : Pos}
def gName (i : Nat) : TG := fun v σ H Q => Q (σ.set i (some v)) H
theorem pg_name {i : Nat} {x : Str} (hN : X.N.Nodup) (hi : X.N[i]? = some x) (hx : Loc X.env.scope x) (hf : X.fn x = true ∨ X.env.scope.names.lookup x = some .local := by first | exact .inl rfl | exact .inr rfl | assumption) : PG X (.Name x pos) (gName i) := by
  intro pins s σ H v u Q I r h
  exact wpAny_assign_Name (store_ok I hN hi hx r (fun s' I' => ⟨_, H, I', h⟩) hf)
def gNil : TGs := fun vs σ H Q => vs = [] ∧ Q σ H
def gCons (t : TG) (u : TGs) : TGs := fun vs σ H Q => ∃ v r, vs = v :: r ∧ t v σ H fun σ' H' => u r σ' H' Q
theorem pgs_nil : PGs X [] gNil := by
  intro pins s σ H vs us Q I r h
  obtain ⟨e, h⟩ := h
  subst e
  cases r
  exact assignInOrder_nil ⟨σ, H, I, h⟩
theorem pgs_cons {e : Expr} {es : List Expr} {t : TG} {u : TGs} (h1 : PG X e t) (h2 : PGs X es u)
    (hs : (assignEach (e :: es) X.env).map (·.2) = assign e X.env :: (assignEach es X.env).map (·.2) := by rfl) : PGs X (e :: es) (gCons t u) := by
  intro pins s σ H vs us Q I r h
  obtain ⟨v, vr, e1, h⟩ := h
  subst e1
  cases r with
  | cons r rr =>
    rw [hs]
    refine assignInOrder_cons (thn (h1 pins s σ H _ _ _ I r h) fun _ s1 ⟨σ1, H1, I1, q1⟩ => ?_)
    exact h2 pins s1 σ1 H1 _ _ Q I1 rr q1
def gTup (K : PySem.W.Frag) (n : Nat) (t : TGs) : TG := fun v σ H Q => ∃ a xs, v = .ref a ∧ SqT K H a xs ∧ xs.length = n ∧ t xs σ H Q
theorem pg_tup {es : List Expr} {k : Nat} {t : TGs} {n : Nat} (hc : X.calm = true) (h : PGs X es t)
    (hn : (assignEach es X.env).length = n := by rfl) (hst : (assignEach es X.env).findIdx? (·.1) = none := by rfl) : PG X (.Tuple es k pos) (gTup X.K n t) := by
  intro pins s σ H v u Q I r hw
  obtain ⟨a, xs, e1, hq, hl, hw⟩ := hw
  subst e1
  cases r
  obtain ⟨its, rv, ht, hz⟩ := I.tuple hq
  refine assign_Tuple_tuple (I.ok.hd hc) ht (by simp [hn, ← hl, rv.length]) hst fun h' hx => ?_
  have I1 : Inv X pins σ H { s with heap := h' } := I.kept (t' := s.toks) fun b o e => hx b o (Nat.ne_of_lt (Heap.lt_size e)) e
  exact h pins _ σ H xs _ Q I1 (by simpa using rv) hw
def tAsg (te : TE) (g : TG) : TS := fun D σ H => te σ H fun x H1 => g x σ H1 D.nx
theorem ps_set {i : Nat} {x : Str} {e : Expr} {te : TE} {pos' : Pos} (hN : X.N.Nodup) (hi : X.N[i]? = some x) (hx : Loc X.env.scope x) (he : PE X e te) (hs : swapsWith e (some (.Name x pos')) pos.line X.env = pure false := by rfl) (hf : X.fn x = true ∨ X.env.scope.names.lookup x = some .local := by first | exact .inl rfl | exact .inr rfl | assumption) :
    PS X (.Assign [.Name x pos'] e pos) (tAsg te (gName i)) := by
  intro pins s σ H D I h
  refine wpAny_Assign_Name (thn (he pins s σ H _ I h) fun v s1 ⟨y, H1, I1, r1, q1⟩ => ?_) hs
  exact store_ok I1 hN hi hx r1 (fun s2 I2 => ⟨_, H1, I2, q1⟩) hf
end

section
variable {X : Cx} {pos : Pos}
def tWhile (c : TT) (tb : TS) : TS := fun D σ H => ∃ W : Nat → St → Hp → Prop, (∃ m, W m σ H) ∧ ∀ m σ H, W m σ H →
  c σ H fun b H1 => if b = true then ∃ N : St → Hp → Prop, (∀ σ' H', N σ' H' → ∃ m', m' < m ∧ W m' σ' H') ∧ tb { D with nx := N, ct := N, bk := D.nx } σ H1 else D.nx σ H1
theorem ps_while {c : Expr} {body : List Stmt} {tc : TT} {tb : TS} (hp : PassesOwn (model X.prog X.w) X.A X.env X.xe) (hc : PT X c tc) (hb : PSs X body tb) : PS X (.While c body [] pos) (tWhile tc tb) := by
  intro pins s σ H D I h
  obtain ⟨W, ⟨m0, w0⟩, turn⟩ := h
  refine wpAny_While (codeAny_whileLoop (fun n s' => ∃ σ' H', Inv X pins σ' H' s' ∧ W n σ' H') ?_ m0 ⟨σ, H, I, w0⟩)
  rintro n s1 ⟨σ1, H1, I1, w1⟩
  refine wpAny_passesOwn hp (thn (hc pins s1 σ1 H1 _ I1 (turn n σ1 H1 w1)) fun b s2 ⟨H2, I2, q2⟩ => ?_)
  cases b with
  | true =>
    obtain ⟨N, hN, q2⟩ := q2
    rw [if_pos rfl]
    refine wpAny_passesOwn hp (thn (hb pins s2 σ1 H2 _ I2 q2) fun f s3 q3 => ?_)
    cases f with
    | next =>
      obtain ⟨σ3, H3, I3, n3⟩ := q3
      obtain ⟨m', hm, w3⟩ := hN σ3 H3 n3
      exact ⟨m', hm, σ3, H3, I3, w3⟩
    | cont =>
      obtain ⟨σ3, H3, I3, n3⟩ := q3
      obtain ⟨m', hm, w3⟩ := hN σ3 H3 n3
      exact ⟨m', hm, σ3, H3, I3, w3⟩
    | brk => exact q3
    | ret v => exact q3
  | false =>
    rw [if_neg Bool.false_ne_true]
    exact wpAny_execs_nil ⟨σ1, H2, I2, q2⟩
end

structure It where
  go : Nat → Hp → Prop
  yld : Nat → Hp → V → Hp → Prop
  stop : Nat → Hp → Prop
def FpOk (X : Cx) (pins : List (Addr × Obj)) (H : Hp) (b : Addr) : Prop :=
  H b = none ∧ b ≠ X.env.locals ∧ b ∉ X.fs ∧ (b ∈ X.ex ∨ X.s₀.heap.objs.size ≤ b) ∧ (∀ x c, X.env.cells.lookup x = some c → c ≠ b) ∧ ∀ p ∈ X.pn ++ pins, p.1 ≠ b
theorem Inv.fpOk {X : Cx} {pins : List (Addr × Obj)} {σ : St} {H H' : Hp} {s : Shared} {b : Addr} (I : Inv X pins σ H s) (hb : s.heap.objs.size ≤ b) (hn : H' b = none) : FpOk X pins H' b := by
  refine ⟨hn, Nat.ne_of_gt (Nat.lt_of_lt_of_le I.lt hb), I.nofs hb, .inr (Nat.le_trans I.sz hb), fun x c e z => ?_, fun p hp z => ?_⟩
  · obtain ⟨v, q⟩ := I.cell x c e
    exact absurd (Nat.lt_of_lt_of_le q.lt (by rw [z]; exact hb)) (Nat.lt_irrefl _)
  · exact absurd (Nat.lt_of_lt_of_le (Heap.lt_size (I.pin p hp).1) (by rw [z]; exact hb)) (Nat.lt_irrefl _)
structure Turn (P : Program) (w : World) (K : PySem.W.Frag) (tg : Expr) (J : It) (fp : List Addr) (it : Addr) (tn : Nat → Heap → Prop) : Prop where
  mem : it ∈ fp
  obj : ∀ i h, tn i h → ∀ b ∈ fp, ∃ o, h.get? b = some o ∧ ∀ v, o.data ≠ .cell v
  keep : ∀ i h h', tn i h → (∀ b ∈ fp, ∀ o, h.get? b = some o → h'.get? b = some o) → tn i h'
  item : ∀ (X : Cx), X.prog = P → X.w = w → X.K = K → X.calm = true → ∀ (i : Nat) (pins : List (Addr × Obj)) (s : Shared) (σ : St) (H : Hp) (E : Value → Shared → Prop), Inv X pins σ H s → (∀ b ∈ fp, FpOk X pins H b) → tn i s.heap → J.go i H →
    wpAny (model P w) X.A (pyNext (.ref it)) (fun r s1 => ∃ u, r = some u ∧
      wpAny (model P w) X.A (letOwnedTupleGo tg (.ref it) u) (fun _ s2 => ∃ x H', Inv X pins σ H' s2 ∧ RelV x u ∧ J.yld i H x H' ∧ tn (i + 1) s2.heap ∧ ∀ b ∈ fp, H' b = none) E s1) E s
  done : ∀ (X : Cx), X.prog = P → X.w = w → X.K = K → X.calm = true → ∀ (i : Nat) (pins : List (Addr × Obj)) (s : Shared) (σ : St) (H : Hp) (E : Value → Shared → Prop), Inv X pins σ H s → (∀ b ∈ fp, FpOk X pins H b) → tn i s.heap → J.stop i H →
    wpAny (model P w) X.A (pyNext (.ref it)) (fun r s1 => r = none ∧ Inv X pins σ H s1) E s
  self : ∀ (A : Around) (i : Nat) (s : Shared) (Q : Value → Shared → Prop) (E : Value → Shared → Prop), tn i s.heap → Q (.ref it) s → wpAny (model P w) A (pyIter (.ref it)) Q E s
abbrev TI := St → Hp → (It → Hp → Prop) → Prop
def PIE (X : Cx) (pins : List (Addr × Obj)) (σ : St) (tg : Expr) (R : It → Hp → Prop) (itv : Value) (s2 : Shared) : Prop :=
  ∃ (it : Addr) (fp : List Addr) (tn : Nat → Heap → Prop) (J : It) (H' : Hp), itv = .ref it ∧ Inv X pins σ H' s2 ∧ Turn X.prog X.w X.K tg J fp it tn ∧ tn 0 s2.heap ∧ (∀ b ∈ fp, FpOk X pins H' b) ∧ R J H'
def PI (X : Cx) (tg iter : Expr) (wi : TI) : Prop :=
  ∀ (pins : List (Addr × Obj)) (s : Shared) (σ : St) (H : Hp) (R : It → Hp → Prop), Inv X pins σ H s → wi σ H R →
    wpAny (model X.prog X.w) X.A (eval iter X.env) (fun v s1 => wpAny (model X.prog X.w) X.A (pyIter v) (PIE X pins σ tg R) X.xe s1) X.xe s

theorem go_of {M : Model} {A : Around} {E : Value → Shared → Prop} {s : Shared} {tg : Expr} {it : Addr} {u : Value} {o : Obj} {n : String} {vs : Array Value} {Q : Unit → Shared → Prop} (ho : s.heap.get? it = some o) (hc : o.cls = .type n) (hd : o.data = .fields vs)
    (hn : ["enumerate", "zip", "dict_itemiterator", "dict_reverseitemiterator", "odict_iterator", "itertools.zip_longest", "itertools.pairwise"].contains n = false) (hQ : Q () s) : wpAny M A (letOwnedTupleGo tg (.ref it) u) Q E s := by
  unfold letOwnedTupleGo
  cases tg <;> first
    | exact wpAny_pure hQ
    | (cases u <;> first
        | exact wpAny_pure hQ
        | (refine wpAny_bind (wpAny_load ho ?_)
           rw [hc, hd]
           show wpAny M A (if (["enumerate", "zip", "dict_itemiterator", "dict_reverseitemiterator", "odict_iterator", "itertools.zip_longest", "itertools.pairwise"].contains n && vs[0]? == some (rawInt _)) = true then _ else _) Q E s
           rw [if_neg (by intro h; rw [hn, Bool.false_and] at h; cases h)]
           exact wpAny_pure hQ))

def Itl (K : PySem.W.Frag) (a : Addr) : It :=
  ⟨fun i H => ∃ xs x, SqL K H a xs ∧ xs[i]? = some x, fun i H x H' => H' = H ∧ ∀ xs, SqL K H a xs → xs[i]? = some x, fun i H => ∃ xs, SqL K H a xs ∧ xs.length ≤ i⟩
def Itt (K : PySem.W.Frag) (a : Addr) : It :=
  ⟨fun i H => ∃ xs x, SqT K H a xs ∧ xs[i]? = some x, fun i H x H' => H' = H ∧ ∀ xs, SqT K H a xs → xs[i]? = some x, fun i H => ∃ xs, SqT K H a xs ∧ xs.length ≤ i⟩
def Itr (lo : Int) (n : Nat) : It := ⟨fun i _ => i < n, fun i H x H' => H' = H ∧ x = .int (lo + i), fun i _ => n ≤ i⟩
theorem turn_list {P : Program} {w : World} {K : PySem.W.Frag} {tg : Expr} (a it : Addr) : Turn P w K tg (Itl K a) [it] it (fun i h => h.IsListIter it a i) where
  mem := by simp
  obj := fun i h st b hb => by
    have e : b = it := by simpa using hb
    subst e
    obtain ⟨o, e, c, d⟩ := st
    exact ⟨o, e, fun v z => by rw [d] at z; cases z⟩
  keep := fun i h h' st k => st.at fun o e => k it (by simp) o e
  item := by
    intro X hP hw hK hc i pins s σ H E I hf st hg
    subst hP hw hK
    obtain ⟨xs, x, hq, hx⟩ := hg
    obtain ⟨its, rv, p, hz⟩ := I.list hq
    obtain ⟨u, hu, ru⟩ := rv.get hx
    obtain ⟨f0, f1, f2, f3, f4, f5⟩ := hf it (by simp)
    refine wpAny_pyNext_list_item st p.isList (x := u) (by simpa using hu) fun h' st' sb => ?_
    have I1 : Inv X pins σ H { s with heap := h' } := I.turned (t' := s.toks) (fun b o hb e => (sb.2 b hb).trans e) f0 f1 f3 f4 f5
    obtain ⟨o, e, c, d⟩ := id st'
    exact ⟨u, rfl, go_of (s := { s with heap := h' }) e c d (by decide) ⟨x, H, I1, ru, ⟨rfl, fun ys hy => by rw [I.list_inj hy hq]; exact hx⟩, st', fun b hb => (hf b hb).1⟩⟩
  done := by
    intro X hP hw hK hc i pins s σ H E I hf st hg
    subst hP hw hK
    obtain ⟨xs, hq, hx⟩ := hg
    obtain ⟨its, rv, p, hz⟩ := I.list hq
    obtain ⟨f0, f1, f2, f3, f4, f5⟩ := hf it (by simp)
    have hl := rv.length
    exact wpAny_pyNext_list_end (I.ok.hd hc) st p.isList (by simp; omega) fun h' eb => ⟨rfl, I.turned (t' := s.toks) (fun b o hb e => eb b o hb e) f0 f1 f3 f4 f5⟩
  self := fun _ _ _ _ _ st h => wpAny_pyIter_listiter st h
theorem turn_tuple {P : Program} {w : World} {K : PySem.W.Frag} {tg : Expr} (a it : Addr) : Turn P w K tg (Itt K a) [it] it (fun i h => h.IsTupleIter it a i) where
  mem := by simp
  obj := fun i h st b hb => by
    have e : b = it := by simpa using hb
    subst e
    obtain ⟨o, e, c, d⟩ := st
    exact ⟨o, e, fun v z => by rw [d] at z; cases z⟩
  keep := fun i h h' st k => st.at fun o e => k it (by simp) o e
  item := by
    intro X hP hw hK hc i pins s σ H E I hf st hg
    subst hP hw hK
    obtain ⟨xs, x, hq, hx⟩ := hg
    obtain ⟨its, rv, p, hz⟩ := I.tuple hq
    obtain ⟨u, hu, ru⟩ := rv.get hx
    obtain ⟨f0, f1, f2, f3, f4, f5⟩ := hf it (by simp)
    refine wpAny_pyNext_tuple_item st (show s.heap.IsTuple a its.toArray from p) (x := u) (by simpa using hu) fun h' st' sb => ?_
    have I1 : Inv X pins σ H { s with heap := h' } := I.turned (t' := s.toks) (fun b o hb e => (sb.2 b hb).trans e) f0 f1 f3 f4 f5
    obtain ⟨o, e, c, d⟩ := id st'
    exact ⟨u, rfl, go_of (s := { s with heap := h' }) e c d (by decide) ⟨x, H, I1, ru, ⟨rfl, fun ys hy => by rw [I.tuple_inj hy hq]; exact hx⟩, st', fun b hb => (hf b hb).1⟩⟩
  done := by
    intro X hP hw hK hc i pins s σ H E I hf st hg
    subst hP hw hK
    obtain ⟨xs, hq, hx⟩ := hg
    obtain ⟨its, rv, p, hz⟩ := I.tuple hq
    obtain ⟨f0, f1, f2, f3, f4, f5⟩ := hf it (by simp)
    have hl := rv.length
    exact wpAny_pyNext_tuple_end (I.ok.hd hc) st (show s.heap.IsTuple a its.toArray from p) (by simp; omega) fun h' eb => ⟨rfl, I.turned (t' := s.toks) (fun b o hb e => eb b o hb e) f0 f1 f3 f4 f5⟩
  self := fun _ _ _ _ _ st h => wpAny_pyIter_tupleiter st h
theorem turn_range {P : Program} {w : World} {K : PySem.W.Frag} {tg : Expr} (it : Addr) (lo : Int) (n : Nat) : Turn P w K tg (Itr lo n) [it] it (fun i h => IsRangeIter h it (lo + (i : Nat) * 1) ((n : Int) - (i : Nat)) 1) where
  mem := by simp
  obj := fun i h st b hb => by
    have e : b = it := by simpa using hb
    subst e
    exact ⟨_, st, fun v z => by
      have z' : Data.fields _ = Data.cell v := z
      cases z'⟩
  keep := fun i h h' st k => k it (by simp) _ st
  item := by
    intro X hP hw hK hc i pins s σ H E I hf st hg
    subst hP hw hK
    obtain ⟨f0, f1, f2, f3, f4, f5⟩ := hf it (by simp)
    have W := Walks.range (prog := X.prog) (w := X.w) (I.ok.hd hc) it lo 1 n
    refine W.item i s _ _ hg st fun v h' tk hv st' kk => ?_
    obtain ⟨t, rfl⟩ := hv
    have I1 : Inv X pins σ H { s with heap := h', toks := tk } := I.turned (fun b o hb e => kk b o (by simpa using hb) e) f0 f1 f3 f4 f5
    refine ⟨_, rfl, go_of (s := { s with heap := h', toks := tk }) (n := "range_iterator") st' rfl rfl (by decide) ⟨.int (lo + i), H, I1, ⟨t, ?_⟩, ⟨rfl, rfl⟩, st', fun b hb => (hf b hb).1⟩⟩
    rw [Int.mul_one]
  done := by
    intro X hP hw hK hc i pins s σ H E I hf st hg
    subst hP hw hK
    obtain ⟨f0, f1, f2, f3, f4, f5⟩ := hf it (by simp)
    exact wpAny_pyNext_range_end (I.ok.hd hc) st (by have : n ≤ i := hg; omega) fun h' eb => ⟨rfl, I.turned (t' := s.toks) (fun b o hb e => eb b o hb e) f0 f1 f3 f4 f5⟩
  self := fun _ _ _ _ _ st h => wpAny_pyIter_rangeiter st h
end L2

namespace L2
open PySem PySem.Spec PyProof.Rows
section
variable {X : Cx} {tg : Expr}
theorem range_it {pins : List (Addr × Obj)} {σ : St} {H : Hp} {s : Shared} {R : It → Hp → Prop} {E : Value → Shared → Prop} {lo hi : Int} {t u v : Tok} {tk : Nat} (I : Inv X pins σ H s) (h1 : -(2 ^ 62) ≤ lo) (h2 : lo < 2 ^ 62) (h3 : -(2 ^ 62) ≤ hi) (h4 : hi < 2 ^ 62)
    (q : R (Itr lo (hi - lo).toNat) H) : wpAny (model X.prog X.w) X.A (pyIter (.ref s.heap.objs.size)) (PIE X pins σ tg R) E { s with heap := s.heap.push { cls := .type "range", data := .fields #[.int lo t, .int hi u, .int 1 v] }, toks := tk } := by
  refine wpAny_pyIter_range (IsRange.new ..) (small_one h1 h2 h3 h4) ?_
  have I1 : Inv X pins σ H { s with heap := s.heap.push { cls := .type "range", data := .fields #[.int lo t, .int hi u, .int 1 v] }, toks := tk } := I.kept fun b o e => Heap.get?_push_of_some _ e
  refine ⟨(s.heap.push { cls := .type "range", data := .fields #[.int lo t, .int hi u, .int 1 v] }).objs.size, [(s.heap.push { cls := .type "range", data := .fields #[.int lo t, .int hi u, .int 1 v] }).objs.size], _, _, H, rfl,
    I1.kept (t' := tk) fun b o e => Heap.get?_push_of_some _ e, turn_range _ lo (hi - lo).toNat, ?_, fun b hb => ?_, q⟩
  · have e1 : lo + ((0 : Nat) : Int) * 1 = lo := by simp
    have e2 : (((hi - lo).toNat : Nat) : Int) - ((0 : Nat) : Int) = Builtin.Range.rangeSize lo hi 1 := by rw [rangeSize_one]; split <;> omega
    show IsRangeIter _ _ (lo + ((0 : Nat) : Int) * 1) ((((hi - lo).toNat : Nat) : Int) - ((0 : Nat) : Int)) 1
    rw [e1, e2]
    exact Heap.get?_push_size _ rfl
  · have e : b = (s.heap.push { cls := .type "range", data := .fields #[.int lo t, .int hi u, .int 1 v] }).objs.size := by simpa using hb
    subst e
    exact I1.fpOk (Nat.le_refl _) (I1.hok.fresh (Nat.le_refl _))
def iRng1 (ta : TA) : TI := fun σ H R => ta σ H fun vs H1 => ∃ j : Int, vs = [.int j] ∧ -(2 ^ 62) ≤ j ∧ j < 2 ^ 62 ∧ R (Itr 0 j.toNat) H1
theorem pi_range1 {a : Expr} {ta : TA} {p pos : Pos} (hg : Gl X "range") (hm : X.mg "range" = none) (ha : PA X [a] ta) (hs : starEach [a] X.env = [(false, eval a X.env)] := by rfl) : PI X tg (.Call (.Name "range" p) [a] [] pos) (iRng1 ta) := by
  intro pins s σ H R I h
  refine Call_ (ld_blt I hg hm boot_range (PyProof.Rows.callWith_type1 (thn (ha pos pins s σ H _ I h) fun us s1 ⟨vs, H1, I1, r1, q1⟩ => ?_) hs rfl))
  obtain ⟨j, e, q1, q2, q⟩ := q1
  subst e
  cases r1 with
  | cons r rr =>
    cases rr
    obtain ⟨t, rfl⟩ := r
    exact call_range_1 (range_it I1 (by omega) (by omega) q1 q2 (by simpa using q))
def tFor (wi : TI) (g : TG) (tb : TS) : TS := fun D σ H => wi σ H fun J H1 => ∃ W : Nat → Nat → St → Hp → Prop, (∃ m, W 0 m σ H1) ∧ ∀ i m σ H, W i m σ H →
  (J.stop i H ∧ D.nx σ H) ∨ (J.go i H ∧ ∃ N : St → Hp → Prop, (∀ σ' H', N σ' H' → ∃ m', m' < m ∧ W (i + 1) m' σ' H') ∧ ∀ x H', J.yld i H x H' → g x σ H' fun σ2 H2 => tb { D with nx := N, ct := N, bk := D.nx } σ2 H2)
def pinsAt (fp : List Addr) (h : Heap) : List (Addr × Obj) := fp.filterMap fun b => (h.get? b).map fun o => (b, o)
theorem mem_pinsAt {fp : List Addr} {h : Heap} {b : Addr} {o : Obj} (hb : b ∈ fp) (e : h.get? b = some o) : (b, o) ∈ pinsAt fp h := List.mem_filterMap.mpr ⟨b, hb, by rw [e]; rfl⟩
theorem of_pinsAt {fp : List Addr} {h : Heap} {p : Addr × Obj} (hp : p ∈ pinsAt fp h) : p.1 ∈ fp ∧ h.get? p.1 = some p.2 := by
  obtain ⟨b, hb, e⟩ := List.mem_filterMap.mp hp
  cases q : h.get? b with
  | none => rw [q] at e; cases e
  | some o =>
    rw [q] at e
    have e' : (b, o) = p := Option.some.inj e
    subst e'
    exact ⟨hb, q⟩
theorem Inv.pinned {pins : List (Addr × Obj)} {σ : St} {H : Hp} {s : Shared} {fp : List Addr} (I : Inv X pins σ H s) (hf : ∀ b ∈ fp, FpOk X pins H b) (ho : ∀ b ∈ fp, ∃ o, s.heap.get? b = some o ∧ ∀ v, o.data ≠ .cell v) : Inv X (pins ++ pinsAt fp s.heap) σ H s :=
  I.pins_of fun p hp => (List.mem_append.mp hp).elim (fun z => I.pin p (List.mem_append_right _ z)) fun z => by
    obtain ⟨hb, e⟩ := of_pinsAt z
    obtain ⟨f0, f1, f2, _⟩ := hf p.1 hb
    obtain ⟨o, e', d⟩ := ho p.1 hb
    rw [e] at e'; cases e'
    exact ⟨e, f0, f1, f2, d⟩
theorem Inv.unpinned {pins pl : List (Addr × Obj)} {σ : St} {H : Hp} {s : Shared} (I : Inv X (pins ++ pl) σ H s) : Inv X pins σ H s := I.pins_of fun p hp => I.pin p (List.mem_append_right _ (List.mem_append_left _ hp))
theorem ps_for {iter : Expr} {body : List Stmt} {wi : TI} {g : TG} {tb : TS} {pos : Pos} (hp : PassesOwn (model X.prog X.w) X.A X.env X.xe) (hc : X.calm = true) (hi : PI X tg iter wi) (hg : PG X tg g) (hb : PSs X body tb)
    (hs : ∀ x, foldedSetIterable iter X.env x = pure x := by intro _; rfl) : PS X (.For tg iter body [] pos) (tFor wi g tb) := by
  intro pins s σ H D I h
  refine wpAny_For (thn (hi pins s σ H _ I h) fun v s1 h1 => thn h1 fun itv s2 h2 => ?_) hs
  obtain ⟨it, fp, tn, J, H2, e, I2, T, st2, f2, W, ⟨m0, w0⟩, turn⟩ := h2
  subst e
  -- what stays true of the iterator's objects through the loop
  have stat : ∀ {H' : Hp}, (∀ b ∈ fp, H' b = none) → ∀ b ∈ fp, FpOk X pins H' b := fun hn b hb => ⟨hn b hb, (f2 b hb).2⟩
  refine codeAny_forLoop_any (fun n s' => ∃ i σ' H', Inv X pins σ' H' s' ∧ tn i s'.heap ∧ (∀ b ∈ fp, H' b = none) ∧ W i n σ' H') ?_ m0 ⟨0, σ, H2, I2, st2, fun b hb => (f2 b hb).1, w0⟩
  rintro n s3 ⟨i, σ3, H3, I3, st3, fr3, w3⟩
  rcases turn i n σ3 H3 w3 with ⟨stop, qn⟩ | ⟨go, N, hN, step⟩
  · refine wpAny_passesOwn hp (thn (T.done X rfl rfl rfl hc i pins s3 σ3 H3 X.xe I3 (stat fr3) st3 stop) fun r s4 ⟨hr, I4⟩ => ?_)
    subst hr
    exact wpAny_execs_nil ⟨σ3, H3, I4, qn⟩
  · refine wpAny_passesOwn hp (thn (T.item X rfl rfl rfl hc i pins s3 σ3 H3 X.xe I3 (stat fr3) st3 go) fun r s4 ⟨u, hr, h4⟩ => ?_)
    subst hr
    refine wpAny_passesOwn hp (thn h4 fun _ s5 ⟨x, H5, I5, r5, y5, st5, fr5⟩ => ?_)
    have I5' := I5.pinned (stat fr5) (T.obj _ _ st5)
    refine wpAny_passesOwn hp (thn (hg _ s5 σ3 H5 x u _ I5' r5 (step x H5 y5)) fun _ s6 ⟨σ6, H6, I6, q6⟩ => ?_)
    refine wpAny_passesOwn hp (thn (hb _ s6 σ6 H6 _ I6 q6) fun f s7 q7 => ?_)
    have again : ∀ {σ7 : St} {H7 : Hp}, Inv X (pins ++ pinsAt fp s5.heap) σ7 H7 s7 → N σ7 H7 → ∃ m, m < n ∧ ∃ i σ' H', Inv X pins σ' H' s7 ∧ tn i s7.heap ∧ (∀ b ∈ fp, H' b = none) ∧ W i m σ' H' := fun {σ7 H7} I7 n7 => by
      obtain ⟨m', hm, w7⟩ := hN σ7 H7 n7
      refine ⟨m', hm, i + 1, σ7, H7, I7.unpinned, T.keep _ _ _ st5 fun b hb o e => (I7.pin (b, o) (List.mem_append_right _ (List.mem_append_right _ (mem_pinsAt hb e)))).1, fun b hb => ?_, w7⟩
      obtain ⟨o, e, d⟩ := T.obj _ _ st5 b hb
      exact (I7.pin (b, o) (List.mem_append_right _ (List.mem_append_right _ (mem_pinsAt hb e)))).2.1
    cases f with
    | next => obtain ⟨σ7, H7, I7, n7⟩ := q7; exact again I7 n7
    | cont => obtain ⟨σ7, H7, I7, n7⟩ := q7; exact again I7 n7
    | brk => obtain ⟨σ7, H7, I7, q7⟩ := q7; exact ⟨σ7, H7, I7.unpinned, q7⟩
    | ret v => obtain ⟨x7, σ7, H7, I7, r7, q7⟩ := q7; exact ⟨x7, σ7, H7, I7.unpinned, r7, q7⟩
end

theorem while_by {c : TT} {tb : TS} {D : Ends} {σ : St} {H : Hp} (Pv : St → Hp → Prop) (μ : St → Hp → Nat) (h0 : Pv σ H)
    (hs : ∀ σ H, Pv σ H → c σ H fun b H1 => if b = true then tb { D with nx := fun σ' H' => Pv σ' H' ∧ μ σ' H' < μ σ H, ct := fun σ' H' => Pv σ' H' ∧ μ σ' H' < μ σ H, bk := D.nx } σ H1 else D.nx σ H1)
    (mono : ∀ σ H Q Q', (∀ b H1, Q b H1 → Q' b H1) → c σ H Q → c σ H Q') : tWhile c tb D σ H := by
  refine ⟨fun m σ H => m = μ σ H ∧ Pv σ H, ⟨_, rfl, h0⟩, ?_⟩
  rintro m σ H ⟨rfl, p⟩
  refine mono σ H _ _ (fun b H1 q => ?_) (hs σ H p)
  cases b with
  | true => exact ⟨_, fun σ' H' ⟨p', l⟩ => ⟨_, l, rfl, p'⟩, q⟩
  | false => exact q
end L2

namespace L2
open PySem PySem.Spec PyProof.Rows

abbrev R2 := V → V → Hp → VK → Prop
def OpR (X : Cx) (f : Value → Value → Sem Value) (r : R2) : Prop :=
  ∀ (pins : List (Addr × Obj)) (s : Shared) (σ : St) (H : Hp) (x y : V) (v u : Value) (Q : VK), Inv X pins σ H s → RelV x v → RelV y u → r x y H Q →
    wpAny (model X.prog X.w) X.A (f v u) (EP X pins σ Q) X.xe s
def UnR (X : Cx) (f : Value → Sem Value) (r : V → Hp → VK → Prop) : Prop :=
  ∀ (pins : List (Addr × Obj)) (s : Shared) (σ : St) (H : Hp) (x : V) (v : Value) (Q : VK), Inv X pins σ H s → RelV x v → r x H Q →
    wpAny (model X.prog X.w) X.A (f v) (EP X pins σ Q) X.xe s
def CallR (X : Cx) (f : Value) (r : List V → Hp → VK → Prop) : Prop :=
  ∀ (pins : List (Addr × Obj)) (s : Shared) (σ : St) (H : Hp) (xs : List V) (us : List Value) (Q : VK), Inv X pins σ H s → Vals xs us → r xs H Q →
    wpAny (model X.prog X.w) X.A (call f us) (EP X pins σ Q) X.xe s
def tOp (r : R2) (ta tb : TE) : TE := fun σ H Q => ta σ H fun x H1 => tb σ H1 fun y H2 => r x y H2 Q
def tUn (r : V → Hp → VK → Prop) (ta : TE) : TE := fun σ H Q => ta σ H fun x H1 => r x H1 Q
def rI (C : Int → Int → Prop) (g : Int → Int → V) : R2 := fun x y H Q => ∃ i j, x = .int i ∧ y = .int j ∧ C i j ∧ Q (g i j) H
def rI0 (g : Int → Int → V) : R2 := fun x y H Q => ∃ i j, x = .int i ∧ y = .int j ∧ Q (g i j) H
def rU (g : Int → V) : V → Hp → VK → Prop := fun x H Q => ∃ i, x = .int i ∧ Q (g i) H

section
variable {X : Cx} {a b c : Expr} {ta tb tc : TE} {pos : Pos}

theorem binT (ha : PE X a ta) (hb : PE X b tb) {pins : List (Addr × Obj)} {s : Shared} {σ : St} {H : Hp} {R : V → V → Hp → Prop} (I : Inv X pins σ H s)
    (h : ta σ H fun x H1 => tb σ H1 fun y H2 => R x y H2) {Q : Value → Shared → Prop} {f : Value → Value → Sem Value}
    (hf : ∀ v u s2 x y H2, Inv X pins σ H2 s2 → RelV x v → RelV y u → R x y H2 → wpAny (model X.prog X.w) X.A (f v u) Q X.xe s2) :
    wpAny (model X.prog X.w) X.A (eval a X.env) (fun v s₁ => wpAny (model X.prog X.w) X.A (eval b X.env) (fun u s₂ => wpAny (model X.prog X.w) X.A (f v u) Q X.xe s₂) X.xe s₁) X.xe s := by
  refine thn (ha pins s σ H _ I h) fun v s1 ⟨x, H1, I1, r1, q1⟩ => ?_
  refine thn (hb pins s1 σ H1 _ I1 q1) fun u s2 ⟨y, H2, I2, r2, q2⟩ => ?_
  exact hf v u s2 x y H2 I2 r1 r2 q2

theorem pe_op {op : Operator} {r : R2} (ho : OpR X (binaryOp op) r) (ha : PE X a ta) (hb : PE X b tb) : PE X (.BinOp a op b pos) (tOp r ta tb) := by
  intro pins s σ H Q I h
  exact wpAny_BinOp (binT ha hb I h fun v u s2 x y H2 I2 rx ry q => ho pins s2 σ H2 x y v u Q I2 rx ry q)
theorem pe_un {op : UnaryOp} {r : V → Hp → VK → Prop} (ho : UnR X (unaryOp op) r) (ha : PE X a ta) : PE X (.UnaryOp op a pos) (tUn r ta) := by
  intro pins s σ H Q I h
  exact UnaryOp_ (thn (ha pins s σ H _ I h) fun v s1 ⟨x, H1, I1, r1, q1⟩ => ho pins s1 σ H1 x v Q I1 r1 q1)
theorem opI {f : Value → Value → Sem Value} {C : Int → Int → Prop} {g : Int → Int → Int}
    (rule : ∀ (i j : Int) (t u : Tok) (s : Shared) (Q : Value → Shared → Prop) (E : Value → Shared → Prop), C i j → Q (.int (g i j) s.toks) { s with toks := s.toks + 1 } → wpAny (model X.prog X.w) X.A (f (.int i t) (.int j u)) Q E s) :
    OpR X f (rI C fun i j => .int (g i j)) := by
  intro pins s σ H x y v u Q I rx ry h
  obtain ⟨i, j, rfl, rfl, hc, q⟩ := h
  obtain ⟨t, rfl⟩ := rx
  obtain ⟨t', rfl⟩ := ry
  exact rule i j t t' s _ _ hc ⟨.int (g i j), H, I.tok _, ⟨_, rfl⟩, q⟩
theorem opI0 {f : Value → Value → Sem Value} {g : Int → Int → Int}
    (rule : ∀ (i j : Int) (t u : Tok) (s : Shared) (Q : Value → Shared → Prop) (E : Value → Shared → Prop), Q (.int (g i j) s.toks) { s with toks := s.toks + 1 } → wpAny (model X.prog X.w) X.A (f (.int i t) (.int j u)) Q E s) :
    OpR X f (rI0 fun i j => .int (g i j)) := by
  intro pins s σ H x y v u Q I rx ry h
  obtain ⟨i, j, rfl, rfl, q⟩ := h
  obtain ⟨t, rfl⟩ := rx
  obtain ⟨t', rfl⟩ := ry
  exact rule i j t t' s _ _ ⟨.int (g i j), H, I.tok _, ⟨_, rfl⟩, q⟩
theorem opB0 {f : Value → Value → Sem Value} {g : Int → Int → Bool}
    (rule : ∀ (i j : Int) (t u : Tok) (s : Shared) (Q : Value → Shared → Prop) (E : Value → Shared → Prop), Q (.bool (g i j)) s → wpAny (model X.prog X.w) X.A (f (.int i t) (.int j u)) Q E s) :
    OpR X f (rI0 fun i j => .bl (g i j)) := by
  intro pins s σ H x y v u Q I rx ry h
  obtain ⟨i, j, rfl, rfl, q⟩ := h
  obtain ⟨t, rfl⟩ := rx
  obtain ⟨t', rfl⟩ := ry
  exact rule i j t t' s _ _ ⟨.bl (g i j), H, I, rfl, q⟩

def CPow (i j : Int) : Prop := 0 ≤ j ∧ j ≤ 1000000 ∧ i.natAbs < 2 ^ 64
def CMul (i j : Int) : Prop := (-(2 ^ 64) < i ∧ i < 2 ^ 64) ∨ (-(2 ^ 64) < j ∧ j < 2 ^ 64)
theorem CMul.ok {i j : Int} (h : CMul i j) : IntMulOk i j := by
  rcases h with ⟨h1, h2⟩ | ⟨h1, h2⟩
  · exact .of_left (intBits_le_64 h1 h2)
  · exact .of_right (intBits_le_64 h1 h2)
theorem op_add : OpR X (binaryOp .Add) (rI0 fun i j => .int (i + j)) := opI0 fun _ _ _ _ _ _ _ q => add_int q
theorem op_sub : OpR X (binaryOp .Sub) (rI0 fun i j => .int (i - j)) := opI0 fun _ _ _ _ _ _ _ q => sub_int q
theorem op_modN : OpR X (binaryOp .Mod) (rI (fun _ j => j ≠ 0) fun i j => .int (i.fmod j)) := opI fun _ _ _ _ _ _ _ hc q => mod_int' hc q
theorem op_pow : OpR X (binaryOp .Pow) (rI CPow fun i j => .int (i ^ j.toNat)) := opI fun _ _ _ _ _ _ _ hc q => pow_int_small hc.1 hc.2.1 hc.2.2 q
theorem unI {f : Value → Sem Value} {g : Int → Int}
    (rule : ∀ (i : Int) (t : Tok) (s : Shared) (Q : Value → Shared → Prop) (E : Value → Shared → Prop), Q (.int (g i) s.toks) { s with toks := s.toks + 1 } → wpAny (model X.prog X.w) X.A (f (.int i t)) Q E s) :
    UnR X f (rU fun i => .int (g i)) := by
  intro pins s σ H x v Q I rx h
  obtain ⟨i, rfl, q⟩ := h
  obtain ⟨t, rfl⟩ := rx
  exact rule i t s _ _ ⟨.int (g i), H, I.tok _, ⟨_, rfl⟩, q⟩
theorem un_neg : UnR X (unaryOp .USub) (rU fun i => .int (-i)) := unI fun _ _ _ _ _ q => neg_int q
end

section
variable {X : Cx} {a b c : Expr} {ta tb tc : TE} {pos : Pos}
theorem fin_bl {pins : List (Addr × Obj)} {σ : St} {H : Hp} {s : Shared} {Q : VK} {k k' : Bool} (I : Inv X pins σ H s) (q : Q (.bl k) H) (e : k = k') : EP X pins σ Q (.bool k') s := by
  subst e
  exact ⟨.bl k, H, I, rfl, q⟩
theorem op_lt : OpR X (compareOp .Lt) (rI0 fun i j => .bl (decide (i < j))) := opB0 fun _ _ _ _ _ _ _ q => lt_int q
theorem op_gt : OpR X (compareOp .Gt) (rI0 fun i j => .bl (decide (j < i))) := opB0 fun _ _ _ _ _ _ _ q => gt_int q
theorem op_isN : OpR X (compareOp .Is) (fun x y H Q => y = .non ∧ Q (.bl (decide (x = .non))) H) := by
  intro pins s σ H x y v u Q I rx ry h
  obtain ⟨rfl, q⟩ := h
  cases ry
  refine is_none_gen (fin_bl I q ?_)
  cases x <;> first
    | (cases rx; rfl)
    | (obtain ⟨t, rfl⟩ := rx; rfl)
theorem nomark (b : Expr) {op : CmpOp} (h : op ≠ .In := by decide) (h2 : op ≠ .NotIn := by decide) : behindInMarks op b = false := by
  have e1 : (op == CmpOp.In) = false := by cases op <;> first | rfl | exact absurd rfl h
  have e2 : (op == CmpOp.NotIn) = false := by cases op <;> first | rfl | exact absurd rfl h2
  cases b <;> simp [behindInMarks, e1, e2]
theorem pe_cmpR {op : CmpOp} {r : R2} (ho : OpR X (compareOp op) r) (ha : PE X a ta) (hb : PE X b tb) (hm : behindInMarks op b = false) : PE X (.Compare a [op] [b] pos) (tOp r ta tb) := by
  intro pins s σ H Q I h
  exact wpAny_Compare1 (binT ha hb I h fun v u s2 x y H2 I2 rx ry q => ho pins s2 σ H2 x y v u Q I2 rx ry q) hm
def tTest (t : TE) : TT := fun σ H Q => t σ H fun x H' => ∃ k, x = .bl k ∧ Q k H'
theorem pt_cmpR {op : CmpOp} {r : R2} (ho : OpR X (compareOp op) r) (ha : PE X a ta) (hb : PE X b tb) (hm : behindInMarks op b = false) : PT X (.Compare a [op] [b] pos) (tTest (tOp r ta tb)) := by
  intro pins s σ H Q I h
  refine wpAny_isTrue_Compare1 (thn (ha pins s σ H _ I h) fun v s1 ⟨x, H1, I1, r1, q1⟩ => thn (hb pins s1 σ H1 _ I1 q1) fun u s2 ⟨y, H2, I2, r2, q2⟩ =>
    thn (ho pins s2 σ H2 x y v u _ I2 r1 r2 q2) fun c s3 ⟨z, H3, I3, r3, k, e, q3⟩ => ?_) hm
  subst e
  cases r3
  exact wpAny_truthy_bool ⟨H3, I3, q3⟩
theorem line63 : (sizeLine : Nat) < 2 ^ 63 := by rw [sizeLine_eq]; decide
theorem vals1 {x : V} {us : List Value} (r : Vals [x] us) : ∃ u, us = [u] ∧ RelV x u := by
  cases r with
  | cons r1 r2 => cases r2; exact ⟨_, rfl, r1⟩
theorem vals2 {x y : V} {us : List Value} (r : Vals [x, y] us) : ∃ u w', us = [u, w'] ∧ RelV x u ∧ RelV y w' := by
  cases r with
  | cons r1 r2 =>
    cases r2 with
    | cons r3 r4 => cases r4; exact ⟨_, _, rfl, r1, r3⟩
theorem call_abs : CallR X (.builtin "abs") (fun xs H Q => ∃ i, xs = [.int i] ∧ Q (.int (if i < 0 then -i else i)) H) := by
  intro pins s σ H xs us Q I r h
  obtain ⟨i, rfl, q⟩ := h
  obtain ⟨u, rfl, t, rfl⟩ := vals1 r
  exact call_abs_int fun u tk => ⟨.int (if i < 0 then -i else i), H, I.tok _, ⟨_, rfl⟩, q⟩
end
end L2

namespace L2
open PySem PySem.Spec PyProof.Rows

structure ObjM (h : Heap) (x dx C : Addr) (mA : Str → Option Value) : Prop where
  obj : h.get? x = some (PySem.W.instObj C dx)
  ns : h.Ns1 dx mA
  ne : dx ≠ x

theorem lookIn_ns {h : Heap} {dx : Addr} {mA : Str → Option Value} (n : h.Ns1 dx mA) : ∃ od, h.get? dx = some od ∧ ∀ name, PySem.W.lookIn name od = some (mA name) := by
  obtain ⟨o, es, ep, ho, hd, hk, _, hm⟩ := n
  refine ⟨o, ho, fun name => ?_⟩
  have e := hm name
  unfold nsFind findBy at e
  rw [← Array.find?_toList] at e
  unfold PySem.W.lookIn
  rw [hd]
  dsimp only
  split
  · rename_i y q
    rw [q] at e
    exact congrArg some e
  · rename_i q
    rw [q] at e
    have a : es.toList.any (·.refKey) = false := by
      rw [List.any_eq_false]
      intro y hy
      obtain ⟨z, t, hkey⟩ := hk y (Array.mem_toList_iff.mp hy)
      simp [DictEntry.refKey, hkey]
    have a' : ¬ es.toList.any (·.refKey) = true := by rw [a]; exact Bool.false_ne_true
    rw [if_neg a']
    exact congrArg some e

theorem ObjM.look {h : Heap} {x dx C : Addr} {mA : Str → Option Value} (I : ObjM h x dx C mA) : ∃ od, PySem.W.InstAt h x (PySem.W.instObj C dx) C (some od) ∧ ∀ name, PySem.W.lookIn name od = some (mA name) :=
  let ⟨od, ho, hl⟩ := lookIn_ns I.ns
  ⟨od, ⟨I.obj, rfl, rfl, ho⟩, hl⟩

section
variable {prog : Program} {w : World} {A : Around} {E : Value → Shared → Prop} {s : Shared} {K : PySem.W.Frag} {x dx C f : Addr} {mA : Str → Option Value} {name : Str} {v : Value}

end

section
variable {P : Program} {w : World} {H H' : Hp} {h h' : Heap} {a C dx : Addr} {fs fs' : List (Str × V)}
theorem ins_get (hok : HOk P w H h) (e : H a = some (.ins C dx fs)) : ∃ mA, ObjM h a dx C mA ∧ (∀ f, RelO (fs.lookup f) (mA f)) ∧ PySem.Within mA (fs.map (·.1)) ∧ fs.length ≤ 1000 ∧ H dx = some (.own a) := by
  obtain ⟨d, z, ne, ob, mA, n, r, q⟩ := (show ObjOk P w H h a (.ins C dx fs) from hok a _ e)
  exact ⟨mA, ⟨ob, n, ne⟩, r, q, z, d⟩
end

structure Cls (K : PySem.W.Frag) (C : Addr) : Prop where
  pg : PySem.W.plainGet K C Str.empty = true
  hd : PySem.W.hasDictIn K C = true
  po : PySem.W.plainOver K C = true
  sa : PySem.W.findIn K (.ref C) "__setattr__" = some (some (.builtin "object.__setattr__"))
theorem Cls.get {K : PySem.W.Frag} {C : Addr} (c : Cls K C) (f : Str) : PySem.W.plainGet K C f = true := c.pg
section
variable {X : Cx} {pins : List (Addr × Obj)} {σ : St} {H : Hp} {s : Shared} {a C dx : Addr} {fs : List (Str × V)} {f : Str} {v : V} {A : Around} {E : Value → Shared → Prop}

end

section
variable {X : Cx} {o e value : Expr} {f : Str} {pos pos' tpos : Pos} {ta tv : TE}
end

section
variable {X : Cx} {pins : List (Addr × Obj)} {σ : St} {H : Hp} {s : Shared} {A : Around} {E : Value → Shared → Prop} {Q : Value → Shared → Prop} {c : Value} {b : Bool}
inductive TyOf (K : PySem.W.Frag) (H : Hp) : V → Value → Prop where
  | non : TyOf K H .non (.type "NoneType")
  | bl (x : Bool) : TyOf K H (.bl x) (.type "bool")
  | int (i : Int) : TyOf K H (.int i) (.type "int")
  | str (x : Str) : TyOf K H (.str x) (.type "str")
  | flt (x : UInt64) : TyOf K H (.flt x) (.type "float")
  | lst {a : Addr} {xs : List V} (e : H a = some (.lst xs)) : TyOf K H (.ref a) (.type "list")
  | frz {a : Addr} {o : Obj} {xs : List V} (e : H a = some (.frz o (.lst xs))) : TyOf K H (.ref a) (.type "list")
  | tup {a : Addr} {xs : List V} (e : H a = some (.tup xs)) : TyOf K H (.ref a) (.type "tuple")
  | dK {a : Addr} {kvs : List (Key × V)} (e : H a = some (.dK kvs)) : TyOf K H (.ref a) (.type "dict")
  | dT {a : Addr} {kvs : List (List Key × V)} (e : H a = some (.dT kvs)) : TyOf K H (.ref a) (.type "dict")
  | ins {a C dx : Addr} {fs : List (Str × V)} (e : H a = some (.ins C dx fs)) (cl : Cls K C) (ha : PySem.W.findIn K (.ref C) "__class__" = some (some (.builtin "object.__class__")))
      (hn : PySem.W.specialIn K (.builtin "object.__class__") "__get__" = some (some (.builtin "getset_descriptor.__get__"))) (htk : PySem.W.takesIn K (.builtin "object.__class__") = some true)
      (hm : PySem.W.mroIn K C (.type "object") = some true) : TyOf K H (.ref a) (.ref C)
theorem isinst_ok {x : V} {u t : Value} (I : Inv X pins σ H s) (rx : RelV x u) (ty : TyOf X.K H x t) (e : PySem.W.kitOne X.K t c = some b) (h : ∀ tk, Q (.bool b) { s with toks := tk }) :
    wpAny (model X.prog X.w) A (call (.builtin "isinstance") [u, c]) Q E s := by
  cases ty with
  | non => cases (show u = Value.none from rx); exact PySem.W.kia_one PySem.W.kitx_none I.kIn True.intro e (fun z => nomatch z) h
  | bl y => cases (show u = Value.bool y from rx); exact PySem.W.kia_one PySem.W.kitx_bool I.kIn True.intro e (fun z => nomatch z) h
  | int i => obtain ⟨t, q⟩ := (show ∃ t, u = Value.int i t from rx); cases q; exact PySem.W.kia_one PySem.W.kitx_int I.kIn True.intro e (fun z => nomatch z) h
  | str y => obtain ⟨t, q⟩ := (show ∃ t, u = Value.str y t from rx); cases q; exact PySem.W.kia_one PySem.W.kitx_str I.kIn True.intro e (fun z => nomatch z) h
  | flt y => obtain ⟨t, q⟩ := (show ∃ t, u = Value.float y t from rx); cases q; exact PySem.W.kia_one PySem.W.kitx_float I.kIn True.intro e (fun z => nomatch z) h
  | @lst a xs ea =>
    cases (show u = Value.ref a from rx)
    obtain ⟨_, _, n, _, h1⟩ := (show ObjOk X.prog X.w H s.heap a (.lst xs) from I.hok a _ ea)
    exact PySem.W.kia_one PySem.W.kitx_list I.kIn ⟨_, h1, rfl⟩ e (fun z => nomatch z) h
  | @frz a ob xs ea =>
    cases (show u = Value.ref a from rx)
    obtain ⟨_, _, _, n, _, h1⟩ := (show ObjOk X.prog X.w H s.heap a (.frz ob (.lst xs)) from I.hok a _ ea)
    exact PySem.W.kia_one PySem.W.kitx_list I.kIn ⟨_, h1, rfl⟩ e (fun z => nomatch z) h
  | @tup a xs ea =>
    cases (show u = Value.ref a from rx)
    obtain ⟨_, _, _, p⟩ := (show ObjOk X.prog X.w H s.heap a (.tup xs) from I.hok a _ ea)
    obtain ⟨o, h1, h2, _⟩ := p
    exact PySem.W.kia_one PySem.W.kitx_tuple I.kIn ⟨o, h1, h2⟩ e (fun z => nomatch z) h
  | @dK a kvs ea =>
    cases (show u = Value.ref a from rx)
    obtain ⟨_, _, vs, _, p⟩ := (show ObjOk X.prog X.w H s.heap a (.dK kvs) from I.hok a _ ea)
    obtain ⟨o, es, ep, h1, h2, _⟩ := p
    exact PySem.W.kia_one PySem.W.kitx_dict I.kIn ⟨o, h1, h2.1⟩ e (fun z => nomatch z) h
  | @dT a kvs ea =>
    cases (show u = Value.ref a from rx)
    obtain ⟨_, _, xs, _, o, es, ep, h1, h2, _⟩ := (show ObjOk X.prog X.w H s.heap a (.dT kvs) from I.hok a _ ea)
    exact PySem.W.kia_one PySem.W.kitx_dict I.kIn ⟨o, h1, h2.1⟩ e (fun z => nomatch z) h
  | @ins a C dx fs ea cl ha hn htk hm =>
    cases (show u = Value.ref a from rx)
    obtain ⟨mA, O, _⟩ := ins_get I.hok ea
    obtain ⟨od, J, _⟩ := O.look
    exact PySem.W.kia_one (PySem.W.kitx_own (cl.get _) cl.hd ha hn htk hm) I.kIn J e (fun z => nomatch z) h
end
end L2

namespace L2
open PySem PySem.Spec PyProof.Rows

structure Room (k : Nat) (A : Around) : Prop where
  hd : A.handled = none
  dp : A.depth + 3 * k + 5 < recursionLimit
  un : A.units + 16 * k + 200 < cLine
theorem Room.mono {j k : Nat} {A : Around} (r : Room k A) (h : j ≤ k) : Room j A := ⟨r.hd, by have := r.dp; omega, by have := r.un; omega⟩
theorem Room.deeper {k : Nat} {A : Around} (r : Room (k + 1) A) (env : Env) : Room k (A.deeper env) :=
  ⟨r.hd, by have := r.dp; show A.depth + 1 + 3 * k + 5 < _; omega, by have := r.un; show A.units + 3 + 16 * k + 200 < _; omega⟩
theorem Room.depth {k : Nat} {A : Around} (r : Room k A) : A.depth < recursionLimit := by have := r.dp; omega
theorem Room.units {k : Nat} {A : Around} (r : Room k A) : A.units + 64 < cLine := by have := r.un; omega
def tNil : TA := fun _ H Q => Q [] H
def tCons (ta : TE) (tr : TA) : TA := fun σ H Q => ta σ H fun x H1 => tr σ H1 fun xs H2 => Q (x :: xs) H2
section
variable {X : Cx} {e : Expr} {es : List Expr} {te : TE} {t : TA} {pos : Pos}
theorem pa_nil : PA X [] tNil := fun _ _ _ _ H Q I h => Calls.spliced_nil ⟨[], H, I, .nil, h⟩
theorem pa_cons (ha : PE X e te) (hr : PA X es t) (hs : starEach (e :: es) X.env = (false, eval e X.env) :: starEach es X.env := by rfl) : PA X (e :: es) (tCons te t) := by
  intro pos pins s σ H Q I h
  rw [hs]
  show wpAny _ _ (spliced ((false, eval e X.env) :: backTo pos (starEach es X.env))) _ _ s
  refine Calls.spliced_cons (thn (ha pins s σ H _ I h) fun u s1 ⟨x, H1, I1, r1, q1⟩ => ?_)
  exact thn (hr pos pins s1 σ H1 _ I1 q1) fun us s2 ⟨xs, H2, I2, r2, q2⟩ => ⟨x :: xs, H2, I2, .cons r1 r2, q2⟩

def tTup (t : TA) : TE := fun σ H Q => t σ H fun xs H1 => xs.length ≤ sizeLine ∧ ∀ p, H1 p = none → Q (.ref p) (upd H1 p (.tup xs))
def tLst (t : TA) : TE := fun σ H Q => t σ H fun xs H1 => xs.length ≤ sizeLine ∧ ∀ p, H1 p = none → Q (.ref p) (upd H1 p (.lst xs))
theorem pe_tup {x1} (h : PA X es t) : PE X (.Tuple es x1 pos) (tTup t) := by
  intro pins s σ H Q I hq
  refine wpAny_Tuple_spliced (thn (h pos pins s σ H _ I hq) fun us s1 ⟨xs, H1, I1, r, z, q⟩ => ⟨by rw [← r.length]; exact z, ?_⟩)
  have hf : H1 s1.heap.objs.size = none := I1.hok.fresh (Nat.le_refl _)
  refine ⟨.ref s1.heap.objs.size, upd H1 s1.heap.objs.size (.tup xs), I1.laid (t' := s1.toks) (fun b u e => Heap.get?_push_of_some _ e) (Nat.le_refl _) ?_, rfl, q _ hf⟩
  exact ⟨z, us, r, ⟨_, Heap.get?_push_size _ rfl, rfl, _, rfl⟩⟩
theorem pe_lst (h : PA X es t) : PE X (.List es pos) (tLst t) := by
  intro pins s σ H Q I hq
  refine wpAny_List_spliced (thn (h pos pins s σ H _ I hq) fun us s1 ⟨xs, H1, I1, r, z, q⟩ => ⟨by rw [← r.length]; exact z, ?_⟩)
  have hf : H1 s1.heap.objs.size = none := I1.hok.fresh (Nat.le_refl _)
  refine ⟨.ref s1.heap.objs.size, upd H1 s1.heap.objs.size (.lst xs), I1.laid (t' := s1.toks) (fun b u e => Heap.get?_push_of_some _ e) (Nat.le_refl _) ?_, rfl, q _ hf⟩
  exact ⟨z, us, 0, r, Heap.get?_push_size _ rfl⟩
end

abbrev Sp := List V → Hp → VK → XK → Prop
abbrev CXT := List Env → Hp → Shared → XK → Value → Shared → Prop

structure Env0 (P : Program) (w : World) (K : PySem.W.Frag) (mg : Str → Option Value) (base : Heap) (A : Around) (outer : List Env) (s : Shared) (H : Hp) : Prop where
  frames : A.frames = some outer
  mod : Mod K mg base
  bs : ∀ b o, base.get? b = some o → s.heap.get? b = some o ∧ H b = none
  bsz : base.objs.size ≤ s.heap.objs.size
  funs : s.heap.FunFrames base outer
  frf : ∀ b ∈ frs outer, H b = none
  hok : HOk P w H s.heap
  bare : AllBare s.gens
def CE (outer : List Env) (P : Program) (w : World) (H : Hp) (s : Shared) (Q : VK) (u : Value) (s' : Shared) : Prop :=
  ∃ v H', s'.os = s.os ∧ AllBare s'.gens ∧ Un (frs outer) [] H H' s.heap s'.heap ∧ HOk P w H' s'.heap ∧ RelV v u ∧ Q v H'
def CR (CX : CXT) (outer : List Env) (P : Program) (w : World) (H : Hp) (s : Shared) (Q : VK) (E : XK) (r : Result) (s' : Shared) : Prop :=
  match r with
  | .ok (.ret u) => CE outer P w H s Q u s'
  | .ok _ => False
  | .error e => CX outer H s E e s'
structure FnOk (P : Program) (w : World) (K : PySem.W.Frag) (mg : Str → Option Value) (base : Heap) (CX : CXT) (k : Nat) (f : Addr) (fd : FuncData) (ps : List Str) (sp : Sp) : Prop where
  len : ∀ vs H Q E, sp vs H Q E → vs.length = ps.length
  run : ∀ (A : Around) (outer : List Env) (s : Shared) (H : Hp) (args : Args) (us : List Value) (vs : List V) (Q : VK) (E : XK), Room k A → Env0 P w K mg base A outer s H → BindsTo s fd args (ps.zip us) → Vals vs us → sp vs H Q E →
    codeAny (model P w) A (.call (.ref f) args) (CR CX outer P w H s Q E) s
section
variable {X : Cx} {pins : List (Addr × Obj)} {σ : St} {H : Hp} {s s' : Shared}
theorem Inv.env0 (I : Inv X pins σ H s) : Env0 X.prog X.w X.K X.mg X.base X.A X.stack s H :=
  ⟨I.ok.frames, I.ok.mod, I.bs, Nat.le_trans I.ok.bsz I.sz, I.stack, I.stkFree, I.hok, I.bare⟩
theorem Inv.after {Q : VK} {u : Value} (I : Inv X pins σ H s) (h : CE X.stack X.prog X.w H s Q u s') : EP X pins σ Q u s' := by
  obtain ⟨v, H', os, bare, un, hok, r, q⟩ := h
  obtain ⟨hh, g, d, t, os'⟩ := s'
  obtain rfl : os' = s.os := os
  exact ⟨v, H', I.call (h' := hh) (g' := g) (d' := d) (t' := t) (ch := []) un hok bare (fun b z => absurd z (by simp)), r, q⟩
end

def tCall (sp : Sp) (dvs : List V) (E : XK) (t : TA) : TE := fun σ H Q => t σ H fun vs H1 => sp (vs ++ dvs) H1 Q E
def Binds (K : PySem.W.Frag) (fd : FuncData) (ps : List Str) (ds : List Value) : Prop :=
  ∀ (s : Shared) (us : List Value), K.In s.heap → (us ++ ds).length = ps.length → BindsTo s fd ⟨us, []⟩ (ps.zip (us ++ ds))
theorem Binds.all {K : PySem.W.Frag} {fd : FuncData} {ps : List Str} (h : ∀ us : List Value, us.length = ps.length → bindArgs fd ⟨us, []⟩ = pure (ps.zip us)) : Binds K fd ps [] := fun s us _ hl => by
  rw [List.append_nil] at hl ⊢
  exact .of_eq (h us hl)

def Passes (CX : CXT) (X : Cx) (E : XK) : Prop := ∀ (pins : List (Addr × Obj)) (σ : St) (H : Hp) (s : Shared) (e : Value) (s' : Shared), Inv X pins σ H s → CX X.stack H s E e s' → X.xe e s'

section
variable {X : Cx} {CX : CXT} {k : Nat} {f C : Addr} {fd : FuncData} {ps : List Str} {sp : Sp} {dvs : List V} {ds : List Value} {E : XK} {x m : Str} {p pos apos : Pos} {e o : Expr} {es : List Expr} {ta : TE} {t : TA}

theorem run_fn {pins : List (Addr × Obj)} {σ : St} {H : Hp} {s : Shared} {Q : VK} {us : List Value} {vs : List V} (F : FnOk X.prog X.w X.K X.mg X.base CX k f fd ps sp) (hr : Room k X.A) (hb : Binds X.K fd ps ds) (hd : Vals dvs ds) (hx : Passes CX X E)
    (I : Inv X pins σ H s) (r : Vals vs us) (h : sp (vs ++ dvs) H Q E) : wpAny (model X.prog X.w) X.A (call (.ref f) us) (EP X pins σ Q) X.xe s := by
  have r2 : Vals (vs ++ dvs) (us ++ ds) := r.append hd
  have hl : (us ++ ds).length = ps.length := by rw [← r2.length]; exact F.len _ _ _ _ h
  refine wpAny_call (codeAny_mono (F.run X.A X.stack s H ⟨us, []⟩ (us ++ ds) (vs ++ dvs) Q E hr I.env0 (hb s us I.kIn hl) r2 h) fun r s' hq => ?_)
  cases r with
  | error e => exact hx pins σ H s e s' I hq
  | ok fl =>
    cases fl with
    | ret u => exact I.after hq
    | next => exact False.elim hq
    | brk => exact False.elim hq
    | cont => exact False.elim hq

theorem pe_call (F : FnOk X.prog X.w X.K X.mg X.base CX k f fd ps sp) (hr : Room k X.A) (hg : Gl X x) (hm : X.mg x = some (.ref f)) (hk : PySem.W.keepIn X.K (.ref f) = true) (hb : Binds X.K fd ps ds) (hd : Vals dvs ds) (hx : Passes CX X E)
    (ha : PA X (e :: es) t) (hdb : (x == ("__debug__" : Str)) = false := by decide) (he : starEach (e :: es) X.env = (false, eval e X.env) :: starEach es X.env := by rfl) (hpl : (backTo pos (starEach es X.env)).any (·.1) = false := by rfl) :
    PE X (.Call (.Name x p) (e :: es) [] pos) (tCall sp dvs E t) := by
  intro pins s σ H Q I h
  refine wpAny_Call_Name_kw (ld_glob I hg hm ?_ hdb)
  refine PySem.W.callWith_K (h₀ := X.base) I.ok.mod.kin hk (thn (ha pos pins s σ H _ I h) fun us s1 ⟨vs, H1, I1, r, q⟩ => ⟨I1.kIn, ?_⟩) he hpl
  exact run_fn F hr hb hd hx I1 r q
end

section
variable {X : Cx} {CX : CXT} {k : Nat} {f C : Addr} {fd : FuncData} {ps ks : List Str} {sp : Sp} {E : XK} {x m : Str} {p pos apos kpos : Pos} {e o : Expr} {es : List Expr} {kws : List Keyword} {te ta : TE} {t tk : TA} {nm : Option Str}
variable {g : List Value → List Value → List Value} {gV : List V → List V → List V}
end

structure FnScope (N P : List Str) (sc : Scope) : Prop where
  kind : sc.kind = .function
  co : sc.isCoroutine = false
  gen : sc.isGenerator = false
  nd : N.Nodup
  pre : N.take P.length = P
  par : ∀ x ∈ P, sc.names.lookup x = some .local ∨ sc.names.lookup x = some .cell
  nofree : ∀ y ∈ sc.names, y.2 ≠ .free

theorem bindL_out {kindOf : Str → Option NameKind} {x : Str} : ∀ {binds : List (Str × Value)} {m : Str → Option Value}, (∀ v, (x, v) ∉ binds) → bindL kindOf binds m x = m x
  | [], _, _ => rfl
  | (n, v) :: r, m, h => by
    unfold bindL
    rw [bindL_out fun w hw => h w (List.mem_cons_of_mem _ hw)]
    split
    · have : x ≠ n := by rintro rfl; exact h v List.mem_cons_self
      simp [this]
    · rfl
theorem bindC_out {kindOf : Str → Option NameKind} {x : Str} : ∀ {binds : List (Str × Value)} {m : Str → Option Value}, (∀ v, (x, v) ∉ binds) → bindC kindOf binds m x = m x
  | [], _, _ => rfl
  | (n, v) :: r, m, h => by
    unfold bindC
    rw [bindC_out fun w hw => h w (List.mem_cons_of_mem _ hw)]
    split
    · rfl
    · have : x ≠ n := by rintro rfl; exact h v List.mem_cons_self
      simp [this]
theorem bindL_get {kindOf : Str → Option NameKind} {x : Str} {v : Value} : ∀ {P : List Str} {vs : List Value} {i : Nat} {m : Str → Option Value}, P.Nodup → P[i]? = some x → vs[i]? = some v → kindOf x = some .local →
    bindL kindOf (P.zip vs) m x = some v
  | [], _, _, _, _, h, _, _ => by simp at h
  | _ :: _, [], _, _, _, _, h, _ => by simp at h
  | p :: P, w :: vs, 0, m, nd, h1, h2, hk => by
    simp at h1 h2; subst h1; subst h2
    show bindL kindOf ((p, w) :: P.zip vs) m p = _
    unfold bindL
    rw [bindL_out fun v hv => (List.nodup_cons.mp nd).1 (List.of_mem_zip hv).1, if_pos hk]
    simp
  | p :: P, w :: vs, i + 1, m, nd, h1, h2, hk => by
    show bindL kindOf ((p, w) :: P.zip vs) m x = _
    unfold bindL
    exact bindL_get (i := i) (List.nodup_cons.mp nd).2 (by simpa using h1) (by simpa using h2) hk
theorem bindC_get {kindOf : Str → Option NameKind} {x : Str} {v : Value} : ∀ {P : List Str} {vs : List Value} {i : Nat} {m : Str → Option Value}, P.Nodup → P[i]? = some x → vs[i]? = some v → kindOf x ≠ some .local →
    bindC kindOf (P.zip vs) m x = some v
  | [], _, _, _, _, h, _, _ => by simp at h
  | _ :: _, [], _, _, _, _, h, _ => by simp at h
  | p :: P, w :: vs, 0, m, nd, h1, h2, hk => by
    simp at h1 h2; subst h1; subst h2
    show bindC kindOf ((p, w) :: P.zip vs) m p = _
    unfold bindC
    rw [bindC_out fun v hv => (List.nodup_cons.mp nd).1 (List.of_mem_zip hv).1, if_neg hk]
    simp
  | p :: P, w :: vs, i + 1, m, nd, h1, h2, hk => by
    show bindC kindOf ((p, w) :: P.zip vs) m x = _
    unfold bindC
    exact bindC_get (i := i) (List.nodup_cons.mp nd).2 (by simpa using h1) (by simpa using h2) hk

def start (N : List Str) (vs : List V) : St := vs.map some ++ List.replicate (N.length - vs.length) none

def cxOf (CX : CXT) (P : Program) (w : World) (K : PySem.W.Frag) (mg : Str → Option Value) (base : Heap) (N : List Str) (qual : Str) (scope : Scope) (f : Addr) (cd : Value) (A : Around) (outer : List Env) (s : Shared) (H : Hp) (E : XK) : Cx where
  prog := P
  w := w
  K := K
  mg := mg
  base := base
  A := A.deeper (envOfC qual scope s.heap.objs.size f cd)
  N := N
  s₀ := s
  H₀ := H
  env := envOfC qual scope s.heap.objs.size f cd
  outer := outer
  stack := envOfC qual scope s.heap.objs.size f cd :: outer
  ex := []
  calm := true
  fn := fun _ => true
  pn := []
  xe := fun e s' => wpAny (model P w) (A.deeper (envOfC qual scope s.heap.objs.size f cd)) (leaving (envOfC qual scope s.heap.objs.size f cd) e) (fun _ s'' => CX outer H s E e s'') (fun e' s'' => CX outer H s E e' s'') s'

theorem cell_has {sc : Scope} {n : Nat} {x : Str} (h : sc.names.lookup x = some .cell) : ∃ c, (cellsFrom n sc.names []).lookup x = some c := by
  have q := PySem.W.cellsFrom_some sc.names n [] (.inl h)
  exact Option.isSome_iff_exists.mp q

theorem inv_start {CX : CXT} {P : Program} {w : World} {K : PySem.W.Frag} {mg : Str → Option Value} {base : Heap} {N ps : List Str} {qual : Str} {scope : Scope} {f : Addr} {cd : Value} {A : Around} {outer : List Env} {s s1 : Shared} {H : Hp} {E : XK} {us : List Value} {vs : List V}
    (S : FnScope N ps scope) (hd : A.handled = none) (e0 : Env0 P w K mg base A outer s H) (hl : vs.length = ps.length) (r : Vals vs us)
    (x : InCallC s s.heap.objs.size (bindL (envOfC qual scope s.heap.objs.size f cd).kindOf (ps.zip us) fun _ => none) (cellsFrom (s.heap.objs.size + 1) scope.names []) (bindC (envOfC qual scope s.heap.objs.size f cd).kindOf (ps.zip us) fun _ => none) s1) :
    Inv (cxOf CX P w K mg base N qual scope f cd A outer s H E) [] (start N vs) H s1 := by
  have hpl : ps.length ≤ N.length := by have := congrArg List.length S.pre; rw [List.length_take] at this; omega
  obtain ⟨h1, tk, rfl, hk⟩ := x.done
  have noA : ∀ b : Addr, b ∉ (cxOf CX P w K mg base N qual scope f cd A outer s H E).ex := fun b z => absurd (show b ∈ ([] : List Addr) from z) (by simp)
  refine ⟨⟨e0.mod, S.kind, rfl, rfl, Nat.le_refl _, fun y z c h1 h2 => ?_, fun y hy => ?_, fun y c _ h => ?_, fun _ => hd, Around.frames_deeper e0.frames, .inr ⟨rfl, rfl⟩, fun b z => absurd z (noA b), e0.bs, e0.bsz, fun b _ _ => noA b, fun b z => absurd z (noA b), e0.funs, e0.frf⟩,
    rfl, e0.bare, Un.kept hk, ⟨_, x.toInCall.ns, fun i y v h1 h2 h3 => ?_⟩, fun y c h => ⟨_, x.cell y c h⟩, e0.hok.fresh (Nat.le_refl _), fun y c h => ?_, fun p hp => absurd (show p ∈ ([] : List (Addr × Obj)) from hp) (by simp), e0.hok.kept hk, ?_⟩
  · exact name_of_addr x.apart (PySem.mem_of_lookup h1) (PySem.mem_of_lookup h2)
  · have hy : scope.names.lookup y = some .cell ∨ scope.names.lookup y = some .free := hy
    rcases hy with hy | hy
    · exact cell_has hy
    · exact absurd rfl (S.nofree _ (PySem.mem_of_lookup hy))
  · exact Nat.le_of_lt (x.above y c (PySem.mem_of_lookup h))
  · have hi : i < vs.length := by
      unfold start at h2
      by_cases hi : i < vs.length
      · exact hi
      · rw [List.getElem?_append_right (by simpa using hi)] at h2
        rw [List.getElem?_replicate] at h2
        split at h2 <;> cases h2
    have ha : vs[i]? = some v := by
      unfold start at h2
      rw [List.getElem?_append_left (by simpa using hi), List.getElem?_map] at h2
      cases e : vs[i]? with
      | none => rw [e] at h2; cases h2
      | some a => rw [e] at h2; cases h2; rfl
    obtain ⟨u, hu, rv⟩ := r.get ha
    have hp : ps[i]? = some y := by
      rw [← S.pre, List.getElem?_take_of_lt (by omega)]; exact h1
    have ndP : ps.Nodup := by rw [← S.pre]; exact S.nd.sublist (List.take_sublist _ _)
    refine ⟨u, rv, ?_⟩
    rcases S.par y (List.mem_of_getElem? hp) with k | k
    · exact .inl ⟨k, bindL_get ndP hp hu k⟩
    · obtain ⟨c, e⟩ := cell_has (n := s.heap.objs.size + 1) k
      refine .inr ⟨.inl k, c, e, ?_⟩
      have q := x.cell y c e
      rw [bindC_get ndP hp hu (by show scope.names.lookup y ≠ _; rw [k]; decide)] at q
      exact q
  · exact e0.hok.fresh (Nat.le_of_lt (x.above y c (PySem.mem_of_lookup h)))
  · unfold start
    show _ = N.length
    rw [List.length_append, List.length_map, List.length_replicate]
    omega

theorem fn_of {CX : CXT} {P : Program} {w : World} {K : PySem.W.Frag} {mg : Str → Option Value} {base : Heap} {k : Nat} {f : Addr} {name qual : Str} {params : Arguments} {body : List Stmt} {scope : Scope} {dV kV doc pm cdv ct oc : Value} {an od : Option Addr}
    {osl : Array (Option Value)} {N ps : List Str} {sp : Sp} (lk : K.lookup f = some ⟨oc, od, .func (PySem.W.fnOf name qual params body scope dV kV doc pm an cdv ct), osl⟩) (hcd : PySem.W.codeIn K cdv qual = true) (S : FnScope N ps scope)
    (len : ∀ vs H Q E, sp vs H Q E → vs.length = ps.length)
    (hbody : ∀ (A : Around) (outer : List Env) (s : Shared) (H : Hp) (vs : List V) (Q : VK) (E : XK), Room k (A.deeper (envOfC qual scope s.heap.objs.size f cdv)) → sp vs H Q E →
      ∃ t, PSs (cxOf CX P w K mg base N qual scope f cdv A outer s H E) body t ∧ t { nx := fun _ H' => Q .non H', rt := Q } (start N vs) H) :
    FnOk P w K mg base CX (k + 1) f (PySem.W.fnOf name qual params body scope dV kV doc pm an cdv ct) ps sp := by
  refine ⟨len, fun A outer s H args us vs Q E hr e0 hb r hsp => ?_⟩
  have hl := len _ _ _ _ hsp
  have KX : K.In s.heap := e0.mod.kin.keeps fun b o e => (e0.bs b o e).1
  have lim : s.heap.NoLimit := e0.mod.nolimit.keeps fun b o e => (e0.bs b o e).1
  have hkind : ∀ y ∈ ps.zip us, scope.names.lookup y.1 = some .local ∨ (scope.names.lookup y.1 = some .cell ∧ ((cellsFrom (s.heap.objs.size + 1) scope.names []).lookup y.1).isSome = true) := fun ⟨n, v⟩ hy => by
    rcases S.par n (List.of_mem_zip hy).1 with q | q
    · exact .inl q
    · exact .inr ⟨q, PySem.W.cellsFrom_some _ _ _ (.inl q)⟩
  refine codeAny_call_function hr.depth (KX _ _ lk) rfl S.co S.gen rfl (PySem.W.codeRec_of KX hcd) (hb _ _ _ _ ?_)
  refine wpAny_newFunctionEnv_cells S.kind hkind fun env he s1 x => ?_
  subst he
  refine ⟨lim.keeps x.toInCall.keep, codeAny_func ?_⟩
  obtain ⟨t, ht, hq⟩ := hbody A outer s H vs Q E (hr.deeper _) hsp
  have I : Inv (cxOf CX P w K mg base N qual scope f cdv A outer s H E) [] (start N vs) H s1 := inv_start S hr.hd e0 hl r x
  refine wpAny_mono (ht [] s1 (start N vs) H _ I hq) (fun fl s' hs => ?_) fun e s' hs => hs
  have fin : ∀ {σ' : St} {H' : Hp} {v : V} {u : Value}, Inv (cxOf CX P w K mg base N qual scope f cdv A outer s H E) [] σ' H' s' → RelV v u → Q v H' → CE outer P w H s Q u s' :=
    fun {σ' H' v u} J rv q => ⟨v, H', J.os, J.bare, J.base, J.hok, rv, q⟩
  cases fl with
  | ret u =>
    obtain ⟨v, σ', H', J, rv, q⟩ := hs
    exact fin J rv q
  | next =>
    obtain ⟨σ', H', J, q⟩ := hs
    exact fin (v := V.non) (u := Value.none) J rfl q
  | brk =>
    obtain ⟨_, _, _, q⟩ := hs
    exact False.elim q
  | cont =>
    obtain ⟨_, _, _, q⟩ := hs
    exact False.elim q
end L2

namespace L2
open PySem PySem.Spec PyProof.Rows
section
variable {X : Cx} {x : Str} {p pos : Pos} {e : Expr} {es : List Expr} {t : TA} {id T : String} {r : List V → Hp → VK → Prop}

def tCB (r : List V → Hp → VK → Prop) (t : TA) : TE := fun σ H Q => t σ H fun vs H1 => r vs H1 Q
theorem pe_callB (hc : CallR X (.builtin id) r) (hg : Gl X x) (hm : X.mg x = none) (hv : bootBuiltins x = some (.builtin id)) (ha : PA X (e :: es) t) (hn : x ≠ "__name__" := by decide) (hdb : (x == ("__debug__" : Str)) = false := by decide)
    (he : starEach (e :: es) X.env = (false, eval e X.env) :: starEach es X.env := by rfl) (hpl : (backTo pos (starEach es X.env)).any (·.1) = false := by rfl) : PE X (.Call (.Name x p) (e :: es) [] pos) (tCB r t) := by
  intro pins s σ H Q I h
  refine wpAny_Call_Name_kw (ld_blt I hg hm hv ?_ hn hdb)
  exact PyProof.Rows.callWith_builtin1 (thn (ha pos pins s σ H _ I h) fun us s1 ⟨vs, H1, I1, r1, q1⟩ => hc pins s1 σ H1 vs us Q I1 r1 q1) he hpl
end
end L2

namespace HT
open PySem PyProof.Rows

section
open PySem.SeqAt
open PySem.AutoSeq1 (wpAny_loadPart')
open PySem.MeetsSeq PySem.MeetsSeq2 PySem.MeetsSeq3

end

section
variable {prog : Program} {w : World} {A : Around} {E : Value → Shared → Prop} {s : Shared}

def sIx (n d : Nat) : Option Int → Nat
  | none => d
  | some v => if v < 0 then (v + (n : Int)).toNat else min v.toNat n
end
end HT

namespace L2
open PySem PySem.Spec PyProof.Rows

abbrev TO := St → Hp → (Option Int → Hp → Prop) → Prop
def PO (X : Cx) (e : Option Expr) (t : TO) : Prop :=
  ∀ (pins : List (Addr × Obj)) (s : Shared) (σ : St) (H : Hp) (Q : Option Int → Hp → Prop), Inv X pins σ H s → t σ H Q →
    wpAny (model X.prog X.w) X.A (evalPart e X.env) (fun u s' => ∃ o H', Inv X pins σ H' s' ∧ IsPart u o ∧ Q o H') X.xe s
section
variable {X : Cx} {e : Expr} {te : TE} {lo hi : Option Expr} {tl th : TO} {pos p2 : Pos}

end
end L2

namespace L2
open PySem PySem.Spec PyProof.Rows

def ixN (n : Nat) (i : Int) : Option Nat := if 0 ≤ i then (if i < n then some i.toNat else none) else if -(n : Int) ≤ i then some (i + n).toNat else none
def atI {α : Type} (xs : List α) (i : Int) : Option α := (ixN xs.length i).bind fun j => xs[j]?
theorem ixN_seq {n : Nat} {i : Int} {j : Nat} (h : ixN n i = some j) : seqIndex? i n = some j ∧ j < n ∧ -(n : Int) ≤ i ∧ i < n := by
  unfold ixN at h
  by_cases h0 : 0 ≤ i
  · rw [if_pos h0] at h
    by_cases h1 : i < n
    · rw [if_pos h1] at h
      have e : i.toNat = j := Option.some.inj h
      exact ⟨by rw [seqIndex_of h0 h1, e], by omega, by omega, h1⟩
    · rw [if_neg h1] at h; cases h
  · rw [if_neg h0] at h
    by_cases h1 : -(n : Int) ≤ i
    · rw [if_pos h1] at h
      have e : (i + n).toNat = j := Option.some.inj h
      exact ⟨by rw [seqIndex_neg (by omega) h1, e], by omega, h1, by omega⟩
    · rw [if_neg h1] at h; cases h
theorem atI_get {α : Type} {xs : List α} {i : Int} {v : α} (h : atI xs i = some v) : ∃ j, seqIndex? i xs.length = some j ∧ xs[j]? = some v ∧ j < xs.length ∧ -(xs.length : Int) ≤ i ∧ i < xs.length := by
  unfold atI at h
  cases e : ixN xs.length i with
  | none => rw [e] at h; cases h
  | some j =>
    rw [e] at h
    obtain ⟨h1, h2, h3, h4⟩ := ixN_seq e
    exact ⟨j, h1, h, h2, h3, h4⟩
def PlainIx (b : Expr) : Prop := ∀ o i, subscripted b false o i = operate [o, i] (getItem o i)
def IxR (X : Cx) (r : R2) : Prop :=
  ∀ (value slice : Expr) (pins : List (Addr × Obj)) (s : Shared) (σ : St) (H : Hp) (x y : V) (v u : Value) (Q : VK), Inv X pins σ H s → RelV x v → RelV y u → r x y H Q →
    subscripted slice false v u = operate [v, u] (getItem v u) → wpAny (model X.prog X.w) X.A (subscriptTail value slice v u) (EP X pins σ Q) X.xe s
def MtR (X : Cx) (id : String) (r : V → List V → Hp → VK → Prop) : Prop :=
  ∀ (pins : List (Addr × Obj)) (s : Shared) (σ : St) (H : Hp) (x : V) (xs : List V) (v : Value) (us : List Value) (Q : VK), Inv X pins σ H s → RelV x v → Vals xs us → r x xs H Q →
    wpAny (model X.prog X.w) X.A (call (.builtin id) (v :: us)) (EP X pins σ Q) X.xe s
section
variable {X : Cx} {a b : Expr} {ta tb : TE} {pos : Pos}
theorem IxR.or {r r' : R2} (h : IxR X r) (h' : IxR X r') : IxR X (fun x y H Q => r x y H Q ∨ r' x y H Q) := by
  intro value slice pins s σ H x y v u Q I rx ry q hs
  rcases q with q | q
  · exact h value slice pins s σ H x y v u Q I rx ry q hs
  · exact h' value slice pins s σ H x y v u Q I rx ry q hs
theorem pe_ix {r : R2} (hr : IxR X r) (ha : PE X a ta) (hb : PE X b tb) (hs : PlainIx b) : PE X (.Subscript a b pos) (tOp r ta tb) := by
  intro pins s σ H Q I h
  exact Subscript_ (binT ha hb I h fun v u s2 x y H2 I2 rx ry q => hr a b pins s2 σ H2 x y v u Q I2 rx ry q (hs _ _))

def rIxL (K : PySem.W.Frag) : R2 := fun x y H Q => ∃ p xs i v, x = .ref p ∧ y = .int i ∧ SqL K H p xs ∧ atI xs i = some v ∧ Q v H
def rIxT (K : PySem.W.Frag) : R2 := fun x y H Q => ∃ p xs i v, x = .ref p ∧ y = .int i ∧ SqT K H p xs ∧ atI xs i = some v ∧ Q v H
theorem ix_list : IxR X (rIxL X.K) := by
  intro value slice pins s σ H x y v u Q I rx ry h hs
  obtain ⟨p, xs, i, z, rfl, rfl, hq, he, q⟩ := h
  cases rx
  obtain ⟨t, rfl⟩ := ry
  obtain ⟨its, r, pl, hz⟩ := I.list hq
  obtain ⟨j, h1, h2, h3, h4, h5⟩ := atI_get he
  obtain ⟨w, ew, rw'⟩ := r.get h2
  have hl := r.length
  have hn := line63
  have fin : EP X pins σ Q w s := ⟨z, H, I, rw', q⟩
  by_cases h0 : 0 ≤ i
  · have hj : i.toNat = j := by
      rw [seqIndex_of h0 h5] at h1
      exact Option.some.inj h1
    exact item_listR pl.isList h0 (by omega) (by rw [hj]; simpa using ew) fin hs
  · have hj : (i + (its.toArray.size : Int)).toNat = j := by
      rw [seqIndex_neg (by omega) h4] at h1
      rw [List.size_toArray, ← hl]
      exact Option.some.inj h1
    exact subscriptTail_builtinR (x := w) pl.isList.typeIs slot_list_getitem.lookup
      (wpAny_getItem_list_neg (Q := fun r s' => r = w ∧ EP X pins σ Q r s') pl.isList (by omega) (by rw [List.size_toArray] <;> omega) (by omega) (by rw [hj]; simpa using ew) ⟨rfl, fin⟩) hs
theorem ix_tup : IxR X (rIxT X.K) := by
  intro value slice pins s σ H x y v u Q I rx ry h hs
  obtain ⟨p, xs, i, z, rfl, rfl, hq, he, q⟩ := h
  cases rx
  obtain ⟨t, rfl⟩ := ry
  obtain ⟨its, r, pl, hz⟩ := I.tuple hq
  obtain ⟨j, h1, h2, h3, h4, h5⟩ := atI_get he
  obtain ⟨w, ew, rw'⟩ := r.get h2
  have hl := r.length
  have hn := line63
  have fin : EP X pins σ Q w s := ⟨z, H, I, rw', q⟩
  exact subscriptTail_builtinR (x := w) pl.typeIs slot_tuple_getitem.lookup
    (getItem_tuple (j := j) (Q := fun r s' => r = w ∧ EP X pins σ Q r s') pl (by omega) (by omega) (by rw [List.size_toArray, ← hl]; exact h1) (by simpa using ew) ⟨rfl, fin⟩) hs
theorem slice_bounds (lo hi : Option Int) (n : Nat) : (sliceBounds lo hi none n).1 = ((HT.sIx n 0 lo : Nat) : Int) ∧ (sliceBounds lo hi none n).2.1 = ((HT.sIx n n hi : Nat) : Int) ∧ (sliceBounds lo hi none n).2.2 = 1 := by
  refine ⟨?_, ?_, rfl⟩
  · cases lo with
    | none => simp [sliceBounds, HT.sIx]
    | some i =>
      simp only [sliceBounds, HT.sIx, Option.getD_none, show (1 : Int) > 0 by decide, if_true]
      by_cases h : i < 0
      · simp only [h, if_true] <;> omega
      · simp only [h, if_false] <;> omega
  · cases hi with
    | none => simp [sliceBounds, HT.sIx]
    | some i =>
      simp only [sliceBounds, HT.sIx, Option.getD_none, show (1 : Int) > 0 by decide, if_true]
      by_cases h : i < 0
      · simp only [h, if_true] <;> omega
      · simp only [h, if_false] <;> omega
theorem slicePick_cut (its : List Value) (lo hi : Option Int) : slicePick its.toArray lo hi none = ((its.drop (HT.sIx its.length 0 lo)).take (HT.sIx its.length its.length hi - HT.sIx its.length 0 lo)).toArray := by
  obtain ⟨h1, h2, h3⟩ := slice_bounds lo hi its.toArray.size
  unfold slicePick
  rw [h1, h2, h3]
  simp only [sliceRange_one, pick_run, List.size_toArray] <;> rfl
theorem call_len_seq : CallR X (.builtin "len") (fun xs H Q => ∃ p ys, xs = [.ref p] ∧ (SqL X.K H p ys ∨ SqT X.K H p ys) ∧ Q (.int ys.length) H) := by
  intro pins s σ H xs us Q I r h
  obtain ⟨p, ys, rfl, hq, q⟩ := h
  obtain ⟨u, rfl, rx⟩ := vals1 r
  cases rx
  have hn := line63
  rcases hq with hq | hq
  · obtain ⟨its, r', pl, hz⟩ := I.list hq
    have hlen := r'.length
    exact Calls.call_len_list pl.isList (by simp only [List.size_toArray] <;> omega) ⟨.int ys.length, H, I.tok _, ⟨s.toks + 1, by rw [List.size_toArray, hlen]⟩, q⟩
  · obtain ⟨its, r', pl, hz⟩ := I.tuple hq
    have hlen := r'.length
    exact len_tuple pl (by simp only [List.size_toArray] <;> omega) ⟨.int ys.length, H, I.tok _, ⟨s.toks + 1, by rw [List.size_toArray, hlen]⟩, q⟩
def tyV (K : PySem.W.Frag) (T : String) (x : V) (H : Hp) : Prop := match x with
  | .str _ => T = "str"
  | .int _ => T = "int"
  | .ref p => (T = "list" ∧ ∃ xs, SqL K H p xs) ∨ (T = "tuple" ∧ ∃ o, K.lookup p = some o ∧ o.cls = .type "tuple" ∧ o.dict = none) ∨
      (T = "dict" ∧ ((∃ kvs, H p = some (.dK kvs)) ∨ ∃ kvs, H p = some (.dT kvs))) ∨ (T = "set" ∧ ∃ S n, H p = some (.set S n))
  | _ => False
theorem tyV_is {pins : List (Addr × Obj)} {σ : St} {H : Hp} {s : Shared} {T : String} {x : V} {v : Value} (I : Inv X pins σ H s) (r : RelV x v) (ty : tyV X.K T x H) :
    s.TypeIs v T ∧ ∀ a, v = .ref a → ∃ ob, s.heap.get? a = some ob ∧ ob.dict = none := by
  cases x with
  | str z =>
    obtain ⟨t, rfl⟩ := r
    cases (show T = "str" from ty)
    exact ⟨typeIs_str s z t, fun _ e => nomatch e⟩
  | int i =>
    obtain ⟨t, rfl⟩ := r
    cases (show T = "int" from ty)
    exact ⟨typeIs_int s i t, fun _ e => nomatch e⟩
  | ref p =>
    cases r
    rcases ty with ⟨rfl, xs, hq⟩ | ⟨rfl, o, hk, hc, hd⟩ | ⟨rfl, hk⟩ | ⟨rfl, S, n, hk⟩
    · obtain ⟨its, _, pl, _⟩ := I.list hq
      refine ⟨pl.isList.typeIs, fun a e => ?_⟩
      cases e
      obtain ⟨o, n, e, c, hd, _⟩ := pl
      exact ⟨o, e, hd⟩
    · refine ⟨⟨o, I.kIn p o hk, hc⟩, fun a e => ?_⟩
      cases e
      exact ⟨o, I.kIn _ o hk, hd⟩
    · have z : ∃ o, s.heap.get? p = some o ∧ o.ExactDict := by
        rcases hk with ⟨kvs, hk⟩ | ⟨kvs, hk⟩
        · obtain ⟨_, _, _, _, o, _, _, e, ex, _⟩ := I.hok p _ hk
          exact ⟨o, e, ex⟩
        · obtain ⟨_, _, _, _, o, _, _, e, ex, _⟩ := I.hok p _ hk
          exact ⟨o, e, ex⟩
      obtain ⟨o, e, ex⟩ := z
      refine ⟨⟨o, e, ex.1⟩, fun a e2 => ?_⟩
      cases e2
      exact ⟨o, e, ex.2.1⟩
    · obtain ⟨o, _, _, _, e, ex, _⟩ := I.hok p _ hk
      refine ⟨⟨o, e, ex.1⟩, fun a e2 => ?_⟩
      cases e2
      exact ⟨o, e, ex.2.1⟩
  | _ => exact False.elim ty
def tBM (K : PySem.W.Frag) (T : String) (r : V → List V → Hp → VK → Prop) (to : TE) (t : TA) : TE := fun σ H Q => to σ H fun x H1 => tyV K T x H1 ∧ t σ H1 fun xs H2 => r x xs H2 Q
variable {o e : Expr} {es : List Expr} {to : TE} {t : TA} {name : Str} {apos cpos : Pos} {T id : String} {r : V → List V → Hp → VK → Prop}
theorem pe_bm (pa : PlainAttrs T) (slot : Slot T name id) (hty : typeOf (.builtin id) = pure (.type "method_descriptor")) (hm : MtR X id r) (ho : PE X o to) (ha : PA X (e :: es) t)
    (hbase : attributeBase o name X.env (eval o X.env) = eval o X.env := by rfl)
    (hfew : ((backTo cpos (starEach (e :: es) X.env)).all (fun x => !x.1) && (backToKw cpos (keywordEach [] X.env)).all (fun x => x.1.isSome)
      && decide ((e :: es).length + ([] : List Keyword).length + (if ([] : List Keyword).isEmpty then 0 else 1) < 30)) = true := by rfl)
    (hline : (apos.endLine == cpos.line) = true := by rfl) (hs : starEach (e :: es) X.env = (false, eval e X.env) :: starEach es X.env := by rfl) (hplain : (backTo cpos (starEach es X.env)).any (·.1) = false := by rfl) :
    PE X (.Call (.Attribute o name apos) (e :: es) [] cpos) (tBM X.K T r to t) := by
  intro pins s σ H Q I h
  refine wpAny_Call_method_late hbase hfew hline rfl (thn (ho pins s σ H _ I h) fun v s1 ⟨x, H1, I1, r1, ty, q1⟩ => ?_)
  obtain ⟨h1, h2⟩ := tyV_is I1 r1 ty
  refine ⟨T, id, pa, slot, hty, h1, h2, ?_⟩
  have hA := ha cpos pins s1 σ H1 _ I1 q1
  rw [hs] at hA ⊢
  refine Calls.callWith_builtin (by show (false || (backTo cpos (starEach es X.env)).any (·.1)) = false; rw [hplain] <;> rfl) (Calls.evalArgs_plain ?_)
  exact thn hA fun us s2 ⟨vs, H2, I2, r2, q2⟩ => hm pins s2 σ H2 x vs v us Q I2 r1 r2 q2
/- xs.append(e), list.index on a module's tuple .. are MtR facts of 06m -/
end
end L2

namespace L2
open PySem PySem.Spec PyProof.Rows

def MtM (X : Cx) (id : String) (r : V → List V → Hp → VK → Prop) : Prop :=
  ∀ (pins : List (Addr × Obj)) (s : Shared) (σ : St) (H : Hp) (x : V) (xs : List V) (v : Value) (us : List Value) (Q : VK), Inv X pins σ H s → RelV x v → Vals xs us → r x xs H Q →
    wpAny (model X.prog X.w) X.A (call (.builtin id) (v :: us)) (EP X pins σ Q) X.xe s

theorem Vals.one : ∀ {x : V} {us : List Value}, Vals [x] us → ∃ u, us = [u] ∧ RelV x u
  | _, _, .cons r .nil => ⟨_, rfl, r⟩
theorem Vals.dropLast {xs : List V} {us : List Value} (h : Vals xs us) : Vals xs.dropLast us.dropLast := by
  induction h with
  | nil => exact .nil
  | cons r t ih =>
    cases t with
    | nil => exact .nil
    | cons q t' => exact .cons r ih
theorem erase_last {α : Type} (l : List α) : l.eraseIdx (l.length - 1) = l.dropLast := by
  induction l with
  | nil => rfl
  | cons a r ih =>
    cases r with
    | nil => rfl
    | cons b r =>
      have e : (a :: b :: r).length - 1 = ((b :: r).length - 1) + 1 := by
        have h1 : (a :: b :: r).length = r.length + 2 := rfl
        have h2 : (b :: r).length = r.length + 1 := rfl
        omega
      rw [e, List.eraseIdx_cons_succ, ih]
      all_goals rfl
section
variable {X : Cx} {pins : List (Addr × Obj)} {σ : St} {H : Hp} {s : Shared} {l b : Addr} {xs ys zs : List V}

theorem Inv.lset {its its' : List Value} {n : Nat} {f : Array Value → Array Value} {t' : Nat} (I : Inv X pins σ H s) (hH : H l = some (.lst xs))
    (e : s.heap.get? l = some { cls := .type "list", data := .seq its.toArray n }) (hf : f its.toArray = its'.toArray) (hv : Vals ys its') (hz : ys.length ≤ sizeLine) :
    Inv X pins σ (upd H l (.lst ys)) { s with heap := s.heap.update l (Obj.mapSeq f), toks := t' } := by
  have q := PySem.IsL.update e f
  rw [hf] at q
  refine I.write (x := l) (e := l) (by rw [hH]; exact trivial) (.inl rfl) (fun b' u hb hu => (Heap.get?_update_other s.heap (Obj.mapSeq f) (Ne.symm hb)).trans hu) ⟨_, q⟩ ?_
  exact ⟨hz, its', _, hv, q⟩
theorem Inv.lnew {its : List Value} {t' : Nat} (I : Inv X pins σ H s) (hv : Vals ys its) (hz : ys.length ≤ sizeLine) :
    Inv X pins σ (upd H s.heap.objs.size (.lst ys)) { s with heap := s.heap.push { cls := .type "list", data := .seq its.toArray }, toks := t' } :=
  I.laid (fun _ _ q => Heap.get?_push_of_some _ q) (Nat.le_refl _) ⟨hz, its, 0, hv, Heap.get?_push_size _ rfl⟩
theorem Inv.fresh (I : Inv X pins σ H s) : H s.heap.objs.size = none := I.hok.fresh (Nat.le_refl _)
theorem Inv.lstM (I : Inv X pins σ H s) (hH : H l = some (.lst xs)) : xs.length ≤ sizeLine ∧ ∃ (its : List Value) (n : Nat), Vals xs its ∧ xs.length = its.length ∧ s.heap.get? l = some { cls := .type "list", data := .seq its.toArray n } := by
  obtain ⟨z, its, n, r, e⟩ := I.hok l _ hH
  exact ⟨z, its, n, r, r.length, e⟩

theorem notLongL {n : Nat} (h : n ≤ sizeLine) : Builtin.List.listTooLong n = false := by
  unfold Builtin.List.listTooLong
  exact decide_eq_false (by omega)
end

section
variable {X : Cx}

def rAppend : V → List V → Hp → VK → Prop := fun x vs H Q => ∃ l xs y, x = .ref l ∧ vs = [y] ∧ H l = some (.lst xs) ∧ xs.length < sizeLine ∧ Q .non (upd H l (.lst (xs ++ [y])))
theorem mt_append : MtM X "list.append" rAppend := by
  intro pins s σ H x vs v us Q I rx rv h
  obtain ⟨l, xs, y, rfl, rfl, hH, hz, q⟩ := h
  cases rx
  obtain ⟨u, rfl, ru⟩ := rv.one
  obtain ⟨z, its, n, r, hl, e⟩ := I.lstM hH
  refine call_meets F.slot_list_append ⟨_, e, rfl⟩ F.entry_list_append (F.args_list_append_2 _ _) (PySem.list_append l its.toArray n u (by rw [List.size_toArray]; omega)) ⟨e, ?_⟩
  refine ⟨.non, _, I.lset (its' := its ++ [u]) hH e (by simp) (r.append (.cons ru .nil)) ?_, rfl, q⟩
  rw [List.length_append, List.length_singleton]
  omega

def rExtend : V → List V → Hp → VK → Prop := fun x vs H Q => ∃ l b xs zs, x = .ref l ∧ vs = [.ref b] ∧ H l = some (.lst xs) ∧ H b = some (.lst zs) ∧ xs.length + zs.length ≤ sizeLine ∧ Q .non (upd H l (.lst (xs ++ zs)))
theorem mt_extend : MtM X "list.extend" rExtend := by
  intro pins s σ H x vs v us Q I rx rv h
  obtain ⟨l, b, xs, zs, rfl, rfl, hH, hB, hz, q⟩ := h
  cases rx
  obtain ⟨u, rfl, ru⟩ := rv.one
  cases ru
  obtain ⟨z, its, n, r, hl, e⟩ := I.lstM hH
  obtain ⟨z2, its2, n2, r2, hl2, e2⟩ := I.lstM hB
  have hsz : its.toArray.size + its2.toArray.size ≤ sizeLine := by rw [List.size_toArray, List.size_toArray]; omega
  have hlong : ¬ (!its.toArray.isEmpty && Builtin.List.listTooLong (its.toArray.size + its2.toArray.size)) = true := by
    rw [notLongL hsz, Bool.and_false]
    exact Bool.false_ne_true
  refine call_meets F.slot_list_extend ⟨_, e, rfl⟩ F.entry_list_extend (F.args_list_extend_2 _ _)
    (AutoSeq1.list_extend_list_list_0 l its.toArray n b its2.toArray n2 hlong (by rw [List.size_toArray]; omega) (by omega)) ⟨e, e2, ?_⟩
  refine ⟨.non, _, I.lset (its' := its ++ its2) hH e (by simp) (r.append r2) ?_, rfl, q⟩
  rw [List.length_append]
  omega

end

section
variable {prog : Program} {w : World} {A : Around} {E : Value → Shared → Prop} {s : Shared}
end

section
variable {X : Cx}
end
end L2

namespace Att
open PySem PySem.W PySem.Calls PyProof.Rows

theorem ints_of_wellAll {P : Params} {h : Heap} : ∀ (ns : List Int) (vs : List Value), WellAll P h vs (ns.map WData.int) → IntsAre vs ns := by
  intro ns
  induction ns with
  | nil =>
    intro vs w
    rw [List.map_nil] at w
    cases w
    exact .nil
  | cons n ns ih =>
    intro vs w
    rw [List.map_cons] at w
    cases w with
    | cons a b =>
      cases a
      exact .cons _ _ (ih _ b)

theorem script_of {l : OpenLaw} {n : Nat} (hn : l.most = some n) {P : Params} {h : Heap} {args : List WData} {vals : List Value}
    (hpre : l.row.toRowW.claim.pre args = true) (hwl : WellAll P h vals args) :
    ∃ a vs ns, vals = [Value.ref a] ∧ args = [WData.list (ns.map WData.int)] ∧ h.get? a = some { cls := .type "list", data := .seq vs.toArray } ∧ IntsAre vs ns ∧ ns.length ≤ n := by
  have hsh : WShape.hasAll [] args [.list .int] = true := (pre_splitW hpre).1
  have hc : l.pre.holds [] { args := args } = true := (pre_splitW hpre).2
  obtain ⟨d, r, rfl, h1, h2⟩ := hasAllW_cons hsh
  obtain rfl := hasAllW_nil h2
  obtain ⟨xs, rfl, h3⟩ := hasW_list h1
  obtain ⟨ns, rfl⟩ := items_int h3
  have hlen : ns.length ≤ n := by
    unfold OpenLaw.pre at hc
    have h4 : (WTm.not (.lt (.lit (.int (n : Int))) (.len (.arg 0)))).holds [] { args := [.list (ns.map .int)] } = true := by
      have h4 := (holds_andW hc).1
      rw [hn] at h4
      exact h4
    have h5 := condW_of h4 (w_not (w_lt w_lit (w_len_list (w_arg rfl))))
    rw [List.length_map] at h5
    refine Nat.le_of_not_lt fun q => ?_
    have q' : (n : Int) < ((ns.length : Nat) : Int) := by omega
    first
      | (rw [decide_eq_true q'] at h5; exact absurd h5 (by decide))
      | (simp at h5; omega)
  cases hwl with
  | cons w1 w2 =>
    cases w2
    cases w1 with
    | list ho hall => exact ⟨_, _, ns, rfl, rfl, ho, ints_of_wellAll ns _ hall, hlen⟩

theorem post_true (l : OpenLaw) (args : List WData) : l.row.toRowW.claim.post args (.bool true) args = true :=
  postW_of (r := l.row.toRowW) (X := (true == true))
    (show WShape.has [] (.bool true) .bool = true by first | rfl | decide | simp [WShape.has, WShape.arms, WShape.armsAll])
    (show (WTm.eq .res (.lit (.bool true))).value [] { args := args, res := some (.bool true), after := args } = some (.bool (true == true)) from w_eq_bool (w_res rfl) w_lit) rfl

theorem attach_call {l : OpenLaw} {n : Nat} {q : Program} {loose : List Str} {XP : (Str → Option Value) → Heap → Prop} {YP : World → Heap → Prop} {d : DefRec}
    (hn : l.most = some n) (hdf : d.params.defaults = [])
    (call : ∀ (w : World) (s₀ s₁ : Shared) (mg mb : Str → Option Value) (fa : Addr) (o : Obj) (pm cd doc : Value) (a : Addr) (vs : List Value) (ns : List Int),
      Ground q loose [] XP w s₀ mg mb s₁.heap → YP w s₁.heap →
      s₁.heap.get? fa = some o → o.data = .func (docDef d.name d.params d.body d.scope pm cd doc) → s₁.heap.CodeRec cd d.name → mg d.name = some (.ref fa) →
      s₁.heap.get? a = some { cls := .type "list", data := .seq vs.toArray } → IntsAre vs ns → ns.length ≤ n → s₁.gens = #[] →
      codeAny (model l.prog w) callerA (.call (.ref fa) ⟨[.ref a], []⟩) (fun r s' => r = .ok (.ret (.bool true)) ∧ OldK s₁.heap s'.heap ∧ s'.os = s₁.os ∧ AllBare s'.gens) s₁) :
    WalkO q loose XP YP l.row.toRowW d [] (fun f vs => PySem.call f vs) := by
  intro w s₀ s₁ mg mb G Y fa o pm cd doc dV kV ho hd hcd hD hmg hg args vals as hpre hlay hrd hwl hlo
  obtain rfl : dV = .none := Dflts.none hD hdf
  obtain rfl : kV = .none := Dflts.noKw hD
  obtain ⟨a, vs, ns, rfl, rfl, hobj, hints, hlen⟩ := script_of hn hpre hwl
  refine enter_call (codeAny_mono (call w s₀ s₁ mg mb fa o pm cd doc a vs ns G Y ho (fd_plain hd) hcd hmg hobj hints hlen hg) fun r s' hq => ?_)
  obtain ⟨rfl, h2, h3, h4⟩ := hq
  exact ⟨.inl ⟨.bool true, .bool true, [], rfl, fun _ => rfl, .bool true, post_true l _, fun _ => ⟨List.Pairwise.nil, fun _ hm => (nomatch hm)⟩⟩, h2, h3, h4⟩

section
variable {prog : Program} {w : World} {A : Around} {E : Value → Shared → Prop} {s : Shared} {K : Frag}

def ledger (h : Heap) (L d : Addr) : List (Addr × Obj) := (List.range h.objs.size).filterMap fun a => if a = L ∨ a = d then none else (h.get? a).map fun o => (a, o)
end
end Att

namespace L2
open PySem PySem.Spec PyProof.Rows

theorem vals_ints : ∀ {vs : List Value} {ns : List Int}, IntsAre vs ns → Vals (ns.map V.int) vs
  | _, _, .nil => .nil
  | _, _, .cons n t h => .cons ⟨t, rfl⟩ (vals_ints h)

def Only (H : Hp) : Prop := ∀ b, H b = none ∨ ∃ o xs, H b = some (.frz o (.lst xs))

theorem law_call {P : Program} {w : World} {K : PySem.W.Frag} {mg mb : Str → Option Value} {CX : CXT} {k : Nat} {fa a : Addr} {fd : FuncData} {x : Str} {sp : Sp} {s₁ : Shared} {vs : List Value} {ns : List Int}
    (KX : K.In s₁.heap) (hns : s₁.heap.Ns mainGlobals mg) (hb : s₁.heap.Ns builtinsNs mb) (hbb : ∀ x : Str, x ≠ "__name__" → mb x = bootBuiltins x) (hlim : s₁.heap.NoLimit) (hg : s₁.gens = #[])
    (ha : s₁.heap.get? a = some { cls := .type "list", data := .seq vs.toArray }) (hi : IntsAre vs ns) (hl : ns.length ≤ sizeLine) (hr : Room k callerA)
    (F : ∀ base : Heap, K.In base → base.Ns mainGlobals mg → FnOk P w K mg base CX k fa fd [x] sp) (hbind : ∀ (s : Shared) (u : Value), BindsTo s fd ⟨[u], []⟩ [(x, u)])
    (hsp : ∀ H : Hp, Only H → SqL K H a (ns.map V.int) → sp [.ref a] H (fun v _ => v = .bl true) fun _ _ _ => False)
    (hCX : ∀ H e s', CX [] H s₁ (fun _ _ _ => False) e s' → False) :
    codeAny (model P w) callerA (.call (.ref fa) ⟨[.ref a], []⟩) (fun r s' => r = .ok (.ret (.bool true)) ∧ OldK s₁.heap s'.heap ∧ s'.os = s₁.os ∧ AllBare s'.gens) s₁ := by
  have rv := vals_ints hi
  have lenV := hi.length
  -- from an abstract heap in which nothing but the script may be tracked
  have core : ∀ H : Hp, Only H → SqL K H a (ns.map V.int) → HOk P w H s₁.heap → (∀ b, H b ≠ none → b = a) → (H a ≠ none → K.lookup a = none) →
      codeAny (model P w) callerA (.call (.ref fa) ⟨[.ref a], []⟩) (fun r s' => r = .ok (.ret (.bool true)) ∧ OldK s₁.heap s'.heap ∧ s'.os = s₁.os ∧ AllBare s'.gens) s₁ := by
    intro H hO hS hok hA hK
    have base_of : ∀ {b : Addr} {o : Obj}, s₁.heap.get? b = some o → H b = none → (hidT s₁.heap H).get? b = some o := fun e n => hidT_get e n
    have noA : ∀ {b : Addr} {o : Obj} {es : Array DictEntry} {ep : Nat}, s₁.heap.get? b = some o → o.data = .dict es ep → H b = none := fun {b o es ep} e d => by
      cases q : H b with
      | none => rfl
      | some u =>
        have e' : b = a := hA b (by rw [q]; simp)
        subst e'
        rw [ha] at e; cases e
        have d' : Data.seq vs.toArray _ = Data.dict es ep := d
        cases d'
    have nsK : ∀ {b : Addr} {m : Str → Option Value}, s₁.heap.Ns b m → (hidT s₁.heap H).Ns b m := fun {b m} ⟨o, es, ep, e, d, r⟩ => ⟨o, es, ep, base_of e (noA e d), d, r⟩
    have hKb : K.In (hidT s₁.heap H) := fun b o e => base_of (KX b o e) (by
      cases q : H b with
      | none => rfl
      | some u =>
        have e' : b = a := hA b (by rw [q]; simp)
        subst e'
        rw [hK (by rw [q]; simp)] at e; cases e)
    have hM : Mod K mg (hidT s₁.heap H) := ⟨hKb, nsK hns, ⟨mb, nsK hb, hbb⟩, let ⟨mc, h1, h2⟩ := hlim; ⟨mc, nsK h1, h2⟩⟩
    have e0 : Env0 P w K mg (hidT s₁.heap H) callerA [] s₁ H := ⟨rfl, hM, fun b o e => of_hidT e, Nat.le_of_eq (hidT_size _ _), trivial, fun b hb => absurd (show b ∈ ([] : List Addr) from hb) (by simp), hok, .of_eq hg⟩
    refine codeAny_mono ((F _ hKb (nsK hns)).run callerA [] s₁ H ⟨[.ref a], []⟩ [.ref a] [.ref a] _ _ hr e0 (hbind s₁ (.ref a)) (.cons rfl .nil) (hsp H hO hS)) fun r s' h => ?_
    cases r with
    | error e => exact (hCX H e s' h).elim
    | ok fl =>
      cases fl with
      | next => exact False.elim h
      | brk => exact False.elim h
      | cont => exact False.elim h
      | ret u =>
        obtain ⟨v, H', os, bare, un, hok', r', q⟩ := h
        have q' : v = .bl true := q
        subst q'
        obtain rfl : u = Value.bool true := r'
        refine ⟨rfl, OldK.of_keep fun b o e => ?_, os, bare⟩
        cases q : H b with
        | none => exact un.keep b o e q (by intro z; exact absurd (show b ∈ ([] : List Addr) from z) (by simp)) (by simp)
        | some u =>
          rcases hO b with z | ⟨ob, xs, z⟩
          · rw [q] at z; cases z
          · have z2 := un.frzs b ob _ z
            obtain ⟨e1, _⟩ := hok b _ z
            obtain ⟨e2, _⟩ := hok' b _ z2
            rw [e] at e1; cases e1
            exact e2
  cases hk : K.lookup a with
  | some o =>
    -- the script is one of the module's own objects
    have e := KX a o hk
    rw [ha] at e
    cases e
    refine core (fun _ => none) (fun _ => .inl rfl) (.inr ⟨_, vs.toArray, _, hk, rfl, rfl, rfl, by rw [List.size_toArray, lenV]; exact hl, by simpa using rv⟩) (fun b u z => by have z' : (none : Option HO) = some u := z; cases z') (fun b z => absurd rfl z) fun z => absurd rfl z
  | none =>
    refine core (fun b => if b = a then some (.frz { cls := .type "list", data := .seq vs.toArray } (.lst (ns.map V.int))) else none) (fun b => ?_) (.inl (.inr ⟨{ cls := .type "list", data := .seq vs.toArray }, if_pos rfl⟩)) (fun b u z => ?_) (fun b z => ?_) fun _ => hk
    · by_cases hb : b = a
      · exact .inr ⟨_, _, if_pos hb⟩
      · exact .inl (if_neg hb)
    · by_cases hb : b = a
      · have z' := (if_pos hb).symm.trans z
        cases z'
        subst hb
        exact ⟨ha, by rw [List.length_map]; exact hl, vs, _, rv, ha⟩
      · have z' := (if_neg hb).symm.trans z
        cases z'
    · by_cases hb : b = a
      · exact hb
      · exact absurd (if_neg hb) z
end L2

namespace L2
open PySem PySem.Spec PyProof.Rows

abbrev KOf {K : PySem.W.Frag} {h : Heap} (_ : K.In h) : PySem.W.Frag := K

theorem walk_of {l : PySem.W.OpenLaw} {n k : Nat} {q : Program} {loose : List Str} {XP : (Str → Option Value) → Heap → Prop} {YP : World → Heap → Prop} {d : DefRec} {K : Params → PySem.W.Frag} {CX : World → CXT} {sp : World → Sp} {x : Str}
    (hn : l.most = some n) (hn2 : n ≤ sizeLine) (hdf : d.params.defaults = []) (hr : Room k callerA)
    (hY : ∀ (w : World) (h : Heap), YP w h → (K w.params).In h)
    (F : ∀ (w : World) (mg : Str → Option Value) (fa : Addr) (h : Heap), (K w.params).In h → h.Ns mainGlobals mg → mg d.name = some (.ref fa) →
      ∃ fd : FuncData, (∀ (s : Shared) (u : Value), BindsTo s fd ⟨[u], []⟩ [(x, u)]) ∧
        ∀ base : Heap, (K w.params).In base → base.Ns mainGlobals mg → FnOk l.prog w (K w.params) mg base (CX w) k fa fd [x] (sp w))
    (hsp : ∀ (w : World) (H : Hp) (a : Addr) (ns : List Int), ns.length ≤ n → Only H → SqL (K w.params) H a (ns.map V.int) → sp w [.ref a] H (fun v _ => v = .bl true) fun _ _ _ => False)
    (hCX : ∀ (w : World) (H : Hp) (s : Shared) (e : Value) (s' : Shared), CX w [] H s (fun _ _ _ => False) e s' → False) :
    PySem.W.WalkO q loose XP YP l.row.toRowW d [] (fun f vs => PySem.call f vs) := by
  refine Att.attach_call hn hdf fun w s₀ s₁ mg mb fa o pm cd doc a vs ns G Y ho hd hcd hmg hobj hints hlen hg => ?_
  have KX := hY w _ Y
  obtain ⟨fd, hb, hF⟩ := F w mg fa _ KX G.T.g hmg
  exact law_call KX G.T.g G.T.b G.T.builtins G.T.nolimit hg hobj hints (Nat.le_trans hlen hn2) hr hF hb (fun H hO hS => hsp w H a ns hlen hO hS) fun H e s' => hCX w H s₁ e s'
theorem walk_ofK {l : PySem.W.OpenLaw} {n k : Nat} {q : Program} {loose : List Str} {XP : (Str → Option Value) → Heap → Prop} {YP : World → Heap → Prop} {d : DefRec} {K : Params → PySem.W.Frag} {CX : CXT} {sp : PySem.W.Frag → Sp} {x : Str}
    (hn : l.most = some n) (hn2 : n ≤ sizeLine) (hdf : d.params.defaults = []) (hr : Room k callerA)
    (hY : ∀ (w : World) (h : Heap), YP w h → (K w.params).In h)
    (F : ∀ (w : World) (mg : Str → Option Value) (fa : Addr) (h : Heap), (K w.params).In h → h.Ns mainGlobals mg → mg d.name = some (.ref fa) →
      ∃ fd : FuncData, (∀ (s : Shared) (u : Value), BindsTo s fd ⟨[u], []⟩ [(x, u)]) ∧
        ∀ base : Heap, (K w.params).In base → base.Ns mainGlobals mg → FnOk l.prog w (K w.params) mg base CX k fa fd [x] (sp (K w.params)))
    (hsp : ∀ (K : PySem.W.Frag) (H : Hp) (a : Addr) (ns : List Int), ns.length ≤ n → Only H → SqL K H a (ns.map V.int) → sp K [.ref a] H (fun v _ => v = .bl true) fun _ _ _ => False)
    (hCX : ∀ (H : Hp) (s : Shared) (e : Value) (s' : Shared), CX [] H s (fun _ _ _ => False) e s' → False) :
    PySem.W.WalkO q loose XP YP l.row.toRowW d [] (fun f vs => PySem.call f vs) :=
  walk_of (K := K) (CX := fun _ => CX) (sp := fun w => sp (K w.params)) hn hn2 hdf hr hY F (fun w H a ns h1 h2 h3 => hsp (K w.params) H a ns h1 h2 h3) fun _ H s e s' => hCX H s e s'
end L2

/- THE LAST THEOREM (shape; LID, My.* are yours):
   My.Adr: a structure of the addresses that your layer names (classes, functions); My.Txt K t: a structure (Prop) of the equations over K;
   My.txt_mk : {K} {implicit addresses ..} (e1 : nsIn K mainGlobals "law" = some (some (.ref f))) (e2 : K.lookup f = some ⟨oc, od, .func (fnOf "law" "law" params body scope dV kV doc pm an cdv ct), sl⟩) (e3 : codeIn K cdv "law" = true) .. : ∃ t, My.Txt K t

set_option maxRecDepth 100000 in
set_option maxHeartbeats 0 in
theorem PySem.Challenge.cw_LID_holds : PySem.Challenge.rw_LID.Holds := by
  w_on; o_law; k_head; (case hw => w_witness2)
  k_fill
  refine L2.walk_of (l := PySem.Challenge.rw_LID) (n := 63) (k := 40) (x := "script") (CX := fun w => ..) (sp := fun _ => My.sp_law) rfl (by decide) rfl ⟨rfl, by decide, by decide⟩ (fun w h Y => PySem.W.kIn_of Y) ?F ?S ?C
  case F =>
    intro w mg fa h KX G hmg
    have T : ∃ t, My.Txt (L2.KOf KX) t := by
      dsimp only [L2.KOf]                          -- K must stand as «<heap const> w.params» for k_is
      refine' My.txt_mk ?e1 ?e2 ?e3 ..
      (case e1 => PySem.W.k_is)                    -- in the order: a name -> its address -> its object -> its parts
      (case e2 => PySem.W.k_is)
      ..
    obtain ⟨t, T⟩ := T
    have e0 := hmg.symm.trans (PySem.W.mg_of KX G T.law)
    cases e0                                       -- fa is the law's own address
    exact ⟨_, fun s u => .of_eq rfl, fun base kb nb => My.law_fn T kb nb⟩     -- if «.of_eq rfl» comes too early: refine' ⟨_, ?b, fun base kb nb => My.law_fn T kb nb⟩; exact fun s u => .of_eq rfl
  case S => exact fun w H a ns hl hO hS => ..
  case C => exact ..
(the tactic k_is has no namespace: write k_is) -/

namespace L2
open PySem PySem.Spec PyProof.Rows

def defArgs (s : Stmt) : Arguments := match s with
  | .FunctionDef _ a _ _ _ _ _ _ _ _ => a
  | _ => { posonlyargs := [], args := [], vararg := none, kwonlyargs := [], kw_defaults := [], kwarg := none, defaults := [] }
def defBody (s : Stmt) : List Stmt := match s with
  | .FunctionDef _ _ b _ _ _ _ _ _ _ => b
  | _ => []
def defScope (s : Stmt) : Scope := match s with
  | .FunctionDef _ _ _ _ _ _ sc _ _ _ => sc
  | _ => { kind := .function, names := [], isGenerator := false, isCoroutine := false }

abbrev CX0 : CXT := fun _ _ _ _ _ _ => False
abbrev E0 : XK := fun _ _ _ => False
theorem pass0 {X : Cx} : Passes CX0 X E0 := fun _ _ _ _ _ _ _ h => h.elim

structure Fun (K : PySem.W.Frag) (x qual : Str) (st : Stmt) (f : Addr) (fd : FuncData) : Prop where
  ex : ∃ (oc : Value) (od : Option Addr) (kV doc pm : Value) (an : Option Addr) (cdv ct : Value) (osl : Array (Option Value)),
    fd = PySem.W.fnOf x qual (defArgs st) (defBody st) (defScope st) .none kV doc pm an cdv ct ∧ K.lookup f = some ⟨oc, od, .func fd, osl⟩ ∧ PySem.W.codeIn K cdv qual = true
  kp : PySem.W.keepIn K (.ref f) = true
section
variable {P : Program} {w : World} {K : PySem.W.Frag} {mg : Str → Option Value} {base : Heap}
theorem Fun.ok {x qual : Str} {st : Stmt} {f : Addr} {fd : FuncData} {N ps : List Str} {k : Nat} {sp : Sp} (F : Fun K x qual st f fd) (S : FnScope N ps (defScope st)) (len : ∀ vs H Q E, sp vs H Q E → vs.length = ps.length)
    (hbody : ∀ (cdv : Value) (A : Around) (outer : List Env) (s : Shared) (H : Hp) (vs : List V) (Q : VK) (E : XK), Room k (A.deeper (envOfC qual (defScope st) s.heap.objs.size f cdv)) → sp vs H Q E →
      ∃ t, PSs (cxOf CX0 P w K mg base N qual (defScope st) f cdv A outer s H E).nox (defBody st) t ∧ t { nx := fun _ H' => Q .non H', rt := Q } (start N vs) H) : FnOk P w K mg base CX0 (k + 1) f fd ps sp := by
  obtain ⟨oc, od, kV, doc, pm, an, cdv, ct, osl, rfl, lk, hcd⟩ := F.ex
  refine fn_of lk hcd S len fun A outer s H vs Q E hr hsp => ?_
  obtain ⟨t, h, q⟩ := hbody cdv A outer s H vs Q E hr hsp
  exact ⟨t, h.nox, q⟩
theorem Fun.binds {x qual : Str} {st : Stmt} {f : Addr} {fd : FuncData} {ps : List Str} (F : Fun K x qual st f fd)
    (h : ∀ (kV doc pm : Value) (an : Option Addr) (cdv ct : Value) (us : List Value), us.length = ps.length → bindArgs (PySem.W.fnOf x qual (defArgs st) (defBody st) (defScope st) .none kV doc pm an cdv ct) ⟨us, []⟩ = pure (ps.zip us)) : Binds K fd ps [] := by
  obtain ⟨oc, od, kV, doc, pm, an, cdv, ct, osl, rfl, lk, hcd⟩ := F.ex
  exact .all (h kV doc pm an cdv ct)
theorem fun_mk {x qual : Str} {st : Stmt} {f : Addr} {oc : Value} {od an : Option Addr} {osl : Array (Option Value)} {kV doc pm cdv ct : Value} (l : K.lookup f = some ⟨oc, od, .func (PySem.W.fnOf x qual (defArgs st) (defBody st) (defScope st) .none kV doc pm an cdv ct), osl⟩)
    (c : PySem.W.codeIn K cdv qual = true) (k : PySem.W.keepIn K (.ref f) = true) : Fun K x qual st f (PySem.W.fnOf x qual (defArgs st) (defBody st) (defScope st) .none kV doc pm an cdv ct) := ⟨⟨oc, od, kV, doc, pm, an, cdv, ct, osl, rfl, l, c⟩, k⟩
end
theorem small1000 {n : Nat} (h : n ≤ 1000) : n < sizeLine := Nat.lt_of_le_of_lt h (by decide)

section
variable {X : Cx}
theorem pv (i : Nat) {x : Str} {pos : Pos} (hN : X.N[i]? = some x := by rfl) (hv : Vis X.env.scope x := by first | exact Or.inl rfl | exact Or.inr (Or.inl rfl) | exact Or.inr (Or.inr rfl)) (hd : (x == ("__debug__" : Str)) = false := by decide)
    (hcd : (x == ("__classdict__" : Str)) = false := by decide) : PE X (.Name x pos) (tVar i) := pe_var hN hv hd hcd
end

theorem iteF {A B : Prop} (h : B) : if false = true then A else B := by
  rw [if_neg Bool.false_ne_true]
  exact h
theorem iteT {A B : Prop} (h : A) : if true = true then A else B := by
  rw [if_pos rfl]
  exact h
end L2


set_option linter.all false
set_option maxRecDepth 100000
set_option maxHeartbeats 4000000
namespace U
open PySem PySem.Spec PyProof.Rows L2
inductive PV where
  | non | bl (b : Bool) | int (i : Int) | str (x : Str) | ref (a : Addr) | tup (l : List PV) | fls (l : List PV) | oth (v : V)
def FzL (K : PySem.W.Frag) (H : Hp) (a : Addr) (xs : List V) : Prop :=
  (∃ o, H a = some (.frz o (.lst xs))) ∨
    ∃ (o : Obj) (its : Array Value) (n : Nat), K.lookup a = some o ∧ o.cls = .type "list" ∧ o.dict = none ∧ o.data = .seq its n ∧ its.size ≤ sizeLine ∧ Vals xs its.toList
theorem FzL.sq {K : PySem.W.Frag} {H : Hp} {a : Addr} {xs : List V} (h : FzL K H a xs) : SqL K H a xs := by
  rcases h with h | h
  · exact .inl (.inr h)
  · exact .inr h
structure Kp (H H1 : Hp) : Prop where
  t : ∀ a us, H a = some (.tup us) → H1 a = some (.tup us)
  z : ∀ a o u, H a = some (.frz o u) → H1 a = some (.frz o u)
theorem Kp.sqT {K : PySem.W.Frag} {H H1 : Hp} (k : Kp H H1) {a : Addr} {us : List V} (h : SqT K H a us) : SqT K H1 a us := by
  rcases h with (h | ⟨o, h⟩) | h
  · exact .inl (.inl (k.t _ _ h))
  · exact .inl (.inr ⟨o, k.z _ _ _ h⟩)
  · exact .inr h
theorem Kp.fzL {K : PySem.W.Frag} {H H1 : Hp} (k : Kp H H1) {a : Addr} {us : List V} (h : FzL K H a us) : FzL K H1 a us := by
  rcases h with ⟨o, h⟩ | h
  · exact .inl ⟨o, k.z _ _ _ h⟩
  · exact .inr h
section
variable (K : PySem.W.Frag)
mutual
def RP (H : Hp) : PV → V → Prop
  | .non, v => v = .non
  | .bl b, v => v = .bl b
  | .int i, v => v = .int i
  | .str x, v => v = .str x
  | .ref a, v => v = .ref a
  | .oth w, v => v = w
  | .tup l, v => ∃ a us, v = .ref a ∧ SqT K H a us ∧ RPs H l us
  | .fls l, v => ∃ a us, v = .ref a ∧ FzL K H a us ∧ RPs H l us
def RPs (H : Hp) : List PV → List V → Prop
  | [], us => us = []
  | x :: l, us => ∃ u r, us = u :: r ∧ RP H x u ∧ RPs H l r
end
mutual
theorem RP.kp {H H1 : Hp} (k : Kp H H1) : ∀ {x : PV} {v : V}, RP K H x v → RP K H1 x v
  | .non, _, h => h
  | .bl _, _, h => h
  | .int _, _, h => h
  | .str _, _, h => h
  | .ref _, _, h => h
  | .oth _, _, h => h
  | .tup l, v, h => by
    simp only [RP] at h ⊢
    obtain ⟨a, us, e, q, r⟩ := h
    exact ⟨a, us, e, k.sqT q, RPs.kp k r⟩
  | .fls l, v, h => by
    simp only [RP] at h ⊢
    obtain ⟨a, us, e, q, r⟩ := h
    exact ⟨a, us, e, k.fzL q, RPs.kp k r⟩
theorem RPs.kp {H H1 : Hp} (k : Kp H H1) : ∀ {l : List PV} {us : List V}, RPs K H l us → RPs K H1 l us
  | [], _, h => h
  | x :: l, us, h => by
    simp only [RPs] at h ⊢
    obtain ⟨u, r, e, a, b⟩ := h
    exact ⟨u, r, e, RP.kp k a, RPs.kp k b⟩
end
theorem RPs.nil {H : Hp} : RPs K H [] [] := by simp [RPs]
theorem RPs.cons {H : Hp} {x : PV} {l : List PV} {u : V} {us : List V} (a : RP K H x u) (b : RPs K H l us) : RPs K H (x :: l) (u :: us) := by
  simp only [RPs]; exact ⟨u, us, rfl, a, b⟩
theorem RPs.length {H : Hp} : ∀ {l : List PV} {us : List V}, RPs K H l us → us.length = l.length
  | [], us, h => by simp only [RPs] at h; subst h; rfl
  | x :: l, us, h => by
    simp only [RPs] at h
    obtain ⟨u, r, rfl, _, b⟩ := h
    simp [RPs.length b]
theorem RPs.get {H : Hp} : ∀ {l : List PV} {us : List V} {i : Nat} {x : PV}, RPs K H l us → l[i]? = some x → ∃ u, us[i]? = some u ∧ RP K H x u
  | [], _, _, _, _, e => by simp at e
  | y :: l, us, i, x, h, e => by
    simp only [RPs] at h
    obtain ⟨u, r, rfl, a, b⟩ := h
    cases i with
    | zero => simp at e; subst e; exact ⟨u, by simp, a⟩
    | succ i => obtain ⟨w, e1, e2⟩ := RPs.get (i := i) (x := x) b (by simpa using e); exact ⟨w, by simpa using e1, e2⟩
theorem RPs.append {H : Hp} : ∀ {l m : List PV} {us ws : List V}, RPs K H l us → RPs K H m ws → RPs K H (l ++ m) (us ++ ws)
  | [], m, us, ws, h, g => by simp only [RPs] at h; subst h; simpa using g
  | x :: l, m, us, ws, h, g => by
    simp only [RPs] at h
    obtain ⟨u, r, rfl, a, b⟩ := h
    exact RPs.cons K a (RPs.append b g)
theorem RPs.ints {H : Hp} : ∀ (ns : List Int), RPs K H (ns.map PV.int) (ns.map V.int)
  | [] => by simp [RPs]
  | n :: ns => RPs.cons K (by simp [RP]) (RPs.ints ns)
end
def ExcA (a C : Addr) (h : Heap) : Prop := ∃ o, h.get? a = some o ∧ o.cls = .ref C
inductive PO where
  | exc (C : Addr)
  | lst (l : List PV)
  | ins (C dx : Addr) (fs : List (Str × PV))
  | dK (kvs : List (Key × PV))
  | dT (kvs : List (List Key × PV))
abbrev PHp := Addr → Option PO
def put (H : PHp) (a : Addr) (o : PO) : PHp := fun b => if b = a then some o else H b
theorem put_same {H : PHp} {a : Addr} {o : PO} : put H a o a = some o := by unfold put; rw [if_pos rfl]
theorem put_ne {H : PHp} {a b : Addr} {o : PO} (h : b ≠ a) : put H a o b = H b := by unfold put; rw [if_neg h]
theorem ne_none {H : PHp} {a b : Addr} {o : PO} (h : H a = some o) (h' : H b = none) : a ≠ b := by
  intro e; subst e; rw [h] at h'; cases h'
abbrev FRel (K : PySem.W.Frag) (H : Hp) {κ : Type} : List (κ × PV) → List (κ × V) → Prop := Paired fun p q => p.1 = q.1 ∧ RP K H p.2 q.2
def OAt (K : PySem.W.Frag) (H : Hp) (a : Addr) : PO → Prop
  | .exc C => H a = some (.ext (ExcA a C))
  | .lst l => ∃ us, H a = some (.lst us) ∧ RPs K H l us
  | .ins C dx fs => ∃ gs, H a = some (.ins C dx gs) ∧ FRel K H fs gs
  | .dK kvs => ∃ ws, H a = some (.dK ws) ∧ FRel K H kvs ws
  | .dT kvs => ∃ ws, H a = some (.dT ws) ∧ FRel K H kvs ws
abbrev HR (K : PySem.W.Frag) (H' : PHp) (H : Hp) : Prop := ∀ a o, H' a = some o → OAt K H a o
abbrev St' := List (Option PV)
abbrev Bs := PHp × Hp
def Ev (H' : PHp) (H : Hp) (H1' : PHp) (H1 : Hp) : Prop := ∀ a o, H a = some o → H' a = none → H1 a = some o ∧ H1' a = none
structure SR (K : PySem.W.Frag) (B : Bs) (σ' : St') (H' : PHp) (σ : L2.St) (H : Hp) : Prop where
  len : σ'.length = σ.length
  loc : ∀ (i : Nat) (v' : PV), σ'[i]? = some (some v') → ∃ v, σ[i]? = some (some v) ∧ RP K H v' v
  hp : HR K H' H
  ev : Ev B.1 B.2 H' H
theorem Ev.refl (H' : PHp) (H : Hp) : Ev H' H H' H := fun _ _ h h' => ⟨h, h'⟩
theorem Ev.trans {H' : PHp} {H : Hp} {H1' : PHp} {H1 : Hp} {H2' : PHp} {H2 : Hp} (a : Ev H' H H1' H1) (b : Ev H1' H1 H2' H2) : Ev H' H H2' H2 := fun c o h h' => by
  obtain ⟨p, q⟩ := a c o h h'
  exact b c o p q
section
variable {K : PySem.W.Frag}
theorem FRel.kp {κ : Type} {H H1 : Hp} (k : Kp H H1) {fs : List (κ × PV)} {gs : List (κ × V)} (h : FRel K H fs gs) : FRel K H1 fs gs := Paired.mapP h fun _ _ ⟨a, b⟩ => ⟨a, RP.kp K k b⟩
theorem OAt.some {H : Hp} {a : Addr} : ∀ {o : PO}, OAt K H a o → ∃ u, H a = Option.some u ∧ (∀ us, u ≠ .tup us) ∧ (∀ o us, u ≠ .frz o us) ∧ (∀ x, u ≠ .own x)
  | .exc C, e => ⟨_, e, (fun _ => by nofun), (fun _ _ => by nofun), (fun _ => by nofun)⟩
  | .lst l, ⟨us, e, _⟩ => ⟨_, e, (fun _ => by nofun), (fun _ _ => by nofun), (fun _ => by nofun)⟩
  | .ins C dx fs, ⟨us, e, _⟩ => ⟨_, e, (fun _ => by nofun), (fun _ _ => by nofun), (fun _ => by nofun)⟩
  | .dK l, ⟨us, e, _⟩ => ⟨_, e, (fun _ => by nofun), (fun _ _ => by nofun), (fun _ => by nofun)⟩
  | .dT l, ⟨us, e, _⟩ => ⟨_, e, (fun _ => by nofun), (fun _ _ => by nofun), (fun _ => by nofun)⟩
theorem OAt.keep {H H1 : Hp} {a : Addr} (k : Kp H H1) (e : H1 a = H a) : ∀ {o : PO}, OAt K H a o → OAt K H1 a o
  | .exc C, h => e.trans h
  | .lst l, ⟨us, h, r⟩ => ⟨us, e.trans h, RPs.kp K k r⟩
  | .ins C dx fs, ⟨us, h, r⟩ => ⟨us, e.trans h, FRel.kp k r⟩
  | .dK l, ⟨us, h, r⟩ => ⟨us, e.trans h, FRel.kp k r⟩
  | .dT l, ⟨us, h, r⟩ => ⟨us, e.trans h, FRel.kp k r⟩
theorem HR.tup {H' : PHp} {H : Hp} (h : HR K H' H) {a : Addr} {us : List V} (e : H a = some (.tup us)) : H' a = none := by
  cases q : H' a with
  | none => rfl
  | some o => obtain ⟨u, e1, n, _⟩ := (h a o q).some; rw [e] at e1; exact absurd (Option.some.inj e1).symm (n us)
theorem HR.frz {H' : PHp} {H : Hp} (h : HR K H' H) {a : Addr} {o : Obj} {u : HO} (e : H a = some (.frz o u)) : H' a = none := by
  cases q : H' a with
  | none => rfl
  | some o' => obtain ⟨u', e1, _, n, _⟩ := (h a o' q).some; rw [e] at e1; exact absurd (Option.some.inj e1).symm (n o u)
theorem HR.free {H' : PHp} {H : Hp} (h : HR K H' H) {a : Addr} (e : H a = none) : H' a = none := by
  cases q : H' a with
  | none => rfl
  | some o => obtain ⟨u, e1, _⟩ := (h a o q).some; rw [e] at e1; cases e1
theorem Ev.kp {H' : PHp} {H : Hp} {H1' : PHp} {H1 : Hp} (e : Ev H' H H1' H1) (h : HR K H' H) : Kp H H1 :=
  ⟨fun a us q => (e a _ q (h.tup q)).1, fun a o u q => (e a _ q (h.frz q)).1⟩
theorem kp_fresh {H : Hp} {p : Addr} {o : HO} (e : H p = none) : Kp H (upd H p o) :=
  ⟨fun a us q => by rw [upd_ne (ne_of_none q e)]; exact q, fun a o u q => by rw [upd_ne (ne_of_none q e)]; exact q⟩
theorem kp_write {H : Hp} {p : Addr} {o u : HO} (e : H p = some u) (n1 : ∀ us, u ≠ .tup us) (n2 : ∀ o us, u ≠ .frz o us) : Kp H (upd H p o) :=
  ⟨fun a us q => by rw [upd_ne (ne_of q e fun z => n1 us z.symm)]; exact q, fun a o' u' q => by rw [upd_ne (ne_of q e fun z => n2 o' u' z.symm)]; exact q⟩
theorem SR.kp {B : Bs} {σ' : St'} {H' H1' : PHp} {σ : L2.St} {H H1 : Hp} (s : SR K B σ' H' σ H) (e : Ev H' H H1' H1) (h : HR K H1' H1) : SR K B σ' H1' σ H1 :=
  ⟨s.len, fun i v' q => by obtain ⟨v, a, b⟩ := s.loc i v' q; exact ⟨v, a, RP.kp K (e.kp s.hp) b⟩, h, s.ev.trans e⟩
theorem HR.hid {H' : PHp} {H : Hp} {p : Addr} {o : HO} (h : HR K H' H) (e : H p = none) : HR K H' (upd H p o) := fun a u q => by
  have na : a ≠ p := by rintro rfl; rw [h.free e] at q; cases q
  exact (h a u q).keep (kp_fresh e) (upd_ne na)
theorem Ev.hid {H' : PHp} {H : Hp} {p : Addr} {o : HO} (e : H p = none) : Ev H' H H' (upd H p o) := fun a u q n => ⟨by rw [upd_ne (ne_of_none q e)]; exact q, n⟩
theorem HR.new {H' : PHp} {H : Hp} {p : Addr} {o : HO} {o' : PO} (h : HR K H' H) (e : H p = none) (new : OAt K (upd H p o) p o') : HR K (put H' p o') (upd H p o) := fun a u q => by
  by_cases hp : a = p
  · subst hp; rw [put_same] at q; cases q; exact new
  · rw [put_ne hp] at q; exact (h a u q).keep (kp_fresh e) (upd_ne hp)
theorem Ev.new {H' : PHp} {H : Hp} {p : Addr} {o : HO} {o' : PO} (e : H p = none) : Ev H' H (put H' p o') (upd H p o) := fun a u q n => by
  have na := ne_of_none q e
  exact ⟨by rw [upd_ne na]; exact q, by rw [put_ne na]; exact n⟩
theorem HR.wr {H' : PHp} {H : Hp} {p : Addr} {o : HO} {o' u' : PO} (h : HR K H' H) (e : H' p = some u') (new : OAt K (upd H p o) p o') : HR K (put H' p o') (upd H p o) := fun a u q => by
  obtain ⟨v, e1, n1, n2, _⟩ := (h p u' e).some
  by_cases hp : a = p
  · subst hp; rw [put_same] at q; cases q; exact new
  · rw [put_ne hp] at q; exact (h a u q).keep (kp_write e1 n1 n2) (upd_ne hp)
theorem HR.kpw {H' : PHp} {H : Hp} {p : Addr} {o : HO} {u' : PO} (h : HR K H' H) (e : H' p = some u') : Kp H (upd H p o) := by
  obtain ⟨v, e1, n1, n2, _⟩ := (h p u' e).some
  exact kp_write e1 n1 n2
theorem Ev.wr {H' : PHp} {H : Hp} {p : Addr} {o : HO} {o' u' : PO} (e : H' p = some u') : Ev H' H (put H' p o') (upd H p o) := fun a u q n => by
  have na : a ≠ p := by rintro rfl; rw [e] at n; cases n
  exact ⟨by rw [upd_ne na]; exact q, by rw [put_ne na]; exact n⟩
def Sub (A B : PHp) : Prop := ∀ a o, A a = some o → B a = some o
theorem Sub.refl (A : PHp) : Sub A A := fun _ _ h => h
theorem Sub.put {A B : PHp} {p : Addr} {o : PO} (a : Sub A B) (n : A p = none) : Sub A (put B p o) := fun c u h => by rw [put_ne (ne_none h n)]; exact a c u h
theorem Sub.free {A B : PHp} (a : Sub A B) {p : Addr} (n : B p = none) : A p = none := by
  cases q : A p with
  | none => rfl
  | some o => rw [a p o q] at n; cases n
theorem HR.sub {A B : PHp} {H : Hp} (h : HR K B H) (s : Sub A B) : HR K A H := fun a o e => h a o (s a o e)
theorem Ev.sub {H' : PHp} {H : Hp} {A B : PHp} {H1 : Hp} (e : Ev H' H B H1) (s : Sub A B) : Ev H' H A H1 := fun a o q n => by
  obtain ⟨x, y⟩ := e a o q n
  exact ⟨x, s.free y⟩
end
end U


set_option linter.all false
set_option maxRecDepth 100000
set_option maxHeartbeats 4000000
namespace U
open PySem PySem.Spec PyProof.Rows L2
variable {B : Bs}
abbrev VK' := PV → PHp → Prop
abbrev TE' := St' → PHp → VK' → Prop
abbrev TT' := St' → PHp → (Bool → PHp → Prop) → Prop
abbrev TA' := St' → PHp → (List PV → PHp → Prop) → Prop
abbrev XK' := Value → Option Addr → PHp → Prop
structure Ends' where
  nx : St' → PHp → Prop
  rt : VK'
  bk : St' → PHp → Prop := fun _ _ => False
  ct : St' → PHp → Prop := fun _ _ => False
abbrev TS' := Ends' → St' → PHp → Prop
abbrev TG' := PV → St' → PHp → (St' → PHp → Prop) → Prop
abbrev TGs' := List PV → St' → PHp → (St' → PHp → Prop) → Prop
structure It' where
  items : List PV
  ok : PHp → Prop
abbrev TI' := St' → PHp → (It' → PHp → Prop) → Prop
section
variable (K : PySem.W.Frag) (B : Bs)
def low (t : TE') : TE := fun σ H Q => ∃ σ' H' Q', SR K B σ' H' σ H ∧ t σ' H' Q' ∧ ∀ v' H1' v H1, Q' v' H1' → RP K H1 v' v → SR K B σ' H1' σ H1 → Ev H' H H1' H1 → Q v H1
def lowT (t : TT') : TT := fun σ H Q => ∃ σ' H' Q', SR K B σ' H' σ H ∧ t σ' H' Q' ∧ ∀ b H1' H1, Q' b H1' → SR K B σ' H1' σ H1 → Ev H' H H1' H1 → Q b H1
def lowA (t : TA') : TA := fun σ H Q => ∃ σ' H' Q', SR K B σ' H' σ H ∧ t σ' H' Q' ∧ ∀ vs' H1' vs H1, Q' vs' H1' → RPs K H1 vs' vs → SR K B σ' H1' σ H1 → Ev H' H H1' H1 → Q vs H1
structure DR (D' : Ends') (D : Ends) (H' : PHp) (H : Hp) : Prop where
  nx : ∀ σ1' H1' σ1 H1, D'.nx σ1' H1' → SR K B σ1' H1' σ1 H1 → Ev H' H H1' H1 → D.nx σ1 H1
  rt : ∀ v' H1' v H1, D'.rt v' H1' → RP K H1 v' v → HR K H1' H1 → Ev H' H H1' H1 → D.rt v H1
  bk : ∀ σ1' H1' σ1 H1, D'.bk σ1' H1' → SR K B σ1' H1' σ1 H1 → Ev H' H H1' H1 → D.bk σ1 H1
  ct : ∀ σ1' H1' σ1 H1, D'.ct σ1' H1' → SR K B σ1' H1' σ1 H1 → Ev H' H H1' H1 → D.ct σ1 H1
theorem DR.ev {D' : Ends'} {D : Ends} {H' : PHp} {H : Hp} {H1' : PHp} {H1 : Hp} (d : DR K B D' D H' H) (e : Ev H' H H1' H1) : DR K B D' D H1' H1 :=
  ⟨fun a b c f p q r => d.nx a b c f p q (e.trans r), fun a b c f p q r s => d.rt a b c f p q r (e.trans s), fun a b c f p q r => d.bk a b c f p q (e.trans r), fun a b c f p q r => d.ct a b c f p q (e.trans r)⟩
def lowS (t : TS') : TS := fun D σ H => ∃ σ' H' D', SR K B σ' H' σ H ∧ t D' σ' H' ∧ DR K B D' D H' H
def lowG (t : TG') : TG := fun v σ H Q => ∃ v' σ' H' Q', RP K H v' v ∧ SR K B σ' H' σ H ∧ t v' σ' H' Q' ∧ ∀ σ1' H1' σ1 H1, Q' σ1' H1' → SR K B σ1' H1' σ1 H1 → Ev H' H H1' H1 → Q σ1 H1
def lowGs (t : TGs') : TGs := fun vs σ H Q => ∃ vs' σ' H' Q', RPs K H vs' vs ∧ SR K B σ' H' σ H ∧ t vs' σ' H' Q' ∧ ∀ σ1' H1' σ1 H1, Q' σ1' H1' → SR K B σ1' H1' σ1 H1 → Ev H' H H1' H1 → Q σ1 H1
structure Walks (H1 : Hp) (J : It) (J' : It') : Prop where
  go : ∀ H' H i, Kp H1 H → HR K H' H → J'.ok H' → i < J'.items.length → J.go i H
  yld : ∀ H' H i x H2, Kp H1 H → HR K H' H → J'.ok H' → J.yld i H x H2 → H2 = H ∧ ∀ x', J'.items[i]? = some x' → RP K H x' x
  stop : ∀ H' H i, Kp H1 H → HR K H' H → J'.ok H' → J'.items.length ≤ i → J.stop i H
def lowI (t : TI') : TI := fun σ H R => ∃ σ' H' R', SR K B σ' H' σ H ∧ t σ' H' R' ∧ ∀ J' H1' J H1, R' J' H1' → Walks K H1 J J' → SR K B σ' H1' σ H1 → Ev H' H H1' H1 → R J H1
end
section
variable {X : Cx}
theorem pe_imp {e : Expr} {t1 t2 : TE} (h : PE X e t2) (i : ∀ σ H Q, t1 σ H Q → t2 σ H Q) : PE X e t1 := fun pins s σ H Q I q => h pins s σ H Q I (i σ H Q q)
theorem pt_imp {e : Expr} {t1 t2 : TT} (h : PT X e t2) (i : ∀ σ H Q, t1 σ H Q → t2 σ H Q) : PT X e t1 := fun pins s σ H Q I q => h pins s σ H Q I (i σ H Q q)
theorem pw_imp {e : Expr} {t1 t2 : TT} (h : PW X e t2) (i : ∀ σ H Q, t1 σ H Q → t2 σ H Q) : PW X e t1 := fun w pins s σ H Q I q => h w pins s σ H Q I (i σ H Q q)
theorem pa_imp {e : List Expr} {t1 t2 : TA} (h : PA X e t2) (i : ∀ σ H Q, t1 σ H Q → t2 σ H Q) : PA X e t1 := fun p pins s σ H Q I q => h p pins s σ H Q I (i σ H Q q)
theorem ps_imp {e : Stmt} {t1 t2 : TS} (h : PS X e t2) (i : ∀ D σ H, t1 D σ H → t2 D σ H) : PS X e t1 := fun pins s σ H D I q => h pins s σ H D I (i D σ H q)
theorem pss_imp {e : List Stmt} {t1 t2 : TS} (h : PSs X e t2) (i : ∀ D σ H, t1 D σ H → t2 D σ H) : PSs X e t1 := fun pins s σ H D I q => h pins s σ H D I (i D σ H q)
theorem pg_imp {e : Expr} {t1 t2 : TG} (h : PG X e t2) (i : ∀ v σ H Q, t1 v σ H Q → t2 v σ H Q) : PG X e t1 := fun pins s σ H v u Q I r q => h pins s σ H v u Q I r (i v σ H Q q)
theorem pgs_imp {e : List Expr} {t1 t2 : TGs} (h : PGs X e t2) (i : ∀ v σ H Q, t1 v σ H Q → t2 v σ H Q) : PGs X e t1 := fun pins s σ H v u Q I r q => h pins s σ H v u Q I r (i v σ H Q q)
theorem pi_imp {tg e : Expr} {t1 t2 : TI} (h : PI X tg e t2) (i : ∀ σ H Q, t1 σ H Q → t2 σ H Q) : PI X tg e t1 := fun pins s σ H Q I q => h pins s σ H Q I (i σ H Q q)
abbrev PE' (X : Cx) (B : Bs) (e : Expr) (t : TE') : Prop := PE X e (low X.K B t)
abbrev PT' (X : Cx) (B : Bs) (e : Expr) (t : TT') : Prop := PT X e (lowT X.K B t)
abbrev PW' (X : Cx) (B : Bs) (e : Expr) (t : TT') : Prop := PW X e (lowT X.K B t)
abbrev PA' (X : Cx) (B : Bs) (e : List Expr) (t : TA') : Prop := PA X e (lowA X.K B t)
abbrev PS' (X : Cx) (B : Bs) (e : Stmt) (t : TS') : Prop := PS X e (lowS X.K B t)
abbrev PSs' (X : Cx) (B : Bs) (e : List Stmt) (t : TS') : Prop := PSs X e (lowS X.K B t)
abbrev PG' (X : Cx) (B : Bs) (e : Expr) (t : TG') : Prop := PG X e (lowG X.K B t)
abbrev PGs' (X : Cx) (B : Bs) (e : List Expr) (t : TGs') : Prop := PGs X e (lowGs X.K B t)
abbrev PI' (X : Cx) (B : Bs) (tg e : Expr) (t : TI') : Prop := PI X tg e (lowI X.K B t)
def withV (o : Option (Option PV)) (k : PV → Prop) : Prop := match o with
  | some (some v) => k v
  | _ => False
theorem withV.ex {o : Option (Option PV)} {k : PV → Prop} (h : withV o k) : ∃ v, o = some (some v) ∧ k v := by
  unfold withV at h; split at h
  · exact ⟨_, rfl, h⟩
  · exact h.elim
def uVar (i : Nat) : TE' := fun σ H Q => withV σ[i]? fun v => Q v H
def uC (v : PV) : TE' := fun _ H Q => Q v H
theorem qv (i : Nat) {x : Str} {pos : Pos} (hN : X.N[i]? = some x := by rfl) (hv : Vis X.env.scope x := by first | exact Or.inl rfl | exact Or.inr (Or.inl rfl) | exact Or.inr (Or.inr rfl)) (hd : (x == ("__debug__" : Str)) = false := by decide)
    (hcd : (x == ("__classdict__" : Str)) = false := by decide) : PE' X B (.Name x pos) (uVar i) := pe_imp (pv i hN hv hd hcd) fun σ H Q ⟨σ', H', Q', s, h, k⟩ => by
  obtain ⟨v', e, q⟩ := h.ex
  obtain ⟨v, a, b⟩ := s.loc i v' e
  exact ⟨v, a, k v' H' v H q b s (Ev.refl _ _)⟩
theorem lowC {K : PySem.W.Frag} {v' : PV} {v : V} (r : ∀ H, RP K H v' v) {σ : L2.St} {H : Hp} {Q : VK} (h : low K B (uC v') σ H Q) : tC v σ H Q := by
  obtain ⟨σ', H', Q', s, h, k⟩ := h
  exact k v' H' v H h (r H) s (Ev.refl _ _)
theorem qe_int {i j pos} : PE' X B (.Constant (.int i) j pos) (uC (.int i)) := pe_imp pe_int fun _ _ _ h => lowC (fun _ => by simp [RP]) h
theorem qe_bl {i j pos} : PE' X B (.Constant (.bool i) j pos) (uC (.bl i)) := pe_imp pe_bl fun _ _ _ h => lowC (fun _ => by simp [RP]) h
theorem qe_str {i j pos} : PE' X B (.Constant (.str i) j pos) (uC (.str i)) := pe_imp pe_str fun _ _ _ h => lowC (fun _ => by simp [RP]) h
theorem qe_non {j pos} : PE' X B (.Constant .none j pos) (uC .non) := pe_imp pe_non fun _ _ _ h => lowC (fun _ => by simp [RP]) h
abbrev R2' := PV → PV → PHp → VK' → Prop
def VR (K : PySem.W.Frag) (B : Bs) (r' : R2') (r : R2) : Prop := ∀ (σ' : St') (σ : L2.St) (H' : PHp) (H : Hp) x' y' x y (Q' : VK') (Q : VK), SR K B σ' H' σ H → RP K H x' x → RP K H y' y → r' x' y' H' Q' →
  (∀ v' H1' v H1, Q' v' H1' → RP K H1 v' v → SR K B σ' H1' σ H1 → Ev H' H H1' H1 → Q v H1) → r x y H Q
def uOp (r : R2') (ta tb : TE') : TE' := fun σ H Q => ta σ H fun x H1 => tb σ H1 fun y H2 => r x y H2 Q
theorem low_op {K : PySem.W.Frag} {r' : R2'} {r : R2} {ta tb : TE'} (v : VR K B r' r) {σ : L2.St} {H : Hp} {Q : VK} (h : low K B (uOp r' ta tb) σ H Q) : tOp r (low K B ta) (low K B tb) σ H Q := by
  obtain ⟨σ', H', Q', s, h, k⟩ := h
  refine ⟨σ', H', _, s, h, fun x' H1' x H1 h1 rx s1 e1 => ⟨σ', H1', _, s1, h1, fun y' H2' y H2 h2 ry s2 e2 => ?_⟩⟩
  exact v σ' σ H2' H2 x' y' x y Q' Q s2 (RP.kp K (e2.kp s1.hp) rx) ry h2 fun v' H3' v H3 q rv s3 e3 => k v' H3' v H3 q rv s3 (e1.trans (e2.trans e3))
variable {a b c : Expr} {ta tb tc : TE'} {pos : Pos}
theorem qe_op {op : Operator} {r' : R2'} {r : R2} (ho : OpR X (binaryOp op) r) (v : VR X.K B r' r) (ha : PE' X B a ta) (hb : PE' X B b tb) : PE' X B (.BinOp a op b pos) (uOp r' ta tb) := pe_imp (pe_op ho ha hb) fun _ _ _ h => low_op v h
theorem qe_cmp {op : CmpOp} {r' : R2'} {r : R2} (ho : OpR X (compareOp op) r) (v : VR X.K B r' r) (ha : PE' X B a ta) (hb : PE' X B b tb) (hm : behindInMarks op b = false) : PE' X B (.Compare a [op] [b] pos) (uOp r' ta tb) :=
  pe_imp (pe_cmpR ho ha hb hm) fun _ _ _ h => low_op v h
def cif (b : Bool) (A B : Prop) : Prop := match b with
  | true => A
  | false => B
theorem cif_t {A B : Prop} : cif true A B = A := rfl
theorem cif_f {A B : Prop} : cif false A B = B := rfl
theorem cif_pos {b : Bool} {A B : Prop} (h : b = true) (h1 : A) : cif b A B := by subst h; exact h1
theorem cif_neg {b : Bool} {A B : Prop} (h : b = false) (h1 : B) : cif b A B := by subst h; exact h1
def withB (x : PV) (k : Bool → Prop) : Prop := match x with
  | .bl b => k b
  | _ => False
theorem withB.ex {x : PV} {k : Bool → Prop} (h : withB x k) : ∃ v, x = .bl v ∧ k v := by
  unfold withB at h; split at h
  · exact ⟨_, rfl, h⟩
  · exact h.elim
def withI (x : PV) (k : Int → Prop) : Prop := match x with
  | .int i => k i
  | _ => False
theorem withI.ex {x : PV} {k : Int → Prop} (h : withI x k) : ∃ v, x = .int v ∧ k v := by
  unfold withI at h; split at h
  · exact ⟨_, rfl, h⟩
  · exact h.elim
def uTest (t : TE') : TT' := fun σ H Q => t σ H fun x H1 => withB x fun b => Q b H1
theorem low_test {K : PySem.W.Frag} {t : TE'} {σ : L2.St} {H : Hp} {Q : Bool → Hp → Prop} (h : lowT K B (uTest t) σ H Q) : tTest (low K B t) σ H Q := by
  obtain ⟨σ', H', Q', s, h, k⟩ := h
  refine ⟨σ', H', _, s, h, fun x' H1' x H1 h1 rx s1 e1 => ?_⟩
  obtain ⟨b, rfl, q⟩ := h1.ex
  simp only [RP] at rx
  exact ⟨b, rx, k b H1' H1 q s1 e1⟩
theorem qt_val {e : Expr} {t : TE'} (h : PE' X B e t) (he : ∀ whole, isTrue e X.env whole = (do let v ← whole; standAt e.pos; holding [v] (truthy v)) := by intro _; rfl) : PT' X B e (uTest t) := pt_imp (pt_val h he) fun _ _ _ h => low_test h
theorem qt_cmp {op : CmpOp} {r' : R2'} {r : R2} (ho : OpR X (compareOp op) r) (v : VR X.K B r' r) (ha : PE' X B a ta) (hb : PE' X B b tb) (hm : behindInMarks op b = false) : PT' X B (.Compare a [op] [b] pos) (uTest (uOp r' ta tb)) :=
  pt_imp (pt_cmpR ho ha hb hm) fun _ _ _ h => by
    obtain ⟨σ', H', Q', s, h, k⟩ := low_test h
    exact low_op v ⟨σ', H', Q', s, h, k⟩
def uChain (r r' : R2') (ta tb tc : TE') : TE' := fun σ H Q => ta σ H fun x H1 => tb σ H1 fun y H2 => r x y H2 fun z H3 => withB z fun k => cif k (tc σ H3 fun w' H4 => r' y w' H4 Q) (Q (.bl false) H3)
def uI (C : Int → Int → Prop) (g : Int → Int → PV) : R2' := fun x y H Q => withI x fun i => withI y fun j => C i j ∧ Q (g i j) H
def uI0 (g : Int → Int → PV) : R2' := fun x y H Q => withI x fun i => withI y fun j => Q (g i j) H
theorem vr_I {K : PySem.W.Frag} {C : Int → Int → Prop} {g' : Int → Int → PV} {g : Int → Int → V} (r : ∀ i j H, RP K H (g' i j) (g i j)) : VR K B (uI C g') (rI C g) := by
  intro σ' σ H' H x' y' x y Q' Q s rx ry h k
  obtain ⟨i, rfl, h1⟩ := withI.ex h
  obtain ⟨j, rfl, hc, h⟩ := withI.ex h1
  simp only [RP] at rx ry
  exact ⟨i, j, rx, ry, hc, k _ H' _ H h (r i j H) s (Ev.refl _ _)⟩
theorem vr_I0 {K : PySem.W.Frag} {g' : Int → Int → PV} {g : Int → Int → V} (r : ∀ i j H, RP K H (g' i j) (g i j)) : VR K B (uI0 g') (rI0 g) := by
  intro σ' σ H' H x' y' x y Q' Q s rx ry h k
  obtain ⟨i, rfl, h1⟩ := withI.ex h
  obtain ⟨j, rfl, h⟩ := withI.ex h1
  simp only [RP] at rx ry
  exact ⟨i, j, rx, ry, k _ H' _ H h (r i j H) s (Ev.refl _ _)⟩
abbrev uAdd : R2' := uI0 fun i j => .int (i + j)
abbrev uSub : R2' := uI0 fun i j => .int (i - j)
abbrev uLt : R2' := uI0 fun i j => .bl (decide (i < j))
abbrev uGt : R2' := uI0 fun i j => .bl (decide (j < i))
def Fit (i : Int) : Prop := i.natAbs.log2 < 9000
def CMulN (i j : Int) : Prop := CMul i j ∨ (Fit i ∧ Fit j)
def CDivB (i j : Int) : Prop := j ≠ 0 ∧ Fit j
theorem CMulN.ok {i j : Int} (h : CMulN i j) : IntMulOk i j := by
  rcases h with h | ⟨h1, h2⟩
  · exact h.ok
  · unfold IntMulOk
    have e : ∀ x : Int, Fit x → Builtin.Int.intBits x ≤ 9000 := fun x hx => by
      unfold Builtin.Int.intBits Fit at *
      split <;> omega
    have e1 := e i h1
    have e2 := e j h2
    have e3 : Builtin.Int.intTooBig (Builtin.Int.intBits i + Builtin.Int.intBits j) = false := by
      unfold Builtin.Int.intTooBig
      refine decide_eq_false ?_
      show ¬ (bitsLine : Int) < _
      have hb : (18000 : Nat) ≤ bitsLine := by decide +kernel
      omega
    rw [e3]
    simp
abbrev uMul : R2' := uI CMulN fun i j => .int (i * j)
abbrev uFdiv : R2' := uI CDivB fun i j => .int (i.fdiv j)
theorem op_mulB {X : Cx} : OpR X (binaryOp .Mult) (rI CMulN fun i j => .int (i * j)) := opI fun _ _ _ _ _ _ _ hc q => mul_int q hc.ok
theorem op_fdivB {X : Cx} : OpR X (binaryOp .FloorDiv) (rI CDivB fun i j => .int (i.fdiv j)) := opI fun _ _ _ _ _ _ _ hc q => floordiv_int hc.1 q (.inl (PyProof.noPylong_of_log2 hc.2))
abbrev uMod : R2' := uI (fun _ j => j ≠ 0) fun i j => .int (i.fmod j)
abbrev uPow : R2' := uI CPow fun i j => .int (i ^ j.toNat)
theorem qe_add (ha : PE' X B a ta) (hb : PE' X B b tb) : PE' X B (.BinOp a .Add b pos) (uOp uAdd ta tb) := qe_op op_add (vr_I0 fun _ _ _ => by simp [RP]) ha hb
theorem qe_sub (ha : PE' X B a ta) (hb : PE' X B b tb) : PE' X B (.BinOp a .Sub b pos) (uOp uSub ta tb) := qe_op op_sub (vr_I0 fun _ _ _ => by simp [RP]) ha hb
theorem qe_mul (ha : PE' X B a ta) (hb : PE' X B b tb) : PE' X B (.BinOp a .Mult b pos) (uOp uMul ta tb) := qe_op op_mulB (vr_I fun _ _ _ => by simp [RP]) ha hb
theorem qe_fdiv (ha : PE' X B a ta) (hb : PE' X B b tb) : PE' X B (.BinOp a .FloorDiv b pos) (uOp uFdiv ta tb) := qe_op op_fdivB (vr_I fun _ _ _ => by simp [RP]) ha hb
theorem qe_mod (ha : PE' X B a ta) (hb : PE' X B b tb) : PE' X B (.BinOp a .Mod b pos) (uOp uMod ta tb) := qe_op op_modN (vr_I fun _ _ _ => by simp [RP]) ha hb
theorem qe_pow (ha : PE' X B a ta) (hb : PE' X B b tb) : PE' X B (.BinOp a .Pow b pos) (uOp uPow ta tb) := qe_op op_pow (vr_I fun _ _ _ => by simp [RP]) ha hb
theorem vr_lt {K : PySem.W.Frag} : VR K B uLt (rI0 fun i j => .bl (decide (i < j))) := vr_I0 fun _ _ _ => by simp [RP]
theorem vr_gt {K : PySem.W.Frag} : VR K B uGt (rI0 fun i j => .bl (decide (j < i))) := vr_I0 fun _ _ _ => by simp [RP]
end
end U


set_option linter.all false
set_option maxRecDepth 100000
set_option maxHeartbeats 4000000
namespace U
open PySem PySem.Spec PyProof.Rows L2
variable {B : Bs}
section
variable {X : Cx} {a b c e o : Expr} {es rest : List Expr} {ta tb tc : TE'} {tA tB : TT'} {t : TA'} {pos : Pos}
def uAnd (t u : TT') : TT' := fun σ H Q => t σ H fun c H1 => cif c (u σ H1 Q) (Q false H1)
def uOr (t u : TT') : TT' := fun σ H Q => t σ H fun c H1 => cif c (Q true H1) (u σ H1 Q)
def uNot (t : TT') : TT' := fun σ H Q => t σ H fun c H1 => Q (!c) H1
theorem qw_or1 (ha : PT' X B a tA) : PW' X B (.BoolOp .Or [a] pos) tA := pw_or1 ha
theorem qw_or (ha : PT' X B a tA) (hb : PW' X B (.BoolOp .Or (b :: rest) pos) tB) : PW' X B (.BoolOp .Or (a :: b :: rest) pos) (uOr tA tB) := pw_imp (pw_or ha hb) fun σ H Q ⟨σ', H', Q', s, h, k⟩ => by
  refine ⟨σ', H', _, s, h, fun x H1' H1 h1 s1 e1 => ?_⟩
  cases x with
  | false => exact iteF ⟨σ', H1', _, s1, h1, fun y H2' H2 h2 s2 e2 => k y H2' H2 h2 s2 (e1.trans e2)⟩
  | true => exact iteT (k true H1' H1 h1 s1 e1)
theorem qt_bool (h : PW' X B e tA) : PT' X B e tA := PW.pt h
theorem qt_not (ha : PT' X B a tA) : PT' X B (.UnaryOp .Not a pos) (uNot tA) := pt_imp (pt_not ha) fun σ H Q ⟨σ', H', Q', s, h, k⟩ => ⟨σ', H', _, s, h, fun x H1' H1 h1 s1 e1 => k _ H1' H1 h1 s1 e1⟩
def uAndV (ta tb : TE') : TE' := fun σ H Q => ta σ H fun x H1 => withB x fun c => cif c (tb σ H1 Q) (Q (.bl false) H1)
def uOrV (ta tb : TE') : TE' := fun σ H Q => ta σ H fun x H1 => withB x fun c => cif c (Q (.bl true) H1) (tb σ H1 Q)
def uNotV (ta : TE') : TE' := fun σ H Q => ta σ H fun x H1 => withB x fun c => Q (.bl (!c)) H1
theorem qe_one {op} (h : PE' X B a ta) : PE' X B (.BoolOp op [a] pos) ta := pe_one h
theorem qe_and (ha : PE' X B a ta) (hb : PE' X B (.BoolOp .And (b :: rest) pos) tb) : PE' X B (.BoolOp .And (a :: b :: rest) pos) (uAndV ta tb) := pe_imp (pe_and ha hb) fun σ H Q ⟨σ', H', Q', s, h, k⟩ => by
  refine ⟨σ', H', _, s, h, fun x H1' v H1 h1 r1 s1 e1 => ?_⟩
  obtain ⟨y, rfl, h1⟩ := h1.ex
  simp only [RP] at r1
  refine ⟨y, r1, ?_⟩
  cases y with
  | true => exact iteT ⟨σ', H1', _, s1, h1, fun y H2' v2 H2 h2 r2 s2 e2 => k y H2' v2 H2 h2 r2 s2 (e1.trans e2)⟩
  | false => exact iteF (k _ H1' _ H1 h1 (by simp [RP]) s1 e1)
theorem qe_not (ha : PE' X B a ta) : PE' X B (.UnaryOp .Not a pos) (uNotV ta) := pe_imp (pe_not ha) fun σ H Q ⟨σ', H', Q', s, h, k⟩ => by
  refine ⟨σ', H', _, s, h, fun x H1' v H1 h1 r1 s1 e1 => ?_⟩
  obtain ⟨y, rfl, h1⟩ := h1.ex
  simp only [RP] at r1
  exact ⟨y, r1, k _ H1' _ H1 h1 (by simp [RP]) s1 e1⟩
def uIf (t : TT') (ta tb : TE') : TE' := fun σ H Q => t σ H fun c H1 => cif c (ta σ H1 Q) (tb σ H1 Q)
def uUn (r : PV → PHp → VK' → Prop) (ta : TE') : TE' := fun σ H Q => ta σ H fun x H1 => r x H1 Q
theorem qe_neg (ha : PE' X B a ta) : PE' X B (.UnaryOp .USub a pos) (uUn (fun x H Q => withI x fun i => Q (.int (-i)) H) ta) := pe_imp (pe_un un_neg ha) fun σ H Q ⟨σ', H', Q', s, h, k⟩ => by
  refine ⟨σ', H', _, s, h, fun x H1' v H1 h1 r1 s1 e1 => ?_⟩
  obtain ⟨i, rfl, h1⟩ := withI.ex h1
  simp only [RP] at r1
  exact ⟨i, r1, k _ H1' _ H1 h1 (by simp [RP]) s1 e1⟩
def uNil : TA' := fun _ H Q => Q [] H
def uCons (ta : TE') (tr : TA') : TA' := fun σ H Q => ta σ H fun x H1 => tr σ H1 fun xs H2 => Q (x :: xs) H2
theorem qa_nil : PA' X B [] uNil := pa_imp pa_nil fun σ H Q ⟨σ', H', Q', s, h, k⟩ => k [] H' [] H h (RPs.nil _) s (Ev.refl _ _)
theorem qa_cons (ha : PE' X B e ta) (hr : PA' X B es t) (hs : starEach (e :: es) X.env = (false, eval e X.env) :: starEach es X.env := by rfl) : PA' X B (e :: es) (uCons ta t) := pa_imp (pa_cons ha hr hs) fun σ H Q ⟨σ', H', Q', s, h, k⟩ => by
  refine ⟨σ', H', _, s, h, fun x H1' v H1 h1 r1 s1 e1 => ⟨σ', H1', _, s1, h1, fun xs H2' vs H2 h2 r2 s2 e2 => ?_⟩⟩
  exact k _ H2' _ H2 h2 (RPs.cons _ (RP.kp _ (e2.kp s1.hp) r1) r2) s2 (e1.trans e2)
def uTup (t : TA') : TE' := fun σ H Q => t σ H fun xs H1 => xs.length ≤ sizeLine ∧ Q (.tup xs) H1
def uLst (t : TA') : TE' := fun σ H Q => t σ H fun xs H1 => xs.length ≤ sizeLine ∧ ∀ p, H1 p = none → Q (.ref p) (put H1 p (.lst xs))
theorem SR.hid {K : PySem.W.Frag} {σ' : St'} {σ : L2.St} {H' : PHp} {H : Hp} {p : Addr} {o : HO} (s : SR K B σ' H' σ H) (n : H p = none) : SR K B σ' H' σ (upd H p o) := s.kp (Ev.hid n) (s.hp.hid n)
theorem SR.new {K : PySem.W.Frag} {σ' : St'} {σ : L2.St} {H' : PHp} {H : Hp} {p : Addr} {o : HO} {o' : PO} (s : SR K B σ' H' σ H) (n : H p = none) (w : OAt K (upd H p o) p o') : SR K B σ' (put H' p o') σ (upd H p o) := s.kp (Ev.new n) (s.hp.new n w)
theorem SR.wr {K : PySem.W.Frag} {σ' : St'} {σ : L2.St} {H' : PHp} {H : Hp} {p : Addr} {o : HO} {o' u' : PO} (s : SR K B σ' H' σ H) (n : H' p = some u') (w : OAt K (upd H p o) p o') : SR K B σ' (put H' p o') σ (upd H p o) := s.kp (Ev.wr n) (s.hp.wr n w)
theorem newT {K : PySem.W.Frag} {H : Hp} {p : Addr} {xs : List PV} {us : List V} (n : H p = none) (r : RPs K H xs us) : RP K (upd H p (.tup us)) (.tup xs) (.ref p) := by
  simp only [RP]
  exact ⟨p, us, rfl, SqT.of upd_same, RPs.kp K (kp_fresh n) r⟩
theorem newL {K : PySem.W.Frag} {H : Hp} {p : Addr} {xs : List PV} {us : List V} (n : H p = none) (r : RPs K H xs us) : OAt K (upd H p (.lst us)) p (.lst xs) := ⟨us, upd_same, RPs.kp K (kp_fresh n) r⟩
theorem wrL {K : PySem.W.Frag} {H' : PHp} {H : Hp} {p : Addr} {u' : PO} {xs : List PV} {us : List V} (h : HR K H' H) (n : H' p = some u') (r : RPs K H xs us) : OAt K (upd H p (.lst us)) p (.lst xs) := ⟨us, upd_same, RPs.kp K (h.kpw n) r⟩
theorem qe_tup {x1} (h : PA' X B es t) : PE' X B (.Tuple es x1 pos) (uTup t) := pe_imp (pe_tup h) fun σ H Q ⟨σ', H', Q', s, h, k⟩ => by
  refine ⟨σ', H', _, s, h, fun xs H1' us H1 h1 r1 s1 e1 => ⟨by rw [RPs.length _ r1]; exact h1.1, fun p n => ?_⟩⟩
  exact k _ H1' _ _ h1.2 (newT n r1) (s1.hid n) (e1.trans (Ev.hid n))
theorem qe_lst (h : PA' X B es t) : PE' X B (.List es pos) (uLst t) := pe_imp (pe_lst h) fun σ H Q ⟨σ', H', Q', s, h, k⟩ => by
  refine ⟨σ', H', _, s, h, fun xs H1' us H1 h1 r1 s1 e1 => ⟨by rw [RPs.length _ r1]; exact h1.1, fun p n => ?_⟩⟩
  exact k _ _ _ _ (h1.2 p (s1.hp.free n)) (by simp [RP]) (s1.new n (newL n r1)) (e1.trans (Ev.new n))
def withS (x : PV) (H : PHp) (k : List PV → Prop) : Prop := match x with
  | .tup l => k l
  | .fls l => k l
  | .ref a => ∃ l, H a = some (.lst l) ∧ k l
  | _ => False
theorem withS.ex {K : PySem.W.Frag} {σ' : St'} {σ : L2.St} {x : PV} {v : V} {H' : PHp} {H : Hp} {k : List PV → Prop} (h : withS x H' k) (s : SR K B σ' H' σ H) (r : RP K H x v) : ∃ l us p, v = .ref p ∧ RPs K H l us ∧ (SqL K H p us ∨ SqT K H p us) ∧ k l := by
  unfold withS at h
  split at h
  · simp only [RP] at r; obtain ⟨a, us, e, q, r⟩ := r; exact ⟨_, us, a, e, r, .inr q, h⟩
  · simp only [RP] at r; obtain ⟨a, us, e, q, r⟩ := r; exact ⟨_, us, a, e, r, .inl q.sq, h⟩
  · simp only [RP] at r
    obtain ⟨l, e, h⟩ := h
    obtain ⟨us, q, r2⟩ := s.hp _ _ e
    exact ⟨l, us, _, r, r2, .inl (SqL.of q), h⟩
  · exact h.elim
theorem atI_ps {K : PySem.W.Frag} {H : Hp} {l : List PV} {us : List V} {i : Int} {x : PV} (r : RPs K H l us) (e : atI l i = some x) : ∃ u, atI us i = some u ∧ RP K H x u := by
  unfold atI at e ⊢
  rw [RPs.length _ r]
  cases q : ixN l.length i with
  | none => rw [q] at e; cases e
  | some j =>
    rw [q] at e
    obtain ⟨u, e1, e2⟩ := RPs.get _ r (show l[j]? = some x from e)
    exact ⟨u, e1, e2⟩
def withO (o : Option PV) (k : PV → Prop) : Prop := match o with
  | some v => k v
  | none => False
theorem withO.ex {o : Option PV} {k : PV → Prop} (h : withO o k) : ∃ v, o = some v ∧ k v := by
  unfold withO at h; split at h
  · exact ⟨_, rfl, h⟩
  · exact h.elim
def uIx : R2' := fun x y H Q => withS x H fun l => withI y fun i => withO (atI l i) fun v => Q v H
theorem ix_both {X : Cx} : IxR X (fun x y H Q => rIxL X.K x y H Q ∨ rIxT X.K x y H Q) := ix_list.or ix_tup
theorem vr_ix {K : PySem.W.Frag} : VR K B uIx (fun x y H Q => rIxL K x y H Q ∨ rIxT K x y H Q) := by
  intro σ' σ H' H x' y' x y Q' Q s rx ry h k
  obtain ⟨l, us, p, rfl, r, q, h1⟩ := withS.ex h s rx
  obtain ⟨i, rfl, h2⟩ := withI.ex h1
  obtain ⟨v, e, h3⟩ := withO.ex h2
  simp only [RP] at ry
  obtain ⟨u, e1, e2⟩ := atI_ps r e
  have := k v H' u H h3 e2 s (Ev.refl _ _)
  rcases q with q | q
  · exact .inl ⟨p, us, i, u, rfl, ry, q, e1, this⟩
  · exact .inr ⟨p, us, i, u, rfl, ry, q, e1, this⟩
theorem qe_ix (ha : PE' X B a ta) (hb : PE' X B b tb) (hs : PlainIx b) : PE' X B (.Subscript a b pos) (uOp uIx ta tb) := pe_imp (pe_ix ix_both ha hb hs) fun _ _ _ h => low_op vr_ix h
abbrev TO' := St' → PHp → (Option Int → PHp → Prop) → Prop
def uNoPart : TO' := fun _ H Q => Q none H
def uPart (t : TE') : TO' := fun σ H Q => t σ H fun x H1 => withI x fun i => Q (some i) H1
def cutP (xs : List PV) (lo hi : Option Int) : List PV := (xs.drop (HT.sIx xs.length 0 lo)).take (HT.sIx xs.length xs.length hi - HT.sIx xs.length 0 lo)
def sliceOf (x : PV) (lo hi : Option Int) (H3 : PHp) (Q : VK') : Prop := match x with
  | .fls l => ∀ p, H3 p = none → Q (.ref p) (put H3 p (.lst (cutP l lo hi)))
  | .ref a => ∃ l, H3 a = some (.lst l) ∧ ∀ p, H3 p = none → Q (.ref p) (put H3 p (.lst (cutP l lo hi)))
  | .tup l => ¬ (HT.sIx l.length 0 lo = 0 ∧ HT.sIx l.length l.length hi = l.length) ∧ Q (.tup (cutP l lo hi)) H3
  | _ => False
def uSlice (ta : TE') (tl th : TO') : TE' := fun σ H Q => ta σ H fun x H1 => tl σ H1 fun lo H2 => th σ H2 fun hi H3 => sliceOf x lo hi H3 Q
def VC (K : PySem.W.Frag) (B : Bs) (r' : List PV → PHp → VK' → Prop) (r : List V → Hp → VK → Prop) : Prop := ∀ (σ' : St') (σ : L2.St) (H' : PHp) (H : Hp) xs' xs (Q' : VK') (Q : VK), SR K B σ' H' σ H → RPs K H xs' xs → r' xs' H' Q' →
  (∀ v' H1' v H1, Q' v' H1' → RP K H1 v' v → SR K B σ' H1' σ H1 → Ev H' H H1' H1 → Q v H1) → r xs H Q
def uCB (r : List PV → PHp → VK' → Prop) (t : TA') : TE' := fun σ H Q => t σ H fun vs H1 => r vs H1 Q
theorem low_cb {K : PySem.W.Frag} {r' : List PV → PHp → VK' → Prop} {r : List V → Hp → VK → Prop} {t : TA'} (v : VC K B r' r) {σ : L2.St} {H : Hp} {Q : VK} (h : low K B (uCB r' t) σ H Q) : tCB r (lowA K B t) σ H Q := by
  obtain ⟨σ', H', Q', s, h, k⟩ := h
  exact ⟨σ', H', _, s, h, fun xs' H1' xs H1 h1 rx s1 e1 => v σ' σ H1' H1 xs' xs Q' Q s1 rx h1 fun v' H3' v H3 q rv s3 e3 => k v' H3' v H3 q rv s3 (e1.trans e3)⟩
variable {x : Str} {p : Pos}
theorem qe_callB {id : String} {r' : List PV → PHp → VK' → Prop} {r : List V → Hp → VK → Prop} (hc : CallR X (.builtin id) r) (v : VC X.K B r' r) (hg : Gl X x) (hm : X.mg x = none) (hv : bootBuiltins x = some (.builtin id)) (ha : PA' X B (e :: es) t)
    (hn : x ≠ "__name__" := by decide) (hdb : (x == ("__debug__" : Str)) = false := by decide) (he : starEach (e :: es) X.env = (false, eval e X.env) :: starEach es X.env := by rfl) (hpl : (backTo pos (starEach es X.env)).any (·.1) = false := by rfl) :
    PE' X B (.Call (.Name x p) (e :: es) [] pos) (uCB r' t) := pe_imp (pe_callB hc hg hm hv ha hn hdb he hpl) fun _ _ _ h => low_cb v h
def arg1 (f : PV → PHp → VK' → Prop) : List PV → PHp → VK' → Prop := fun xs H Q => match xs with
  | [x] => f x H Q
  | _ => False
theorem arg1.ex {K : PySem.W.Frag} {H : Hp} {f : PV → PHp → VK' → Prop} {xs' : List PV} {xs : List V} {H' : PHp} {Q' : VK'} (h : arg1 f xs' H' Q') (r : RPs K H xs' xs) : ∃ x' x, xs' = [x'] ∧ xs = [x] ∧ RP K H x' x ∧ f x' H' Q' := by
  unfold arg1 at h
  split at h
  · simp only [RPs] at r
    obtain ⟨u, r, rfl, q, rfl⟩ := r
    exact ⟨_, u, rfl, rfl, q, h⟩
  · exact h.elim
def uLen : List PV → PHp → VK' → Prop := arg1 fun x H Q => withS x H fun l => Q (.int l.length) H
theorem vc_len {K : PySem.W.Frag} : VC K B uLen (fun xs H Q => ∃ p ys, xs = [.ref p] ∧ (SqL K H p ys ∨ SqT K H p ys) ∧ Q (.int ys.length) H) := by
  intro σ' σ H' H xs' xs Q' Q s r h k
  obtain ⟨x', x, rfl, rfl, rx, h⟩ := arg1.ex h r
  obtain ⟨l, us, p, rfl, r, q, h⟩ := withS.ex h s rx
  exact ⟨p, us, rfl, q, k _ H' _ H h (by simp [RP, RPs.length _ r]) s (Ev.refl _ _)⟩
def uAbs : List PV → PHp → VK' → Prop := arg1 fun x H Q => withI x fun i => Q (.int (if i < 0 then -i else i)) H
theorem vc_abs {K : PySem.W.Frag} : VC K B uAbs (fun xs H Q => ∃ i, xs = [.int i] ∧ Q (.int (if i < 0 then -i else i)) H) := by
  intro σ' σ H' H xs' xs Q' Q s r h k
  obtain ⟨x', x, rfl, rfl, rx, h⟩ := arg1.ex h r
  obtain ⟨i, rfl, h⟩ := withI.ex h
  simp only [RP] at rx
  subst rx
  exact ⟨i, rfl, k _ H' _ H h (by simp [RP]) s (Ev.refl _ _)⟩
def b2n (b : Bool) : Int := if b then 1 else 0
def intOf (x : PV) (k : Int → Prop) : Prop := match x with
  | .int i => k i
  | .bl b => k (b2n b)
  | _ => False
def uInt : List PV → PHp → VK' → Prop := arg1 fun x H Q => intOf x fun i => Q (.int i) H
def uList : List PV → PHp → VK' → Prop := arg1 fun x H Q => withS x H fun l => ∀ p, H p = none → Q (.ref p) (put H p (.lst l))
def uTuple : List PV → PHp → VK' → Prop := arg1 fun x H Q => withS x H fun l => Q (.tup l) H
end
end U


set_option linter.all false
set_option maxRecDepth 100000
set_option maxHeartbeats 4000000
namespace U
open PySem PySem.Spec PyProof.Rows L2
variable {B : Bs}
section
variable {X : Cx} {a b c e o : Expr} {es : List Expr} {ta tb te : TE'} {tA tB : TT'} {st : Stmt} {sts : List Stmt} {t u : TS'} {pos : Pos}
def uNext : TS' := fun D σ H => D.nx σ H
def uSeq (t u : TS') : TS' := fun D σ H => t { D with nx := u D } σ H
theorem qss_nil : PSs' X B [] uNext := pss_imp pss_nil fun D σ H ⟨σ', H', D', s, h, d⟩ => d.nx _ _ _ _ h s (Ev.refl _ _)
theorem qss_cons (h1 : PS' X B st t) (h2 : PSs' X B sts u) : PSs' X B (st :: sts) (uSeq t u) := pss_imp (pss_cons h1 h2) fun D σ H ⟨σ', H', D', s, h, d⟩ =>
  ⟨σ', H', _, s, h, fun σ1' H1' σ1 H1 h1 s1 e1 => ⟨σ1', H1', D', s1, h1, d.ev _ _ e1⟩, d.rt, d.bk, d.ct⟩
theorem qss_one (h1 : PS' X B st t) : PSs' X B [st] t := pss_one h1
def uBreak : TS' := fun D σ H => D.bk σ H
def uCont : TS' := fun D σ H => D.ct σ H
def uDrop (te : TE') : TS' := fun D σ H => te σ H fun _ H1 => D.nx σ H1
theorem qs_expr (he : PE' X B e te) (hs : swapsWith e none pos.line X.env = pure false := by rfl) : PS' X B (.Expr e pos) (uDrop te) := ps_imp (ps_expr he hs) fun D σ H ⟨σ', H', D', s, h, d⟩ =>
  ⟨σ', H', _, s, h, fun v' H1' v H1 h1 r1 s1 e1 => d.nx _ _ _ _ h1 s1 e1⟩
def uRet (te : TE') : TS' := fun D σ H => te σ H D.rt
theorem qs_ret (he : PE' X B e te) : PS' X B (.Return (some e) pos) (uRet te) := ps_imp (ps_ret he) fun D σ H ⟨σ', H', D', s, h, d⟩ =>
  ⟨σ', H', _, s, h, fun v' H1' v H1 h1 r1 s1 e1 => d.rt _ _ _ _ h1 r1 s1.hp e1⟩
def uRetN : TS' := fun D _ H => D.rt .non H
def uIfS (c : TT') (t u : TS') : TS' := fun D σ H => c σ H fun b H1 => cif b (t D σ H1) (u D σ H1)
theorem qs_if {l1 l2 : List Stmt} (hc : PT' X B c tA) (ha : PSs' X B l1 t) (hb : PSs' X B l2 u) : PS' X B (.If c l1 l2 pos) (uIfS tA t u) := ps_imp (ps_if hc ha hb) fun D σ H ⟨σ', H', D', s, h, d⟩ => by
  refine ⟨σ', H', _, s, h, fun x H1' H1 h1 s1 e1 => ?_⟩
  cases x with
  | true => exact iteT ⟨σ', H1', D', s1, h1, d.ev _ _ e1⟩
  | false => exact iteF ⟨σ', H1', D', s1, h1, d.ev _ _ e1⟩
def uNever : TS' := fun _ _ _ => False
theorem qss_never : PSs' X B sts uNever := fun _ _ _ _ _ _ ⟨_, _, _, _, h, _⟩ => h.elim
def vName (i : Nat) : TG' := fun v σ H Q => Q (σ.set i (some v)) H
theorem SR.set {K : PySem.W.Frag} {σ' : St'} {H' : PHp} {σ : L2.St} {H : Hp} {v' : PV} {v : V} (s : SR K B σ' H' σ H) (r : RP K H v' v) (i : Nat) : SR K B (σ'.set i (some v')) H' (σ.set i (some v)) H := by
  refine ⟨by simp [s.len], fun j w e => ?_, s.hp, s.ev⟩
  by_cases hj : i = j
  · subst hj
    have hl : i < σ'.length := by
      rcases Nat.lt_or_ge i σ'.length with h | h
      · exact h
      · rw [List.getElem?_eq_none (by simpa using h)] at e; cases e
    rw [List.getElem?_set_self hl] at e
    cases e
    exact ⟨v, List.getElem?_set_self (by rw [← s.len]; exact hl), r⟩
  · rw [List.getElem?_set_ne hj] at e ⊢
    exact s.loc j w e
theorem qg_name {i : Nat} {x : Str} (hN : X.N.Nodup) (hi : X.N[i]? = some x) (hx : Loc X.env.scope x) (hf : X.fn x = true ∨ X.env.scope.names.lookup x = some .local := by first | exact .inl rfl | exact .inr rfl | assumption) : PG' X B (.Name x pos) (vName i) :=
  pg_imp (pg_name hN hi hx hf) fun v σ H Q ⟨v', σ', H', Q', r, s, h, k⟩ => k _ _ _ _ h (s.set r i) (Ev.refl _ _)
def vNil : TGs' := fun vs σ H Q => vs = [] ∧ Q σ H
def vCons (t : TG') (u : TGs') : TGs' := fun vs σ H Q => match vs with
  | v :: r => t v σ H fun σ' H' => u r σ' H' Q
  | [] => False
theorem qgs_nil : PGs' X B [] vNil := pgs_imp pgs_nil fun vs σ H Q ⟨v', σ', H', Q', r, s, h, k⟩ => by
  obtain ⟨rfl, h⟩ := h
  simp only [RPs] at r
  exact ⟨r, k _ _ _ _ h s (Ev.refl _ _)⟩
theorem qgs_cons {t : TG'} {u : TGs'} (h1 : PG' X B e t) (h2 : PGs' X B es u) (hs : (assignEach (e :: es) X.env).map (·.2) = assign e X.env :: (assignEach es X.env).map (·.2) := by rfl) : PGs' X B (e :: es) (vCons t u) :=
  pgs_imp (pgs_cons h1 h2 hs) fun vs σ H Q ⟨vs', σ', H', Q', r, s, h, k⟩ => by
  cases vs' with
  | nil => exact h.elim
  | cons v' r' =>
    simp only [RPs] at r
    obtain ⟨v, w, rfl, rv, rw'⟩ := r
    refine ⟨v, w, rfl, v', σ', H', _, rv, s, h, fun σ1' H1' σ1 H1 h1 s1 e1 => ⟨r', σ1', H1', Q', RPs.kp _ (e1.kp s.hp) rw', s1, h1, fun σ2' H2' σ2 H2 h2 s2 e2 => k _ _ _ _ h2 s2 (e1.trans e2)⟩⟩
def vTup (n : Nat) (t : TGs') : TG' := fun v σ H Q => match v with
  | .tup l => l.length = n ∧ t l σ H Q
  | _ => False
theorem qg_tup {k : Nat} {t : TGs'} {n : Nat} (hc : X.calm = true) (h : PGs' X B es t) (hn : (assignEach es X.env).length = n := by rfl) (hst : (assignEach es X.env).findIdx? (·.1) = none := by rfl) : PG' X B (.Tuple es k pos) (vTup n t) :=
  pg_imp (pg_tup hc h hn hst) fun v σ H Q ⟨v', σ', H', Q', r, s, h, k⟩ => by
  cases v' with
  | tup l =>
    obtain ⟨hl, h⟩ := h
    simp only [RP] at r
    obtain ⟨a, us, rfl, q, r⟩ := r
    exact ⟨a, us, rfl, q, by rw [RPs.length _ r]; exact hl, l, σ', H', Q', r, s, h, k⟩
  | _ => exact h.elim
def uAsg (te : TE') (g : TG') : TS' := fun D σ H => te σ H fun x H1 => g x σ H1 D.nx
theorem qs_set {i : Nat} {x : Str} {pos' : Pos} (hN : X.N.Nodup) (hi : X.N[i]? = some x) (hx : Loc X.env.scope x) (he : PE' X B e te) (hs : swapsWith e (some (.Name x pos')) pos.line X.env = pure false := by rfl) (hf : X.fn x = true ∨ X.env.scope.names.lookup x = some .local := by first | exact .inl rfl | exact .inr rfl | assumption) :
    PS' X B (.Assign [.Name x pos'] e pos) (uAsg te (vName i)) := ps_imp (ps_set hN hi hx he hs hf) fun D σ H h => by
  obtain ⟨σ', H', D', s, h, d⟩ := h
  exact ⟨σ', H', _, s, h, fun x H1' v H1 h1 r1 s1 e1 => d.nx _ _ _ _ h1 (s1.set r1 i) e1⟩
def uWhile (c : TT') (tb : TS') : TS' := fun D σ H => ∃ W : Nat → St' → PHp → Prop, (∃ m, W m σ H) ∧ ∀ m σ H, W m σ H →
  c σ H fun b H1 => cif b (∃ N : St' → PHp → Prop, (∀ σ' H', N σ' H' → ∃ m', m' < m ∧ W m' σ' H') ∧ tb { D with nx := N, ct := N, bk := D.nx } σ H1) (D.nx σ H1)
theorem qs_while {body : List Stmt} (hp : PassesOwn (model X.prog X.w) X.A X.env X.xe) (hc : PT' X B c tA) (hb : PSs' X B body t) : PS' X B (.While c body [] pos) (uWhile tA t) := ps_imp (ps_while hp hc hb) fun D σ H ⟨σ', H', D', s, ⟨W, ⟨m0, w0⟩, turn⟩, d⟩ => by
  refine ⟨fun m σ1 H1 => ∃ σ1' H1', SR X.K B σ1' H1' σ1 H1 ∧ Ev H' H H1' H1 ∧ W m σ1' H1', ⟨m0, σ', H', s, Ev.refl _ _, w0⟩, ?_⟩
  rintro m σ1 H1 ⟨σ1', H1', s1, e1, w1⟩
  refine ⟨σ1', H1', _, s1, turn m σ1' H1' w1, fun x H2' H2 h2 s2 e2 => ?_⟩
  cases x with
  | false => exact iteF (d.nx _ _ _ _ h2 s2 (e1.trans e2))
  | true =>
    obtain ⟨N, hN, h2⟩ := (show ∃ N : St' → PHp → Prop, _ from h2)
    refine iteT ⟨fun σ3 H3 => ∃ σ3' H3', SR X.K B σ3' H3' σ3 H3 ∧ Ev H' H H3' H3 ∧ N σ3' H3', ?_, σ1', H2', _, s2, h2, ?_, ?_, ?_, ?_⟩
    · rintro σ3 H3 ⟨σ3', H3', s3, e3, n3⟩
      obtain ⟨m', hm, w'⟩ := hN _ _ n3
      exact ⟨m', hm, σ3', H3', s3, e3, w'⟩
    · intro σ3' H3' σ3 H3 n3 s3 e3
      exact ⟨σ3', H3', s3, (e1.trans e2).trans e3, n3⟩
    · intro v' H3' v H3 n3 r3 s3 e3
      exact d.rt _ _ _ _ n3 r3 s3 ((e1.trans e2).trans e3)
    · intro σ3' H3' σ3 H3 n3 s3 e3
      exact d.nx _ _ _ _ n3 s3 ((e1.trans e2).trans e3)
    · intro σ3' H3' σ3 H3 n3 s3 e3
      exact ⟨σ3', H3', s3, (e1.trans e2).trans e3, n3⟩
theorem while_by {c : TT'} {tb : TS'} {D : Ends'} {σ : St'} {H : PHp} (Pv : Nat → St' → PHp → Prop) (m0 : Nat) (h0 : Pv m0 σ H)
    (hs : ∀ m σ H, Pv m σ H → c σ H fun b H1 => cif b (∃ N : St' → PHp → Prop, (∀ σ' H', N σ' H' → ∃ m', m' < m ∧ Pv m' σ' H') ∧ tb { D with nx := N, ct := N, bk := D.nx } σ H1) (D.nx σ H1)) : uWhile c tb D σ H := ⟨Pv, ⟨m0, h0⟩, hs⟩
def uForL (ok : PHp → Prop) (g : TG') (tb : TS') (D : Ends') : List PV → St' → PHp → Prop
  | [], σ, H => ok H ∧ D.nx σ H
  | x :: r, σ, H => ok H ∧ g x σ H fun σ2 H2 => tb { D with nx := uForL ok g tb D r, ct := uForL ok g tb D r, bk := D.nx } σ2 H2
def uFor (wi : TI') (g : TG') (tb : TS') : TS' := fun D σ H => wi σ H fun J H1 => uForL J.ok g tb D J.items σ H1
theorem qs_for {iter tg : Expr} {body : List Stmt} {wi : TI'} {g : TG'} (hp : PassesOwn (model X.prog X.w) X.A X.env X.xe) (hc : X.calm = true) (hi : PI' X B tg iter wi) (hg : PG' X B tg g) (hb : PSs' X B body t)
    (hs : ∀ x, foldedSetIterable iter X.env x = pure x := by intro _; rfl) : PS' X B (.For tg iter body [] pos) (uFor wi g t) := ps_imp (ps_for hp hc hi hg hb hs) fun D σ H ⟨σ', H', D', s, h, d⟩ => by
  refine ⟨σ', H', _, s, h, fun J' H1' J H1 h1 wk s1 e1 => ?_⟩
  refine ⟨fun i m σ2 H2 => i ≤ J'.items.length ∧ m = J'.items.length - i ∧ ∃ σ2' H2', SR X.K B σ2' H2' σ2 H2 ∧ Ev H1' H1 H2' H2 ∧ uForL J'.ok g t D' (J'.items.drop i) σ2' H2', ⟨J'.items.length, Nat.zero_le _, by simp, σ', H1', s1, Ev.refl _ _, h1⟩, ?_⟩
  rintro i m σ2 H2 ⟨hi, rfl, σ2', H2', s2, e2, h2⟩
  have k2 := e2.kp s1.hp
  by_cases hlt : i < J'.items.length
  · obtain ⟨x', hx⟩ : ∃ x', J'.items[i]? = some x' := ⟨_, List.getElem?_eq_getElem hlt⟩
    have hd : J'.items.drop i = x' :: J'.items.drop (i + 1) := by
      rw [List.drop_eq_getElem_cons hlt]
      rw [List.getElem?_eq_getElem hlt] at hx
      cases hx; rfl
    rw [hd] at h2
    obtain ⟨ok2, h2⟩ := (show J'.ok H2' ∧ _ from h2)
    refine .inr ⟨wk.go H2' H2 i k2 s2.hp ok2 hlt, fun σ3 H3 => ∃ σ3' H3', SR X.K B σ3' H3' σ3 H3 ∧ Ev H1' H1 H3' H3 ∧ uForL J'.ok g t D' (J'.items.drop (i + 1)) σ3' H3', ?_, fun x H3 y => ?_⟩
    · rintro σ3 H3 ⟨σ3', H3', s3, e3, h3⟩
      exact ⟨J'.items.length - (i + 1), by omega, hlt, rfl, σ3', H3', s3, e3, h3⟩
    · obtain ⟨rfl, rx⟩ := wk.yld H2' H2 i x H3 k2 s2.hp ok2 y
      refine ⟨x', σ2', H2', _, rx x' hx, s2, h2, fun σ3' H3' σ3 H3 h3 s3 e3 => ⟨σ3', H3', _, s3, h3, ?_, ?_, ?_, ?_⟩⟩
      · intro σ4' H4' σ4 H4 h4 s4 e4
        exact ⟨σ4', H4', s4, e2.trans (e3.trans e4), h4⟩
      · intro v' H4' v H4 h4 r4 s4 e4
        exact d.rt _ _ _ _ h4 r4 s4 (e1.trans (e2.trans (e3.trans e4)))
      · intro σ4' H4' σ4 H4 h4 s4 e4
        exact d.nx _ _ _ _ h4 s4 (e1.trans (e2.trans (e3.trans e4)))
      · intro σ4' H4' σ4 H4 h4 s4 e4
        exact ⟨σ4', H4', s4, e2.trans (e3.trans e4), h4⟩
  · have hi' : i = J'.items.length := by omega
    subst hi'
    rw [List.drop_length] at h2
    obtain ⟨ok2, h2⟩ := (show J'.ok H2' ∧ _ from h2)
    exact .inl ⟨wk.stop H2' H2 _ k2 s2.hp ok2 (Nat.le_refl _), d.nx _ _ _ _ h2 s2 (e1.trans e2)⟩
def itOf (x : PV) (H1 : PHp) (R : It' → PHp → Prop) : Prop := match x with
  | .tup l => R ⟨l, fun _ => True⟩ H1
  | .fls l => R ⟨l, fun _ => True⟩ H1
  | .ref a => ∃ l, H1 a = some (.lst l) ∧ R ⟨l, fun H => H a = some (.lst l)⟩ H1
  | _ => False
def uSeqI (ta : TE') : TI' := fun σ H R => ta σ H fun x H1 => itOf x H1 R
def iSeq (K : PySem.W.Frag) (tl : TE) : TI := fun σ H R => tl σ H fun x H1 => ∃ a, x = .ref a ∧ ((∃ xs, SqL K H1 a xs) ∧ R (Itl K a) H1 ∨ (∃ xs, SqT K H1 a xs) ∧ R (Itt K a) H1)
theorem pi_seq {tg l : Expr} {tl : TE} (hl : PE X l tl) : PI X tg l (iSeq X.K tl) := by
  intro pins s σ H R I h
  refine thn (hl pins s σ H _ I h) fun v s1 ⟨x, H1, I1, r1, q1⟩ => ?_
  obtain ⟨a, e, ⟨⟨xs, hq⟩, q⟩ | ⟨⟨xs, hq⟩, q⟩⟩ := q1
  · subst e
    cases r1
    obtain ⟨its, rv, p, hz⟩ := I1.list hq
    refine wpAny_pyIter_list p.isList ?_
    refine ⟨s1.heap.objs.size, [s1.heap.objs.size], _, _, H1, rfl, I1.kept (t' := s1.toks) fun b o e => Heap.get?_push_of_some _ e, turn_list a _, ⟨_, Heap.get?_push_size _ rfl, rfl, rfl⟩, fun b hb => ?_, q⟩
    have e : b = s1.heap.objs.size := by simpa using hb
    subst e
    exact I1.fpOk (Nat.le_refl _) (I1.hok.fresh (Nat.le_refl _))
  · subst e
    cases r1
    obtain ⟨its, rv, p, hz⟩ := I1.tuple hq
    refine wpAny_pyIter_tuple (show s1.heap.IsTuple a its.toArray from p) ?_
    refine ⟨s1.heap.objs.size, [s1.heap.objs.size], _, _, H1, rfl, I1.kept (t' := s1.toks) fun b o e => Heap.get?_push_of_some _ e, turn_tuple a _, ⟨_, Heap.get?_push_size _ rfl, rfl, rfl⟩, fun b hb => ?_, q⟩
    have e : b = s1.heap.objs.size := by simpa using hb
    subst e
    exact I1.fpOk (Nat.le_refl _) (I1.hok.fresh (Nat.le_refl _))
theorem walks_list {K : PySem.W.Frag} {H1 : Hp} {J' : It'} {a : Addr} (h : ∀ H' H, Kp H1 H → HR K H' H → J'.ok H' → ∃ us, SqL K H a us ∧ RPs K H J'.items us) : Walks K H1 (Itl K a) J' where
  go := fun H' H i k s o hi => by
    obtain ⟨us, q, r⟩ := h H' H k s o
    obtain ⟨u, e, _⟩ := RPs.get _ r (List.getElem?_eq_getElem hi)
    exact ⟨us, u, q, e⟩
  yld := fun H' H i x H2 k s o y => by
    obtain ⟨us, q, r⟩ := h H' H k s o
    refine ⟨y.1, fun x' hx => ?_⟩
    obtain ⟨u, e, ru⟩ := RPs.get _ r hx
    have := y.2 us q
    rw [e] at this; cases this; exact ru
  stop := fun H' H i k s o hi => by
    obtain ⟨us, q, r⟩ := h H' H k s o
    exact ⟨us, q, by rw [RPs.length _ r]; exact hi⟩
theorem walks_tup {K : PySem.W.Frag} {H1 : Hp} {J' : It'} {a : Addr} (h : ∀ H' H, Kp H1 H → HR K H' H → J'.ok H' → ∃ us, SqT K H a us ∧ RPs K H J'.items us) : Walks K H1 (Itt K a) J' where
  go := fun H' H i k s o hi => by
    obtain ⟨us, q, r⟩ := h H' H k s o
    obtain ⟨u, e, _⟩ := RPs.get _ r (List.getElem?_eq_getElem hi)
    exact ⟨us, u, q, e⟩
  yld := fun H' H i x H2 k s o y => by
    obtain ⟨us, q, r⟩ := h H' H k s o
    refine ⟨y.1, fun x' hx => ?_⟩
    obtain ⟨u, e, ru⟩ := RPs.get _ r hx
    have := y.2 us q
    rw [e] at this; cases this; exact ru
  stop := fun H' H i k s o hi => by
    obtain ⟨us, q, r⟩ := h H' H k s o
    exact ⟨us, q, by rw [RPs.length _ r]; exact hi⟩
theorem qi_seq {tg : Expr} (ha : PE' X B a ta) : PI' X B tg a (uSeqI ta) := pi_imp (pi_seq ha) fun σ H R ⟨σ', H', R', s, h, k⟩ => by
  refine ⟨σ', H', _, s, h, fun x' H1' x H1 h1 r1 s1 e1 => ?_⟩
  cases x' with
  | tup l =>
    simp only [RP] at r1
    obtain ⟨p, us, rfl, q, r⟩ := r1
    exact ⟨p, rfl, .inr ⟨⟨us, q⟩, k _ H1' _ H1 h1 (walks_tup fun _ H2 k2 _ _ => ⟨us, k2.sqT q, RPs.kp _ k2 r⟩) s1 e1⟩⟩
  | fls l =>
    simp only [RP] at r1
    obtain ⟨p, us, rfl, q, r⟩ := r1
    exact ⟨p, rfl, .inl ⟨⟨us, q.sq⟩, k _ H1' _ H1 h1 (walks_list fun _ H2 k2 _ _ => ⟨us, (k2.fzL q).sq, RPs.kp _ k2 r⟩) s1 e1⟩⟩
  | ref p =>
    simp only [RP] at r1
    obtain ⟨l, q, h1⟩ := h1
    obtain ⟨us, q2, r⟩ := s1.hp _ _ q
    refine ⟨p, r1, .inl ⟨⟨us, SqL.of q2⟩, k _ H1' _ H1 h1 (walks_list fun H2' H2 k2 s2 o2 => ?_) s1 e1⟩⟩
    obtain ⟨us2, q3, r3⟩ := s2 _ _ o2
    exact ⟨us2, SqL.of q3, r3⟩
  | _ => exact h1.elim
def rngL (lo : Int) (n : Nat) : List PV := (List.range n).map fun k => PV.int (lo + (k : Nat))
theorem walks_rng {K : PySem.W.Frag} {H1 : Hp} {lo : Int} {n : Nat} : Walks K H1 (Itr lo n) ⟨rngL lo n, fun _ => True⟩ where
  go := fun H' H i k s o hi => by
    have h : i < n := by simpa [rngL] using hi
    exact h
  yld := fun H' H i x H2 k s o y => by
    obtain ⟨e, rfl⟩ := y
    refine ⟨e, fun x' hx => ?_⟩
    simp only [rngL, List.getElem?_map] at hx
    cases q : (List.range n)[i]? with
    | none => rw [q] at hx; cases hx
    | some j =>
      rw [q] at hx
      obtain ⟨h1, h2⟩ := List.getElem?_eq_some_iff.mp q
      rw [List.getElem_range] at h2
      subst h2
      cases hx
      simp [RP]
  stop := fun H' H i k s o hi => by
    have h : n ≤ i := by simpa [rngL] using hi
    exact h
def rng1 (vs : List PV) (H1 : PHp) (R : It' → PHp → Prop) : Prop := match vs with
  | [.int j] => (-(2 ^ 62) ≤ j ∧ j < 2 ^ 62) ∧ R ⟨rngL 0 j.toNat, fun _ => True⟩ H1
  | _ => False
def uRng1 (t : TA') : TI' := fun σ H R => t σ H fun vs H1 => rng1 vs H1 R
def rng2 (vs : List PV) (H1 : PHp) (R : It' → PHp → Prop) : Prop := match vs with
  | [.int i, .int j] => (-(2 ^ 62) ≤ i ∧ i < 2 ^ 62 ∧ -(2 ^ 62) ≤ j ∧ j < 2 ^ 62) ∧ R ⟨rngL i (j - i).toNat, fun _ => True⟩ H1
  | _ => False
def uRng2 (t : TA') : TI' := fun σ H R => t σ H fun vs H1 => rng2 vs H1 R
theorem qi_range1 {tg : Expr} {t : TA'} {p : Pos} (hg : Gl X "range") (hm : X.mg "range" = none) (ha : PA' X B [a] t) (hs : starEach [a] X.env = [(false, eval a X.env)] := by rfl) : PI' X B tg (.Call (.Name "range" p) [a] [] pos) (uRng1 t) :=
  pi_imp (pi_range1 hg hm ha hs) fun σ H R ⟨σ', H', R', s, h, k⟩ => by
  refine ⟨σ', H', _, s, h, fun vs' H1' vs H1 h1 r1 s1 e1 => ?_⟩
  unfold rng1 at h1
  split at h1
  · rename_i j
    simp only [RPs, RP] at r1
    obtain ⟨u, r, rfl, rfl, rfl⟩ := r1
    exact ⟨j, rfl, h1.1.1, h1.1.2, k _ H1' _ H1 h1.2 walks_rng s1 e1⟩
  · exact h1.elim
end
end U


set_option linter.all false
set_option maxRecDepth 100000
set_option maxHeartbeats 4000000
namespace U
open PySem PySem.Spec PyProof.Rows L2
variable {B : Bs}
abbrev Sp' := List PV → PHp → VK' → XK' → Prop
def lowSp (K : PySem.W.Frag) (sp : Sp') : Sp := fun vs H Q E => ∃ vs' H' Q' E', RPs K H vs' vs ∧ HR K H' H ∧ sp vs' H' Q' E' ∧ (∀ v' H1' v H1, Q' v' H1' → RP K H1 v' v → HR K H1' H1 → Ev H' H H1' H1 → Q v H1) ∧
  (∀ c d H1' H1, E' c d H1' → HR K H1' H1 → Ev H' H H1' H1 → E c d H1)
abbrev FnOk' (P : Program) (w : World) (K : PySem.W.Frag) (mg : Str → Option Value) (base : Heap) (CX : CXT) (k : Nat) (f : Addr) (fd : FuncData) (ps : List Str) (sp : Sp') : Prop := FnOk P w K mg base CX k f fd ps (lowSp K sp)
def start' (N : List Str) (vs : List PV) : St' := vs.map some ++ List.replicate (N.length - vs.length) none
theorem sr_start {K : PySem.W.Frag} {N : List Str} {vs' : List PV} {vs : List V} {H' : PHp} {H : Hp} (r : RPs K H vs' vs) (h : HR K H' H) : SR K (H', H) (start' N vs') H' (L2.start N vs) H := by
  have hl := RPs.length _ r
  refine ⟨by simp [start', L2.start, hl], fun i v' e => ?_, h, Ev.refl _ _⟩
  unfold start' at e
  unfold L2.start
  by_cases hi : i < vs'.length
  · rw [List.getElem?_append_left (by simpa using hi)] at e
    rw [List.getElem?_append_left (by simpa [hl] using hi)]
    rw [List.getElem?_map] at e ⊢
    cases q : vs'[i]? with
    | none => rw [q] at e; cases e
    | some w =>
      rw [q] at e
      cases e
      obtain ⟨u, e1, e2⟩ := RPs.get _ r q
      exact ⟨u, by rw [e1]; rfl, e2⟩
  · rw [List.getElem?_append_right (by simpa using hi)] at e
    rw [List.getElem?_replicate] at e
    split at e <;> cases e
def ends (Q : VK') : Ends' where
  nx := fun _ H => ∃ H3, Sub H3 H ∧ Q .non H3
  rt := fun v H => ∃ H3, Sub H3 H ∧ Q v H3
section
variable {P : Program} {w : World} {K : PySem.W.Frag} {mg : Str → Option Value} {base : Heap}
theorem okU {x qual : Str} {st : Stmt} {f : Addr} {fd : FuncData} {N ps : List Str} {k : Nat} {sp : Sp'} (F : Fun K x qual st f fd) (S : FnScope N ps (defScope st)) (len : ∀ vs H Q E, sp vs H Q E → vs.length = ps.length)
    (hbody : ∀ (cdv : Value) (A : Around) (outer : List Env) (s : Shared) (H : Hp) (E : XK) (B : Bs), Room k (A.deeper (envOfC qual (defScope st) s.heap.objs.size f cdv)) →
      ∃ t, PSs' (cxOf CX0 P w K mg base N qual (defScope st) f cdv A outer s H E).nox B (defBody st) t ∧ ∀ vs' H' Q' E', sp vs' H' Q' E' → t (ends Q') (start' N vs') H') : FnOk' P w K mg base CX0 (k + 1) f fd ps sp := by
  refine F.ok S (fun vs H Q E zz => ?_) (fun cdv A outer s H vs Q E hr h => ?_)
  · obtain ⟨vs', H', Q', E', r, hr, h, _⟩ := zz
    rw [RPs.length _ r]; exact len _ _ _ _ h
  · obtain ⟨vs', H', Q', E', r, hh, h, k1, k2⟩ := h
    obtain ⟨t, ht, hq⟩ := hbody cdv A outer s H E (H', H) hr
    refine ⟨_, ht, start' N vs', H', _, sr_start r hh, hq vs' H' Q' E' h, ?_, ?_, ?_, ?_⟩
    · rintro σ1' H1' σ1 H1 ⟨H3, sb, q⟩ s1 e1
      exact k1 _ H3 _ H1 q (by simp [RP]) (s1.hp.sub sb) (e1.sub sb)
    · rintro v' H1' v H1 ⟨H3, sb, q⟩ r1 s1 e1
      exact k1 _ H3 _ H1 q r1 (s1.sub sb) (e1.sub sb)
    · intro _ _ _ _ z; exact z.elim
    · intro _ _ _ _ z; exact z.elim
end
section
variable {X : Cx} {CX : CXT} {k : Nat} {f C : Addr} {fd : FuncData} {ps : List Str} {sp : Sp'} {E : XK} {E' : XK'} {x m : Str} {p pos apos : Pos} {e o : Expr} {es : List Expr} {ta : TE'} {t : TA'}
def uCall (sp : Sp') (E' : XK') (t : TA') : TE' := fun σ H Q => t σ H fun vs H1 => sp vs H1 Q E'
abbrev X0 : XK' := fun _ _ _ => False
theorem low_call0 {K : PySem.W.Frag} {σ : L2.St} {H : Hp} {Q : VK} (h : low K B (uCall sp X0 t) σ H Q) : tCall (lowSp K sp) [] E0 (lowA K B t) σ H Q := by
  obtain ⟨σ', H', Q', s, h, k⟩ := h
  refine ⟨σ', H', _, s, h, fun vs' H1' vs H1 h1 r1 s1 e1 => ?_⟩
  show lowSp K sp (vs ++ []) H1 Q E0
  rw [List.append_nil]
  exact ⟨vs', H1', Q', X0, r1, s1.hp, h1, fun v' H2' v H2 q r2 h2 e2 => k v' H2' v H2 q r2 (s1.kp e2 h2) (e1.trans e2), fun _ _ _ _ z => z.elim⟩
theorem qe_call (F : FnOk' X.prog X.w X.K X.mg X.base CX0 k f fd ps sp) (hr : Room k X.A) (hg : Gl X x) (hm : X.mg x = some (.ref f)) (hk : PySem.W.keepIn X.K (.ref f) = true) (hb : Binds X.K fd ps [])
    (ha : PA' X B (e :: es) t) (hdb : (x == ("__debug__" : Str)) = false := by decide) (he : starEach (e :: es) X.env = (false, eval e X.env) :: starEach es X.env := by rfl) (hpl : (backTo pos (starEach es X.env)).any (·.1) = false := by rfl) :
    PE' X B (.Call (.Name x p) (e :: es) [] pos) (uCall sp X0 t) := pe_imp (pe_call F hr hg hm hk hb .nil pass0 ha hdb he hpl) fun _ _ _ h => low_call0 h
theorem fz_of {K : PySem.W.Frag} {H : Hp} {a : Addr} {xs : List V} (o : Only H) (h : SqL K H a xs) : FzL K H a xs := by
  rcases h with (h | h) | h
  · rcases o a with z | ⟨ob, ys, z⟩
    · rw [z] at h; cases h
    · rw [z] at h; cases h
  · exact .inl h
  · exact .inr h
def spL : Sp' := fun vs H Q _ => match vs with
  | [.fls l] => ∃ ns : List Int, l = ns.map PV.int ∧ ns.length ≤ 63 ∧ Q (.bl true) H
  | _ => False
theorem spL_start {K : PySem.W.Frag} {H : Hp} {a : Addr} {ns : List Int} (hl : ns.length ≤ 63) (o : Only H) (h : SqL K H a (ns.map V.int)) : lowSp K spL [.ref a] H (fun v _ => v = .bl true) fun _ _ _ => False := by
  refine ⟨[.fls (ns.map PV.int)], fun _ => none, fun v _ => v = .bl true, X0, ?_, fun _ _ z => (nomatch z), ⟨ns, rfl, hl, rfl⟩, fun v' _ v _ q r _ _ => ?_, fun _ _ _ _ z => z.elim⟩
  · refine RPs.cons _ ?_ (RPs.nil _)
    simp only [RP]
    exact ⟨a, _, rfl, fz_of o h, RPs.ints _ _⟩
  · subst q
    simpa [RP] using r
end
end U


set_option linter.all false
set_option maxRecDepth 100000
set_option maxHeartbeats 4000000
namespace U
open PySem PySem.Spec PyProof.Rows L2
variable {B : Bs}
mutual
def deq : PV → PV → Bool
  | .non, .non => true
  | .bl a, .bl b => a == b
  | .int a, .int b => a == b
  | .bl a, .int b => (if a then 1 else 0) == b
  | .int a, .bl b => a == (if b then 1 else 0)
  | .str a, .str b => a == b
  | .tup l, .tup m => deqs l m
  | .fls l, .fls m => deqs l m
  | _, _ => false
def deqs : List PV → List PV → Bool
  | [], [] => true
  | x :: l, y :: m => deq x y && deqs l m
  | _, _ => false
end
def flat : Nat → PV → Bool
  | _, .non => true
  | _, .bl _ => true
  | _, .int _ => true
  | _, .str _ => true
  | n + 1, .tup l => l.all (flat n)
  | n + 1, .fls l => l.all (flat n)
  | _, _ => false
theorem deqs_range : ∀ (l m : List PV), deqs l m = ((List.range (min l.length m.length)).all (fun i => deq (l.getD i .non) (m.getD i .non)) && l.length == m.length)
  | [], [] => by simp [deqs]
  | [], _ :: _ => by simp [deqs]
  | _ :: _, [] => by simp [deqs]
  | x :: l, y :: m => by
    simp only [deqs, deqs_range l m, List.length_cons]
    rw [show min (l.length + 1) (m.length + 1) = min l.length m.length + 1 by omega, List.range_succ_eq_map, List.all_cons, List.all_map]
    simp only [List.getD_cons_zero, Bool.and_assoc]
    congr 1
    congr 1
    simp
theorem deqs_refl {n : Nat} : ∀ (l : List PV), (∀ x ∈ l, deq x x = true) → deqs l l = true
  | [], _ => rfl
  | x :: l, h => by
    have h1 := h x (by simp)
    have h2 := deqs_refl (n := n) l fun y hy => h y (by simp [hy])
    simp only [deqs, h1, h2, Bool.and_self]
theorem deq_refl : ∀ {n : Nat} {x : PV}, flat n x = true → deq x x = true
  | _, .non, _ => by simp [deq]
  | _, .bl _, _ => by simp [deq]
  | _, .int _, _ => by simp [deq]
  | _, .str _, _ => by simp [deq]
  | n + 1, .tup l, h => by
    simp only [flat, List.all_eq_true] at h
    simp only [deq]
    exact deqs_refl (n := 0) l fun x hx => deq_refl (h x hx)
  | n + 1, .fls l, h => by
    simp only [flat, List.all_eq_true] at h
    simp only [deq]
    exact deqs_refl (n := 0) l fun x hx => deq_refl (h x hx)
  | 0, .tup _, h => by cases h
  | 0, .fls _, h => by cases h
  | n, .ref _, h => by cases n <;> cases h
  | n, .oth _, h => by cases n <;> cases h
section
variable {X : Cx} {pins : List (Addr × Obj)} {σ : L2.St} {H : Hp} {s : Shared}
def RR (K : PySem.W.Frag) (H : Hp) (x : PV) (u : Value) : Prop := ∃ v, RP K H x v ∧ RelV v u
def RL (K : PySem.W.Frag) (H : Hp) (l : List PV) (us : List Value) : Prop := ∃ vs, RPs K H l vs ∧ Vals vs us
def RD (K : PySem.W.Frag) (H : Hp) (x : PV) (u : Value) : Prop := match x with
  | .fls l => ∃ a vs, u = .ref a ∧ SqL K H a vs ∧ RPs K H l vs
  | x => RR K H x u
theorem RL.get {K : PySem.W.Frag} {l : List PV} {us : List Value} (r : RL K H l us) {i : Nat} {u : Value} (e : us[i]? = some u) : ∃ x, l[i]? = some x ∧ RR K H x u := by
  obtain ⟨vs, r1, r2⟩ := r
  have hl := r2.length
  have hl2 := RPs.length _ r1
  have hi : i < l.length := by
    have := (List.getElem?_eq_some_iff.mp e).1
    omega
  obtain ⟨v, e1, e2⟩ := RPs.get _ r1 (List.getElem?_eq_getElem hi)
  obtain ⟨w, e3, e4⟩ := r2.get e1
  rw [e] at e3; cases e3
  exact ⟨_, List.getElem?_eq_getElem hi, v, e2, e4⟩
theorem RL.length {K : PySem.W.Frag} {l : List PV} {us : List Value} (r : RL K H l us) : us.length = l.length := by
  obtain ⟨vs, r1, r2⟩ := r
  rw [← r2.length, RPs.length _ r1]
theorem RR.rd {K : PySem.W.Frag} {x : PV} {u : Value} (r : RR K H x u) : RD K H x u := by
  cases x with
  | fls l =>
    obtain ⟨v, r1, r2⟩ := r
    simp only [RP] at r1
    obtain ⟨a, us, rfl, q, rr⟩ := r1
    cases r2
    exact ⟨a, us, rfl, q.sq, rr⟩
  | _ => exact r
theorem rd_tup (I : Inv X pins σ H s) {l : List PV} {u : Value} (r : RD X.K H (.tup l) u) : ∃ a its, u = .ref a ∧ RL X.K H l its ∧ s.heap.IsTuple a its.toArray := by
  obtain ⟨v, r1, r2⟩ := r
  simp only [RP] at r1
  obtain ⟨a, us, rfl, q, rr⟩ := r1
  cases r2
  obtain ⟨its, rv, p, _⟩ := I.tuple q
  exact ⟨a, its, rfl, ⟨us, rr, rv⟩, p⟩
theorem rd_lst (I : Inv X pins σ H s) {l : List PV} {u : Value} (r : RD X.K H (.fls l) u) : ∃ a its, u = .ref a ∧ RL X.K H l its ∧ s.heap.IsList a its.toArray := by
  obtain ⟨a, us, rfl, q, rr⟩ := r
  obtain ⟨its, rv, p, _⟩ := I.list q
  exact ⟨a, its, rfl, ⟨us, rr, rv⟩, p.isList⟩
theorem isTuple_inj {a : Addr} {x y : Array Value} (h1 : s.heap.IsTuple a x) (h2 : s.heap.IsTuple a y) : x = y := by
  obtain ⟨o, e, c, n, d⟩ := h1
  obtain ⟨o', e', c', n', d'⟩ := h2
  rw [e] at e'; cases e'; rw [d] at d'; cases d'; rfl
theorem isList_inj {a : Addr} {x y : Array Value} (h1 : s.heap.IsList a x) (h2 : s.heap.IsList a y) : x = y := by
  obtain ⟨o, e, c, n, d⟩ := h1
  obtain ⟨o', e', c', n', d'⟩ := h2
  rw [e] at e'; cases e'; rw [d] at d'; cases d'; rfl
theorem not_both {a : Addr} {x y : Array Value} (h1 : s.heap.IsTuple a x) (h2 : s.heap.IsList a y) : False := by
  obtain ⟨o, e, c, n, d⟩ := h1
  obtain ⟨o', e', c', n', d'⟩ := h2
  rw [e] at e'; cases e'; rw [c] at c'; exact absurd c' (by decide)
theorem RL.list_inj {K : PySem.W.Frag} {n : Nat} (ih : ∀ {x y : PV} {u : Value}, flat n x = true → flat n y = true → RD K H x u → RD K H y u → x = y) {l m : List PV} {us : List Value} (h1 : l.all (flat n) = true) (h2 : m.all (flat n) = true)
    (r1 : RL K H l us) (r2 : RL K H m us) : l = m := by
  rw [List.all_eq_true] at h1 h2
  refine List.ext_getElem? fun i => ?_
  cases e : us[i]? with
  | none =>
    have := List.getElem?_eq_none_iff.mp e
    rw [List.getElem?_eq_none (by rw [← r1.length]; exact this), List.getElem?_eq_none (by rw [← r2.length]; exact this)]
  | some u =>
    obtain ⟨x, ex, rx⟩ := r1.get e
    obtain ⟨y, ey, ry⟩ := r2.get e
    rw [ex, ey, ih (h1 x (List.mem_of_getElem? ex)) (h2 y (List.mem_of_getElem? ey)) rx.rd ry.rd]
theorem rd_inj (I : Inv X pins σ H s) : ∀ (n : Nat) {x y : PV} {u : Value}, flat n x = true → flat n y = true → RD X.K H x u → RD X.K H y u → x = y := by
  have sc : ∀ {x : PV} {u : Value}, RD X.K H x u → (∀ l, x ≠ .fls l) → RR X.K H x u := fun {x u} r h => by
    cases x with
    | fls l => exact absurd rfl (h l)
    | _ => exact r
  intro n
  induction n with
  | zero =>
    intro x y u hx hy rx ry
    cases x <;> first | (cases hx; done) | skip
    all_goals cases y <;> first | (cases hy; done) | skip
    all_goals
      obtain ⟨v, r1, r2⟩ := sc rx (by intro l z; cases z)
      obtain ⟨v', r1', r2'⟩ := sc ry (by intro l z; cases z)
      simp only [RP] at r1 r1'
      subst r1; subst r1'
      have := RelV.inj r2 r2'
      first | rfl | (cases this; done) | (cases this; rfl)
  | succ n ih =>
    intro x y u hx hy rx ry
    cases x with
    | tup l =>
      obtain ⟨a, its, rfl, rl, p⟩ := rd_tup I rx
      cases y with
      | tup m =>
        obtain ⟨b, its', e, rl', p'⟩ := rd_tup I ry
        cases e
        have := isTuple_inj p p'
        have e2 : its = its' := by simpa using this
        subst e2
        rw [RL.list_inj (n := n) ih hx hy rl rl']
      | fls m =>
        obtain ⟨b, its', e, rl', p'⟩ := rd_lst I ry
        cases e
        exact (not_both p p').elim
      | ref a => cases hy
      | oth a => cases hy
      | _ =>
        obtain ⟨v', r1', r2'⟩ := sc ry (by intro l z; cases z)
        simp only [RP] at r1'
        subst r1'
        simp [L2.RelV] at r2'
    | fls l =>
      obtain ⟨a, its, rfl, rl, p⟩ := rd_lst I rx
      cases y with
      | tup m =>
        obtain ⟨b, its', e, rl', p'⟩ := rd_tup I ry
        cases e
        exact (not_both p' p).elim
      | fls m =>
        obtain ⟨b, its', e, rl', p'⟩ := rd_lst I ry
        cases e
        have := isList_inj p p'
        have e2 : its = its' := by simpa using this
        subst e2
        rw [RL.list_inj (n := n) ih hx hy rl rl']
      | ref a => cases hy
      | oth a => cases hy
      | _ =>
        obtain ⟨v', r1', r2'⟩ := sc ry (by intro l z; cases z)
        simp only [RP] at r1'
        subst r1'
        simp [L2.RelV] at r2'
    | ref a => cases hx
    | oth a => cases hx
    | _ =>
      cases y with
      | tup m =>
        obtain ⟨b, its', e, rl', p'⟩ := rd_tup I ry
        subst e
        obtain ⟨v', r1', r2'⟩ := sc rx (by intro l z; cases z)
        simp only [RP] at r1'
        subst r1'
        simp [L2.RelV] at r2'
      | fls m =>
        obtain ⟨b, its', e, rl', p'⟩ := rd_lst I ry
        subst e
        obtain ⟨v', r1', r2'⟩ := sc rx (by intro l z; cases z)
        simp only [RP] at r1'
        subst r1'
        simp [L2.RelV] at r2'
      | ref a => cases hy
      | oth a => cases hy
      | _ =>
        obtain ⟨v, r1, r2⟩ := sc rx (by intro l z; cases z)
        obtain ⟨v', r1', r2'⟩ := sc ry (by intro l z; cases z)
        simp only [RP] at r1 r1'
        subst r1; subst r1'
        have := RelV.inj r2 r2'
        first | rfl | (cases this; done) | (cases this; rfl)

open SeqAt in
theorem eq_core (I : Inv X pins σ H s) : ∀ (n : Nat) {A : Around} {x y : PV} {u w : Value}, A.units + n < cLine → flat n x = true → flat n y = true → RD X.K H x u → RD X.K H y w → EqAt A s u w (deq x y) ∧ RcAt A s u w (deq x y) := by
  have sc : ∀ {x : PV} {u : Value}, RD X.K H x u → (∀ l, x ≠ .fls l) → RR X.K H x u := fun {x u} r h => by
    cases x with
    | fls l => exact absurd rfl (h l)
    | _ => exact r
  have v_non : ∀ {u : Value}, RD X.K H .non u → u = .none := fun {u} r => by
    obtain ⟨v, r1, r2⟩ := sc r (by intro l z; cases z); simp only [RP] at r1; subst r1; exact r2
  have v_bl : ∀ {b : Bool} {u : Value}, RD X.K H (.bl b) u → u = .bool b := fun {b u} r => by
    obtain ⟨v, r1, r2⟩ := sc r (by intro l z; cases z); simp only [RP] at r1; subst r1; exact r2
  have v_int : ∀ {i : Int} {u : Value}, RD X.K H (.int i) u → ∃ t, u = .int i t := fun {b u} r => by
    obtain ⟨v, r1, r2⟩ := sc r (by intro l z; cases z); simp only [RP] at r1; subst r1; exact r2
  have v_str : ∀ {i : Str} {u : Value}, RD X.K H (.str i) u → ∃ t, u = .str i t := fun {b u} r => by
    obtain ⟨v, r1, r2⟩ := sc r (by intro l z; cases z); simp only [RP] at r1; subst r1; exact r2
  intro n
  induction n with
  | zero =>
    intro A x y u w hu hx hy rx ry
    cases x with
    | non =>
      rw [v_non rx]
      cases y with
      | non => rw [v_non ry]; exact ⟨EqAt.same _, RcAt.none_none⟩
      | bl b => rw [v_bl ry]; exact ⟨EqAt.none_bool b, RcAt.none_bool b⟩
      | int b => obtain ⟨t, rfl⟩ := v_int ry; exact ⟨EqAt.none_int b t, RcAt.none_int b t⟩
      | str b => obtain ⟨t, rfl⟩ := v_str ry; exact ⟨EqAt.none_str b t, RcAt.none_str b t⟩
      | _ => cases hy
    | bl a =>
      rw [v_bl rx]
      cases y with
      | non => rw [v_non ry]; exact ⟨EqAt.bool_none a, RcAt.bool_none a⟩
      | bl b => rw [v_bl ry]; exact ⟨EqAt.bool_bool a b, RcAt.bool_bool a b⟩
      | int b => obtain ⟨t, rfl⟩ := v_int ry; exact ⟨EqAt.bool_int a b t, RcAt.bool_int a b t⟩
      | str b => obtain ⟨t, rfl⟩ := v_str ry; exact ⟨EqAt.bool_str a b t, RcAt.bool_str a b t⟩
      | _ => cases hy
    | int a =>
      obtain ⟨t0, rfl⟩ := v_int rx
      cases y with
      | non => rw [v_non ry]; exact ⟨EqAt.int_none a t0, RcAt.int_none a t0⟩
      | bl b => rw [v_bl ry]; exact ⟨EqAt.int_bool a t0 b, RcAt.int_bool a t0 b⟩
      | int b => obtain ⟨t, rfl⟩ := v_int ry; exact ⟨EqAt.int_int a t0 b t, RcAt.int_int a t0 b t⟩
      | str b => obtain ⟨t, rfl⟩ := v_str ry; exact ⟨EqAt.int_str a t0 b t, RcAt.int_str a t0 b t⟩
      | _ => cases hy
    | str a =>
      obtain ⟨t0, rfl⟩ := v_str rx
      cases y with
      | non => rw [v_non ry]; exact ⟨EqAt.str_none a t0, RcAt.str_none a t0⟩
      | bl b => rw [v_bl ry]; exact ⟨EqAt.str_bool a t0 b, RcAt.str_bool a t0 b⟩
      | int b => obtain ⟨t, rfl⟩ := v_int ry; exact ⟨EqAt.str_int a t0 b t, RcAt.str_int a t0 b t⟩
      | str b => obtain ⟨t, rfl⟩ := v_str ry; exact ⟨EqAt.str_str a t0 b t, RcAt.str_str a t0 b t⟩
      | _ => cases hy
    | _ => cases hx
  | succ n ih =>
    intro A x y u w hu hx hy rx ry
    have hu0 : A.units < cLine := by omega
    have hu1 : A.in1.units + n < cLine := by show A.units + 1 + n < cLine; omega
    cases x with
    | tup l =>
      obtain ⟨a, its, rfl, rl, p⟩ := rd_tup I rx
      cases y with
      | non => rw [v_non ry]; exact ⟨EqAt.tuple_none p hu0, RcAt.tuple_none p hu0⟩
      | bl b => rw [v_bl ry]; exact ⟨EqAt.tuple_bool b p hu0, RcAt.tuple_bool b p hu0⟩
      | int b => obtain ⟨t, rfl⟩ := v_int ry; exact ⟨EqAt.tuple_int b t p hu0, RcAt.tuple_int b t p hu0⟩
      | str b => obtain ⟨t, rfl⟩ := v_str ry; exact ⟨EqAt.tuple_str b t p hu0, RcAt.tuple_str b t p hu0⟩
      | tup m =>
        obtain ⟨b, its', rfl, rl', p'⟩ := rd_tup I ry
        have key : RcAt A s (.ref a) (.ref b) (deq (.tup l) (.tup m)) := by
          have := RcAt.tuples (e := fun i => deq (l.getD i .non) (m.getD i .non)) p p' hu0 fun j h1 h2 => by
            have h1' : j < its.length := by simpa using h1
            have h2' : j < its'.length := by simpa using h2
            obtain ⟨x, ex, rx'⟩ := rl.get (List.getElem?_eq_getElem h1')
            obtain ⟨y, ey, ry'⟩ := rl'.get (List.getElem?_eq_getElem h2')
            have q := ih hu1 (List.all_eq_true.mp hx x (List.mem_of_getElem? ex)) (List.all_eq_true.mp hy y (List.mem_of_getElem? ey)) rx'.rd ry'.rd
            have e1 : l.getD j .non = x := by rw [List.getD_eq_getElem?_getD, ex]; rfl
            have e2 : m.getD j .non = y := by rw [List.getD_eq_getElem?_getD, ey]; rfl
            rw [e1, e2]
            simpa using q.1
          have e : deq (.tup l) (.tup m) = ((List.range (min its.toArray.size its'.toArray.size)).all (fun i => deq (l.getD i .non) (m.getD i .non)) && its.toArray.size == its'.toArray.size) := by
            simp only [deq, deqs_range, List.size_toArray, rl.length, rl'.length]
          rw [e]; exact this
        refine ⟨?_, key⟩
        by_cases hab : a = b
        · subst hab
          have := rd_inj I (n + 1) hx hy rx ry
          rw [← this, deq_refl hx]; exact EqAt.same _
        · exact EqAt.of_refs hab key
      | fls m =>
        obtain ⟨b, its', rfl, rl', p'⟩ := rd_lst I ry
        exact ⟨EqAt.tuple_list p p' hu0, RcAt.tuple_list p p' hu0⟩
      | _ => cases hy
    | fls l =>
      obtain ⟨a, its, rfl, rl, p⟩ := rd_lst I rx
      cases y with
      | non => rw [v_non ry]; exact ⟨EqAt.list_none p hu0, RcAt.list_none p hu0⟩
      | bl b => rw [v_bl ry]; exact ⟨EqAt.list_bool b p hu0, RcAt.list_bool b p hu0⟩
      | int b => obtain ⟨t, rfl⟩ := v_int ry; exact ⟨EqAt.list_int b t p hu0, RcAt.list_int b t p hu0⟩
      | str b => obtain ⟨t, rfl⟩ := v_str ry; exact ⟨EqAt.list_str b t p hu0, RcAt.list_str b t p hu0⟩
      | tup m =>
        obtain ⟨b, its', rfl, rl', p'⟩ := rd_tup I ry
        exact ⟨EqAt.list_tuple p p' hu0, RcAt.list_tuple p p' hu0⟩
      | fls m =>
        obtain ⟨b, its', rfl, rl', p'⟩ := rd_lst I ry
        have key : RcAt A s (.ref a) (.ref b) (deq (.fls l) (.fls m)) := by
          by_cases hs : its.length = its'.length
          · have := RcAt.lists (e := fun i => deq (l.getD i .non) (m.getD i .non)) p p' (by simpa using hs) hu0 fun j h1 h2 => by
              have h1' : j < its.length := by simpa using h1
              have h2' : j < its'.length := by simpa using h2
              obtain ⟨x, ex, rx'⟩ := rl.get (List.getElem?_eq_getElem h1')
              obtain ⟨y, ey, ry'⟩ := rl'.get (List.getElem?_eq_getElem h2')
              have q := ih hu1 (List.all_eq_true.mp hx x (List.mem_of_getElem? ex)) (List.all_eq_true.mp hy y (List.mem_of_getElem? ey)) rx'.rd ry'.rd
              have e1 : l.getD j .non = x := by rw [List.getD_eq_getElem?_getD, ex]; rfl
              have e2 : m.getD j .non = y := by rw [List.getD_eq_getElem?_getD, ey]; rfl
              rw [e1, e2]
              simpa using q.1
            have e : deq (.fls l) (.fls m) = (List.range its.toArray.size).all (fun i => deq (l.getD i .non) (m.getD i .non)) := by
              have e0 : l.length = m.length := by rw [← rl.length, ← rl'.length]; exact hs
              simp [deq, deqs_range, rl.length, e0]
            rw [e]; exact this
          · have e : deq (.fls l) (.fls m) = false := by
              have e0 : l.length ≠ m.length := by rw [← rl.length, ← rl'.length]; exact hs
              simp [deq, deqs_range, e0]
            rw [e]
            exact RcAt.lists_lengths p p' (by simpa using hs) hu0
        refine ⟨?_, key⟩
        by_cases hab : a = b
        · subst hab
          have := rd_inj I (n + 1) hx hy rx ry
          rw [← this, deq_refl hx]; exact EqAt.same _
        · exact EqAt.of_refs hab key
      | _ => cases hy
    | ref a => cases hx
    | oth a => cases hx
    | non =>
      cases y with
      | tup m => obtain ⟨b, its', rfl, rl', p'⟩ := rd_tup I ry; rw [v_non rx]; exact ⟨EqAt.none_tuple p' hu0, RcAt.none_tuple p' hu0⟩
      | fls m => obtain ⟨b, its', rfl, rl', p'⟩ := rd_lst I ry; rw [v_non rx]; exact ⟨EqAt.none_list p' hu0, RcAt.none_list p' hu0⟩
      | ref a => cases hy
      | oth a => cases hy
      | _ => exact ih (by omega) (by cases n <;> rfl) (by cases n <;> rfl) rx ry
    | bl i =>
      cases y with
      | tup m => obtain ⟨b, its', rfl, rl', p'⟩ := rd_tup I ry; rw [v_bl rx]; exact ⟨EqAt.bool_tuple i p' hu0, RcAt.bool_tuple i p' hu0⟩
      | fls m => obtain ⟨b, its', rfl, rl', p'⟩ := rd_lst I ry; rw [v_bl rx]; exact ⟨EqAt.bool_list i p' hu0, RcAt.bool_list i p' hu0⟩
      | ref a => cases hy
      | oth a => cases hy
      | _ => exact ih (by omega) (by cases n <;> rfl) (by cases n <;> rfl) rx ry
    | int i =>
      cases y with
      | tup m => obtain ⟨b, its', rfl, rl', p'⟩ := rd_tup I ry; obtain ⟨t, rfl⟩ := v_int rx; exact ⟨EqAt.int_tuple i t p' hu0, RcAt.int_tuple i t p' hu0⟩
      | fls m => obtain ⟨b, its', rfl, rl', p'⟩ := rd_lst I ry; obtain ⟨t, rfl⟩ := v_int rx; exact ⟨EqAt.int_list i t p' hu0, RcAt.int_list i t p' hu0⟩
      | ref a => cases hy
      | oth a => cases hy
      | _ => exact ih (by omega) (by cases n <;> rfl) (by cases n <;> rfl) rx ry
    | str i =>
      cases y with
      | tup m => obtain ⟨b, its', rfl, rl', p'⟩ := rd_tup I ry; obtain ⟨t, rfl⟩ := v_str rx; exact ⟨EqAt.str_tuple i t p' hu0, RcAt.str_tuple i t p' hu0⟩
      | fls m => obtain ⟨b, its', rfl, rl', p'⟩ := rd_lst I ry; obtain ⟨t, rfl⟩ := v_str rx; exact ⟨EqAt.str_list i t p' hu0, RcAt.str_list i t p' hu0⟩
      | ref a => cases hy
      | oth a => cases hy
      | _ => exact ih (by omega) (by cases n <;> rfl) (by cases n <;> rfl) rx ry
end
end U


set_option linter.all false
set_option maxRecDepth 100000
set_option maxHeartbeats 4000000
namespace U
open PySem PySem.Spec PyProof.Rows L2
variable {B : Bs}
section
variable {X : Cx} {pins : List (Addr × Obj)} {σ : L2.St} {H : Hp} {s : Shared}
open SeqAt in
theorem ne_core (I : Inv X pins σ H s) : ∀ (n : Nat) {A : Around} {x y : PV} {u w : Value}, A.units + n < cLine → flat n x = true → flat n y = true → RD X.K H x u → RD X.K H y w → RcNeAt A s u w (!deq x y) := by
  have sc : ∀ {x : PV} {u : Value}, RD X.K H x u → (∀ l, x ≠ .fls l) → RR X.K H x u := fun {x u} r h => by
    cases x with
    | fls l => exact absurd rfl (h l)
    | _ => exact r
  have v_non : ∀ {u : Value}, RD X.K H .non u → u = .none := fun {u} r => by
    obtain ⟨v, r1, r2⟩ := sc r (by intro l z; cases z); simp only [RP] at r1; subst r1; exact r2
  have v_bl : ∀ {b : Bool} {u : Value}, RD X.K H (.bl b) u → u = .bool b := fun {b u} r => by
    obtain ⟨v, r1, r2⟩ := sc r (by intro l z; cases z); simp only [RP] at r1; subst r1; exact r2
  have v_int : ∀ {i : Int} {u : Value}, RD X.K H (.int i) u → ∃ t, u = .int i t := fun {b u} r => by
    obtain ⟨v, r1, r2⟩ := sc r (by intro l z; cases z); simp only [RP] at r1; subst r1; exact r2
  have v_str : ∀ {i : Str} {u : Value}, RD X.K H (.str i) u → ∃ t, u = .str i t := fun {b u} r => by
    obtain ⟨v, r1, r2⟩ := sc r (by intro l z; cases z); simp only [RP] at r1; subst r1; exact r2
  intro n
  induction n with
  | zero =>
    intro A x y u w hu hx hy rx ry
    cases x with
    | non =>
      rw [v_non rx]
      cases y with
      | non => rw [v_non ry]; exact RcNeAt.none_none
      | bl b => rw [v_bl ry]; exact RcNeAt.none_bool b
      | int b => obtain ⟨t, rfl⟩ := v_int ry; exact RcNeAt.none_int b t
      | str b => obtain ⟨t, rfl⟩ := v_str ry; exact RcNeAt.none_str b t
      | _ => cases hy
    | bl a =>
      rw [v_bl rx]
      cases y with
      | non => rw [v_non ry]; exact RcNeAt.bool_none a
      | bl b => rw [v_bl ry]; exact RcNeAt.bool_bool a b
      | int b => obtain ⟨t, rfl⟩ := v_int ry; exact RcNeAt.bool_int a b t
      | str b => obtain ⟨t, rfl⟩ := v_str ry; exact RcNeAt.bool_str a b t
      | _ => cases hy
    | int a =>
      obtain ⟨t0, rfl⟩ := v_int rx
      cases y with
      | non => rw [v_non ry]; exact RcNeAt.int_none a t0
      | bl b => rw [v_bl ry]; exact RcNeAt.int_bool a t0 b
      | int b => obtain ⟨t, rfl⟩ := v_int ry; exact RcNeAt.int_int a t0 b t
      | str b => obtain ⟨t, rfl⟩ := v_str ry; exact RcNeAt.int_str a t0 b t
      | _ => cases hy
    | str a =>
      obtain ⟨t0, rfl⟩ := v_str rx
      cases y with
      | non => rw [v_non ry]; exact RcNeAt.str_none a t0
      | bl b => rw [v_bl ry]; exact RcNeAt.str_bool a t0 b
      | int b => obtain ⟨t, rfl⟩ := v_int ry; exact RcNeAt.str_int a t0 b t
      | str b => obtain ⟨t, rfl⟩ := v_str ry; exact RcNeAt.str_str a t0 b t
      | _ => cases hy
    | _ => cases hx
  | succ n ih =>
    intro A x y u w hu hx hy rx ry
    have hu0 : A.units < cLine := by omega
    have hu1 : A.in1.units + n < cLine := by show A.units + 1 + n < cLine; omega
    cases x with
    | tup l =>
      obtain ⟨a, its, rfl, rl, p⟩ := rd_tup I rx
      cases y with
      | non => rw [v_non ry]; exact RcNeAt.tuple_none p hu0
      | bl b => rw [v_bl ry]; exact RcNeAt.tuple_bool b p hu0
      | int b => obtain ⟨t, rfl⟩ := v_int ry; exact RcNeAt.tuple_int b t p hu0
      | str b => obtain ⟨t, rfl⟩ := v_str ry; exact RcNeAt.tuple_str b t p hu0
      | tup m =>
        obtain ⟨b, its', rfl, rl', p'⟩ := rd_tup I ry
        have key : RcNeAt A s (.ref a) (.ref b) (!deq (.tup l) (.tup m)) := by
          have := RcNeAt.tuples (e := fun i => deq (l.getD i .non) (m.getD i .non)) p p' hu0 fun j h1 h2 => by
            have h1' : j < its.length := by simpa using h1
            have h2' : j < its'.length := by simpa using h2
            obtain ⟨x, ex, rx'⟩ := rl.get (List.getElem?_eq_getElem h1')
            obtain ⟨y, ey, ry'⟩ := rl'.get (List.getElem?_eq_getElem h2')
            have q := eq_core I n hu1 (List.all_eq_true.mp hx x (List.mem_of_getElem? ex)) (List.all_eq_true.mp hy y (List.mem_of_getElem? ey)) rx'.rd ry'.rd
            have e1 : l.getD j .non = x := by rw [List.getD_eq_getElem?_getD, ex]; rfl
            have e2 : m.getD j .non = y := by rw [List.getD_eq_getElem?_getD, ey]; rfl
            rw [e1, e2]
            simpa using q.1
          have e : deq (.tup l) (.tup m) = ((List.range (min its.toArray.size its'.toArray.size)).all (fun i => deq (l.getD i .non) (m.getD i .non)) && its.toArray.size == its'.toArray.size) := by
            simp only [deq, deqs_range, List.size_toArray, rl.length, rl'.length]
          rw [e]; exact this
        exact key
      | fls m =>
        obtain ⟨b, its', rfl, rl', p'⟩ := rd_lst I ry
        exact RcNeAt.tuple_list p p' hu0
      | _ => cases hy
    | fls l =>
      obtain ⟨a, its, rfl, rl, p⟩ := rd_lst I rx
      cases y with
      | non => rw [v_non ry]; exact RcNeAt.list_none p hu0
      | bl b => rw [v_bl ry]; exact RcNeAt.list_bool b p hu0
      | int b => obtain ⟨t, rfl⟩ := v_int ry; exact RcNeAt.list_int b t p hu0
      | str b => obtain ⟨t, rfl⟩ := v_str ry; exact RcNeAt.list_str b t p hu0
      | tup m =>
        obtain ⟨b, its', rfl, rl', p'⟩ := rd_tup I ry
        exact RcNeAt.list_tuple p p' hu0
      | fls m =>
        obtain ⟨b, its', rfl, rl', p'⟩ := rd_lst I ry
        have key : RcNeAt A s (.ref a) (.ref b) (!deq (.fls l) (.fls m)) := by
          by_cases hs : its.length = its'.length
          · have := RcNeAt.lists (e := fun i => deq (l.getD i .non) (m.getD i .non)) p p' (by simpa using hs) hu0 fun j h1 h2 => by
              have h1' : j < its.length := by simpa using h1
              have h2' : j < its'.length := by simpa using h2
              obtain ⟨x, ex, rx'⟩ := rl.get (List.getElem?_eq_getElem h1')
              obtain ⟨y, ey, ry'⟩ := rl'.get (List.getElem?_eq_getElem h2')
              have q := eq_core I n hu1 (List.all_eq_true.mp hx x (List.mem_of_getElem? ex)) (List.all_eq_true.mp hy y (List.mem_of_getElem? ey)) rx'.rd ry'.rd
              have e1 : l.getD j .non = x := by rw [List.getD_eq_getElem?_getD, ex]; rfl
              have e2 : m.getD j .non = y := by rw [List.getD_eq_getElem?_getD, ey]; rfl
              rw [e1, e2]
              simpa using q.1
            have e : deq (.fls l) (.fls m) = (List.range its.toArray.size).all (fun i => deq (l.getD i .non) (m.getD i .non)) := by
              have e0 : l.length = m.length := by rw [← rl.length, ← rl'.length]; exact hs
              simp [deq, deqs_range, rl.length, e0]
            rw [e]; exact this
          · have e : deq (.fls l) (.fls m) = false := by
              have e0 : l.length ≠ m.length := by rw [← rl.length, ← rl'.length]; exact hs
              simp [deq, deqs_range, e0]
            rw [e]
            exact RcNeAt.lists_lengths p p' (by simpa using hs) hu0
        exact key
      | _ => cases hy
    | ref a => cases hx
    | oth a => cases hx
    | non =>
      cases y with
      | tup m => obtain ⟨b, its', rfl, rl', p'⟩ := rd_tup I ry; rw [v_non rx]; exact RcNeAt.none_tuple p' hu0
      | fls m => obtain ⟨b, its', rfl, rl', p'⟩ := rd_lst I ry; rw [v_non rx]; exact RcNeAt.none_list p' hu0
      | ref a => cases hy
      | oth a => cases hy
      | _ => exact ih (by omega) (by cases n <;> rfl) (by cases n <;> rfl) rx ry
    | bl i =>
      cases y with
      | tup m => obtain ⟨b, its', rfl, rl', p'⟩ := rd_tup I ry; rw [v_bl rx]; exact RcNeAt.bool_tuple i p' hu0
      | fls m => obtain ⟨b, its', rfl, rl', p'⟩ := rd_lst I ry; rw [v_bl rx]; exact RcNeAt.bool_list i p' hu0
      | ref a => cases hy
      | oth a => cases hy
      | _ => exact ih (by omega) (by cases n <;> rfl) (by cases n <;> rfl) rx ry
    | int i =>
      cases y with
      | tup m => obtain ⟨b, its', rfl, rl', p'⟩ := rd_tup I ry; obtain ⟨t, rfl⟩ := v_int rx; exact RcNeAt.int_tuple i t p' hu0
      | fls m => obtain ⟨b, its', rfl, rl', p'⟩ := rd_lst I ry; obtain ⟨t, rfl⟩ := v_int rx; exact RcNeAt.int_list i t p' hu0
      | ref a => cases hy
      | oth a => cases hy
      | _ => exact ih (by omega) (by cases n <;> rfl) (by cases n <;> rfl) rx ry
    | str i =>
      cases y with
      | tup m => obtain ⟨b, its', rfl, rl', p'⟩ := rd_tup I ry; obtain ⟨t, rfl⟩ := v_str rx; exact RcNeAt.str_tuple i t p' hu0
      | fls m => obtain ⟨b, its', rfl, rl', p'⟩ := rd_lst I ry; obtain ⟨t, rfl⟩ := v_str rx; exact RcNeAt.str_list i t p' hu0
      | ref a => cases hy
      | oth a => cases hy
      | _ => exact ih (by omega) (by cases n <;> rfl) (by cases n <;> rfl) rx ry

def RDv (K : PySem.W.Frag) (H : Hp) (d : PV) (x : V) : Prop := match d with
  | .fls l => ∃ a vs, x = .ref a ∧ SqL K H a vs ∧ RPs K H l vs
  | d => RP K H d x
theorem RDv.rd {K : PySem.W.Frag} {d : PV} {x : V} {u : Value} (h : RDv K H d x) (r : L2.RelV x u) : RD K H d u := by
  cases d with
  | fls l => obtain ⟨a, vs, rfl, q, rr⟩ := h; cases r; exact ⟨a, vs, rfl, q, rr⟩
  | _ => exact ⟨x, h, r⟩
def withD (x : PV) (H : PHp) (k : PV → Prop) : Prop := match x with
  | .ref a => ∃ l, H a = some (.lst l) ∧ k (.fls l)
  | x => k x
theorem withD.ex {K : PySem.W.Frag} {σ' : St'} {x : PV} {v : V} {H' : PHp} {k : PV → Prop} (h : withD x H' k) (s : SR K B σ' H' σ H) (r : RP K H x v) : ∃ d, RDv K H d v ∧ k d := by
  cases x with
  | ref a =>
    obtain ⟨l, e, h⟩ := h
    obtain ⟨us, q, r2⟩ := s.hp _ _ e
    simp only [RP] at r
    exact ⟨.fls l, ⟨a, us, r, SqL.of q, r2⟩, h⟩
  | fls l =>
    simp only [RP] at r
    obtain ⟨a, us, e, q, r⟩ := r
    exact ⟨.fls l, ⟨a, us, e, q.sq, r⟩, h⟩
  | non => exact ⟨.non, r, h⟩
  | bl b => exact ⟨.bl b, r, h⟩
  | int b => exact ⟨.int b, r, h⟩
  | str b => exact ⟨.str b, r, h⟩
  | tup b => exact ⟨.tup b, r, h⟩
  | oth b => exact ⟨.oth b, r, h⟩
def rEqU (K : PySem.W.Frag) (g : Bool → Bool) : R2 := fun x y H Q => ∃ d1 d2, flat 9 d1 = true ∧ flat 9 d2 = true ∧ RDv K H d1 x ∧ RDv K H d2 y ∧ Q (.bl (g (deq d1 d2))) H
theorem op_eqU (hu : X.A.units + 64 < cLine) : OpR X (compareOp .Eq) (rEqU X.K fun b => b) := by
  intro pins s σ H x y v u Q I rx ry h
  obtain ⟨d1, d2, f1, f2, r1, r2, q⟩ := h
  exact (eq_core I 9 (by omega) f1 f2 (r1.rd rx) (r2.rd ry)).2 _ _ _ _ ⟨.bl _, H, I, rfl, q⟩
theorem op_neU (hu : X.A.units + 64 < cLine) : OpR X (compareOp .NotEq) (rEqU X.K fun b => !b) := by
  intro pins s σ H x y v u Q I rx ry h
  obtain ⟨d1, d2, f1, f2, r1, r2, q⟩ := h
  exact ne_core I 9 (by omega) f1 f2 (r1.rd rx) (r2.rd ry) _ _ _ _ ⟨.bl _, H, I, rfl, q⟩
def uEqG (g : Bool → Bool) : R2' := fun x y H Q => withD x H fun d1 => withD y H fun d2 => flat 9 d1 = true ∧ flat 9 d2 = true ∧ Q (.bl (g (deq d1 d2))) H
theorem vr_eq {K : PySem.W.Frag} {g : Bool → Bool} : VR K B (uEqG g) (rEqU K g) := by
  intro σ' σ H' H x' y' x y Q' Q s rx ry h k
  obtain ⟨d1, r1, h1⟩ := withD.ex h s rx
  obtain ⟨d2, r2, f1, f2, q⟩ := withD.ex h1 s ry
  exact ⟨d1, d2, f1, f2, r1, r2, k _ H' _ H q (by simp [RP]) s (Ev.refl _ _)⟩
def uInG (g : Bool → Bool) : R2' := fun x y H Q => withD x H fun d => withS y H fun l => flat 8 d = true ∧ l.all (flat 8) = true ∧ Q (.bl (g (l.any fun z => deq z d))) H
def uIsN (g : Bool → Bool) : R2' := fun x y H Q => match y, x with
  | .non, .non => Q (.bl (g true)) H
  | .non, .oth _ => False
  | .non, _ => Q (.bl (g false)) H
  | _, _ => False
theorem isN_ex {K : PySem.W.Frag} {g : Bool → Bool} {x y : PV} {v w : V} {H' : PHp} {Q' : VK'} (h : uIsN g x y H' Q') (rx : RP K H x v) (ry : RP K H y w) : w = .non ∧ Q' (.bl (g (decide (v = .non)))) H' := by
  cases y with
  | non =>
    simp only [RP] at ry
    refine ⟨ry, ?_⟩
    cases x with
    | non => simp only [RP] at rx; subst rx; exact h
    | oth _ => exact h.elim
    | tup l =>
      simp only [RP] at rx
      obtain ⟨a, us, rfl, _⟩ := rx
      exact h
    | fls l =>
      simp only [RP] at rx
      obtain ⟨a, us, rfl, _⟩ := rx
      exact h
    | _ => simp only [RP] at rx; subst rx; exact h
  | _ => cases x <;> exact h.elim
theorem vr_isN {K : PySem.W.Frag} : VR K B (uIsN fun b => b) (fun x y H Q => y = .non ∧ Q (.bl (decide (x = .non))) H) := by
  intro σ' σ H' H x' y' x y Q' Q s rx ry h k
  obtain ⟨e, q⟩ := isN_ex h rx ry
  exact ⟨e, k _ H' _ H q (by simp [RP]) s (Ev.refl _ _)⟩
inductive BT where | non | bool | int | str | list | tuple
def BT.nm : BT → String | .non => "NoneType" | .bool => "bool" | .int => "int" | .str => "str" | .list => "list" | .tuple => "tuple"
def BT.sub : BT → BT → Bool
  | .non, .non => true | .bool, .bool => true | .int, .int => true | .str, .str => true | .list, .list => true | .tuple, .tuple => true
  | .bool, .int => true
  | _, _ => false
theorem kit_bt (K : PySem.W.Frag) (t c : BT) : PySem.W.kitOne K (.type t.nm) (.type c.nm) = some (t.sub c) := by
  cases t <;> cases c <;> kernel_rfl
def btV (K : PySem.W.Frag) (H : Hp) (t : BT) (x : V) : Prop := match t with
  | .non => x = .non
  | .bool => ∃ b, x = .bl b
  | .int => ∃ b, x = .int b
  | .str => ∃ b, x = .str b
  | .list => ∃ a us, x = .ref a ∧ SqL K H a us
  | .tuple => ∃ a us, x = .ref a ∧ SqT K H a us
theorem call_isiB (c : BT) : CallR X (.builtin "isinstance") (fun xs H Q => ∃ x t, xs = [x, .ty c.nm] ∧ btV X.K H t x ∧ Q (.bl (t.sub c)) H) := by
  intro pins s σ H xs us Q I r h
  obtain ⟨x, t, rfl, ht, q⟩ := h
  obtain ⟨u, w', rfl, rx, rc⟩ := vals2 r
  have e1 : w' = Value.type c.nm := rc
  subst e1
  have k := kit_bt X.K t c
  have fin : ∀ tk, EP X pins σ Q (.bool (t.sub c)) { s with toks := tk } := fun tk => ⟨.bl _, H, I.tok _, rfl, q⟩
  cases t with
  | non => cases (show x = V.non from ht); exact isinst_ok I rx .non k fin
  | bool => obtain ⟨b, rfl⟩ := ht; exact isinst_ok I rx (.bl b) k fin
  | int => obtain ⟨b, rfl⟩ := ht; exact isinst_ok I rx (.int b) k fin
  | str => obtain ⟨b, rfl⟩ := ht; exact isinst_ok I rx (.str b) k fin
  | list =>
    obtain ⟨a, us, rfl, hq⟩ := ht
    cases rx
    obtain ⟨its, rv, pl, _⟩ := I.list hq
    obtain ⟨o, e, hc, _⟩ := pl.isList
    exact PySem.W.kia_one PySem.W.kitx_list I.kIn ⟨o, e, hc⟩ k (fun z => nomatch z) fin
  | tuple =>
    obtain ⟨a, us, rfl, hq⟩ := ht
    cases rx
    obtain ⟨its, rv, pl, _⟩ := I.tuple hq
    obtain ⟨o, e, hc, _⟩ := pl
    exact PySem.W.kia_one PySem.W.kitx_tuple I.kIn ⟨o, e, hc⟩ k (fun z => nomatch z) fin
def withTy (x : PV) (H : PHp) (k : BT → Prop) : Prop := match x with
  | .non => k .non
  | .bl _ => k .bool
  | .int _ => k .int
  | .str _ => k .str
  | .tup _ => k .tuple
  | .fls _ => k .list
  | .ref a => ∃ l, H a = some (.lst l) ∧ k .list
  | _ => False
theorem withTy.ex {K : PySem.W.Frag} {σ' : St'} {x : PV} {v : V} {H' : PHp} {k : BT → Prop} (h : withTy x H' k) (s : SR K B σ' H' σ H) (r : RP K H x v) : ∃ t, btV K H t v ∧ k t := by
  cases x with
  | non => simp only [RP] at r; exact ⟨.non, r, h⟩
  | bl b => simp only [RP] at r; exact ⟨.bool, ⟨b, r⟩, h⟩
  | int b => simp only [RP] at r; exact ⟨.int, ⟨b, r⟩, h⟩
  | str b => simp only [RP] at r; exact ⟨.str, ⟨b, r⟩, h⟩
  | tup l => simp only [RP] at r; obtain ⟨a, us, e, q, _⟩ := r; exact ⟨.tuple, ⟨a, us, e, q⟩, h⟩
  | fls l => simp only [RP] at r; obtain ⟨a, us, e, q, _⟩ := r; exact ⟨.list, ⟨a, us, e, q.sq⟩, h⟩
  | ref a =>
    simp only [RP] at r
    obtain ⟨l, e, h⟩ := h
    obtain ⟨us, q, _⟩ := s.hp _ _ e
    exact ⟨.list, ⟨a, us, r, SqL.of q⟩, h⟩
  | oth _ => exact h.elim
def uIsi (c : BT) : List PV → PHp → VK' → Prop := fun xs H Q => match xs with
  | [x, .oth (.ty n)] => n = c.nm ∧ withTy x H fun t => Q (.bl (t.sub c)) H
  | _ => False
theorem vc_isi {K : PySem.W.Frag} (c : BT) : VC K B (uIsi c) (fun xs H Q => ∃ x t, xs = [x, .ty c.nm] ∧ btV K H t x ∧ Q (.bl (t.sub c)) H) := by
  intro σ' σ H' H xs' xs Q' Q s r h k
  unfold uIsi at h
  split at h
  · rename_i x n
    obtain ⟨rfl, h⟩ := h
    simp only [RPs, RP] at r
    obtain ⟨u, r1, rfl, rx, w, r2, rfl, rfl, rfl⟩ := r
    obtain ⟨t, bt, h⟩ := withTy.ex h s rx
    exact ⟨u, t, rfl, bt, k _ H' _ H h (by simp [RP]) s (Ev.refl _ _)⟩
  · exact h.elim
theorem qe_bty {x : Str} {n : String} {pos : Pos} (hg : Gl X x) (hm : X.mg x = none) (hv : bootBuiltins x = some (.type n)) (hn : x ≠ "__name__" := by decide) (hd : (x == ("__debug__" : Str)) = false := by decide) : PE' X B (.Name x pos) (uC (.oth (.ty n))) :=
  pe_imp (pe_bltn (v := .ty n) hg hm hv rfl hn hd) fun _ _ _ h => lowC (fun _ => by simp [RP]) h
variable {e o : Expr} {es : List Expr} {to : TE'} {t : TA'} {name : Str} {apos cpos : Pos}
def isL (x : PV) (H1 : PHp) : Prop := match x with
  | .ref a => ∃ l, H1 a = some (.lst l)
  | _ => False
def uBM (r : PV → List PV → PHp → VK' → Prop) (to : TE') (t : TA') : TE' := fun σ H Q => to σ H fun x H1 => isL x H1 ∧ t σ H1 fun xs H2 => r x xs H2 Q
def uBM0 (r : PV → List PV → PHp → VK' → Prop) (to : TE') : TE' := fun σ H Q => to σ H fun x H1 => r x [] H1 Q
def VM (K : PySem.W.Frag) (B : Bs) (r' : PV → List PV → PHp → VK' → Prop) (r : V → List V → Hp → VK → Prop) : Prop := ∀ (σ' : St') (σ : L2.St) (H' : PHp) (H : Hp) x' xs' x xs (Q' : VK') (Q : VK), SR K B σ' H' σ H → RP K H x' x → RPs K H xs' xs → r' x' xs' H' Q' →
  (∀ v' H1' v H1, Q' v' H1' → RP K H1 v' v → SR K B σ' H1' σ H1 → Ev H' H H1' H1 → Q v H1) → r x xs H Q
theorem low_bm {K : PySem.W.Frag} {r' : PV → List PV → PHp → VK' → Prop} {r : V → List V → Hp → VK → Prop} (v : VM K B r' r) {σ : L2.St} {H : Hp} {Q : VK} (h : low K B (uBM r' to t) σ H Q) : tBM K "list" r (low K B to) (lowA K B t) σ H Q := by
  obtain ⟨σ', H', Q', s, h, k⟩ := h
  refine ⟨σ', H', _, s, h, fun x' H1' x H1 h1 rx s1 e1 => ?_⟩
  obtain ⟨ty, h1⟩ := h1
  constructor
  · cases x' with
    | ref a =>
      obtain ⟨l, e⟩ := ty
      obtain ⟨us, q, _⟩ := s1.hp _ _ e
      simp only [RP] at rx
      subst rx
      exact .inl ⟨rfl, us, SqL.of q⟩
    | _ => exact ty.elim
  · refine ⟨σ', H1', _, s1, h1, fun xs' H2' xs H2 h2 r2 s2 e2 => ?_⟩
    exact v σ' σ H2' H2 x' xs' x xs Q' Q s2 (RP.kp K (e2.kp s1.hp) rx) r2 h2 fun v' H3' v H3 q rv s3 e3 => k v' H3' v H3 q rv s3 (e1.trans (e2.trans e3))
theorem qe_bm {id : String} {r' : PV → List PV → PHp → VK' → Prop} {r : V → List V → Hp → VK → Prop} (slot : Slot "list" name id) (hty : typeOf (.builtin id) = pure (.type "method_descriptor")) (hm : MtR X id r) (v : VM X.K B r' r) (ho : PE' X B o to) (ha : PA' X B (e :: es) t)
    (hbase : attributeBase o name X.env (eval o X.env) = eval o X.env := by rfl)
    (hfew : ((backTo cpos (starEach (e :: es) X.env)).all (fun x => !x.1) && (backToKw cpos (keywordEach [] X.env)).all (fun x => x.1.isSome)
      && decide ((e :: es).length + ([] : List Keyword).length + (if ([] : List Keyword).isEmpty then 0 else 1) < 30)) = true := by rfl)
    (hline : (apos.endLine == cpos.line) = true := by rfl) (hs : starEach (e :: es) X.env = (false, eval e X.env) :: starEach es X.env := by rfl) (hplain : (backTo cpos (starEach es X.env)).any (·.1) = false := by rfl) :
    PE' X B (.Call (.Attribute o name apos) (e :: es) [] cpos) (uBM r' to t) := pe_imp (pe_bm PySem.F.plainAttrs_list slot hty hm ho ha hbase hfew hline hs hplain) fun _ _ _ h => low_bm v h
def uAppend : PV → List PV → PHp → VK' → Prop := fun x vs H Q => match x, vs with
  | .ref a, [y] => ∃ l, H a = some (.lst l) ∧ l.length < sizeLine ∧ Q .non (put H a (.lst (l ++ [y])))
  | _, _ => False
theorem vm_append {K : PySem.W.Frag} : VM K B uAppend rAppend := by
  intro σ' σ H' H x' xs' x xs Q' Q s rx r h k
  unfold uAppend at h
  split at h
  · rename_i a y
    obtain ⟨l, e, hl, h⟩ := h
    obtain ⟨us, q, r2⟩ := s.hp _ _ e
    simp only [RP, RPs] at rx r
    obtain ⟨u, r1, rfl, ru, rfl⟩ := r
    subst rx
    exact ⟨a, us, u, rfl, rfl, q, by rw [RPs.length _ r2]; exact hl, k _ _ _ _ h (by simp [RP]) (s.wr e (wrL s.hp e (RPs.append _ r2 (RPs.cons _ ru (RPs.nil _))))) (Ev.wr e)⟩
  · exact h.elim
def uExtend : PV → List PV → PHp → VK' → Prop := fun x vs H Q => match x, vs with
  | .ref a, [.ref b] => ∃ l m, H a = some (.lst l) ∧ H b = some (.lst m) ∧ l.length + m.length ≤ sizeLine ∧ Q .non (put H a (.lst (l ++ m)))
  | _, _ => False
theorem vm_extend {K : PySem.W.Frag} : VM K B uExtend rExtend := by
  intro σ' σ H' H x' xs' x xs Q' Q s rx r h k
  unfold uExtend at h
  split at h
  · rename_i a b
    obtain ⟨l, m, e, e2, hl, h⟩ := h
    obtain ⟨us, q, r2⟩ := s.hp _ _ e
    obtain ⟨ws, q2, r3⟩ := s.hp _ _ e2
    simp only [RP, RPs] at rx r
    obtain ⟨u, r1, rfl, ru, rfl⟩ := r
    subst rx; subst ru
    exact ⟨a, b, us, ws, rfl, rfl, q, q2, by rw [RPs.length _ r2, RPs.length _ r3]; exact hl, k _ _ _ _ h (by simp [RP]) (s.wr e (wrL s.hp e (RPs.append _ r2 r3))) (Ev.wr e)⟩
  · exact h.elim
def uPop : PV → List PV → PHp → VK' → Prop := fun x vs H Q => match x, vs with
  | .ref a, [] => ∃ l y, H a = some (.lst l) ∧ l[l.length - 1]? = some y ∧ Q y (put H a (.lst l.dropLast))
  | _, _ => False
end
end U


set_option linter.all false
set_option maxRecDepth 100000
set_option maxHeartbeats 4000000
namespace U
open PySem L2
variable {B : Bs}
theorem rngL_drop (lo : Int) (n i : Nat) (h : i < n) : (rngL lo n).drop i = PV.int (lo + (i : Nat)) :: (rngL lo n).drop (i + 1) := by
  have hl : i < (rngL lo n).length := by simpa [rngL] using h
  rw [List.drop_eq_getElem_cons hl]
  simp [rngL]
theorem rngL_end (lo : Int) (n : Nat) : (rngL lo n).drop n = [] := by
  apply List.drop_of_length_le
  simp [rngL]
theorem for_rng {ok : PHp → Prop} {g : TG'} {tb : TS'} {D : Ends'} {lo : Int} {n : Nat} (Pv : Nat → St' → PHp → Prop) (hd : ∀ σ H, Pv n σ H → ok H ∧ D.nx σ H)
    (hs : ∀ (G : St' → PHp → Prop) i σ H, i < n → Pv i σ H → (∀ σ' H', Pv (i + 1) σ' H' → G σ' H') → ok H ∧ g (.int (lo + (i : Nat))) σ H fun σ2 H2 => tb { D with nx := G, ct := G, bk := D.nx } σ2 H2)
    {σ : St'} {H : PHp} (h0 : Pv 0 σ H) : uForL ok g tb D (rngL lo n) σ H := by
  have key : ∀ (k i : Nat) {σ : St'} {H : PHp}, i + k = n → Pv i σ H → uForL ok g tb D ((rngL lo n).drop i) σ H := by
    intro k
    induction k with
    | zero =>
      intro i σ H hk p
      have : i = n := hk
      subst this
      rw [rngL_end]
      exact hd σ H p
    | succ k ih =>
      intro i σ H hk p
      have hi : i < n := hk ▸ Nat.lt_add_of_pos_right (Nat.succ_pos k)
      rw [rngL_drop lo n i hi]
      exact hs _ i σ H hi p fun σ' H' p' => ih (i + 1) ((Nat.succ_add_eq_add_succ i k).trans hk) p'
  exact key n 0 (Nat.zero_add n) h0
theorem w_V {v : PV} {k : PV → Prop} : withV (some (some v)) k = k v := rfl
theorem w_B {b : Bool} {k : Bool → Prop} : withB (.bl b) k = k b := rfl
theorem w_I {b : Int} {k : Int → Prop} : withI (.int b) k = k b := rfl
theorem w_O {b : PV} {k : PV → Prop} : withO (some b) k = k b := rfl
theorem w_St {l : List PV} {H : PHp} {k : List PV → Prop} : withS (.tup l) H k = k l := rfl
theorem w_Sf {l : List PV} {H : PHp} {k : List PV → Prop} : withS (.fls l) H k = k l := rfl
theorem w_Sr {a : Addr} {H : PHp} {k : List PV → Prop} : withS (.ref a) H k = ∃ l, H a = some (.lst l) ∧ k l := rfl
theorem w_Dr {a : Addr} {H : PHp} {k : PV → Prop} : withD (.ref a) H k = ∃ l, H a = some (.lst l) ∧ k (.fls l) := rfl
theorem w_Dn {H : PHp} {k : PV → Prop} : withD .non H k = k .non := rfl
theorem w_Db {b : Bool} {H : PHp} {k : PV → Prop} : withD (.bl b) H k = k (.bl b) := rfl
theorem w_Di {b : Int} {H : PHp} {k : PV → Prop} : withD (.int b) H k = k (.int b) := rfl
theorem w_Ds {b : Str} {H : PHp} {k : PV → Prop} : withD (.str b) H k = k (.str b) := rfl
theorem w_Dt {b : List PV} {H : PHp} {k : PV → Prop} : withD (.tup b) H k = k (.tup b) := rfl
theorem w_Df {b : List PV} {H : PHp} {k : PV → Prop} : withD (.fls b) H k = k (.fls b) := rfl
theorem w_Tn {H : PHp} {k : BT → Prop} : withTy .non H k = k .non := rfl
theorem w_Tb {b : Bool} {H : PHp} {k : BT → Prop} : withTy (.bl b) H k = k .bool := rfl
theorem w_Ti {b : Int} {H : PHp} {k : BT → Prop} : withTy (.int b) H k = k .int := rfl
theorem w_Ts {b : Str} {H : PHp} {k : BT → Prop} : withTy (.str b) H k = k .str := rfl
theorem w_Tt {b : List PV} {H : PHp} {k : BT → Prop} : withTy (.tup b) H k = k .tuple := rfl
theorem w_Tf {b : List PV} {H : PHp} {k : BT → Prop} : withTy (.fls b) H k = k .list := rfl
theorem w_Tr {a : Addr} {H : PHp} {k : BT → Prop} : withTy (.ref a) H k = ∃ l, H a = some (.lst l) ∧ k .list := rfl
theorem w_Ni {b : Int} {k : Int → Prop} : intOf (.int b) k = k b := rfl
theorem w_Nb {b : Bool} {k : Int → Prop} : intOf (.bl b) k = k (b2n b) := rfl
theorem w_Lf {l : List PV} {lo hi : Option Int} {H : PHp} {Q : VK'} : sliceOf (.fls l) lo hi H Q = ∀ p, H p = none → Q (.ref p) (put H p (.lst (cutP l lo hi))) := rfl
theorem w_Lr {a : Addr} {lo hi : Option Int} {H : PHp} {Q : VK'} : sliceOf (.ref a) lo hi H Q = ∃ l, H a = some (.lst l) ∧ ∀ p, H p = none → Q (.ref p) (put H p (.lst (cutP l lo hi))) := rfl
theorem w_Lt {l : List PV} {lo hi : Option Int} {H : PHp} {Q : VK'} : sliceOf (.tup l) lo hi H Q = (¬ (HT.sIx l.length 0 lo = 0 ∧ HT.sIx l.length l.length hi = l.length) ∧ Q (.tup (cutP l lo hi)) H) := rfl
theorem w_Xt {l : List PV} {H : PHp} {R : It' → PHp → Prop} : itOf (.tup l) H R = R ⟨l, fun _ => True⟩ H := rfl
theorem w_Xf {l : List PV} {H : PHp} {R : It' → PHp → Prop} : itOf (.fls l) H R = R ⟨l, fun _ => True⟩ H := rfl
theorem w_Xr {a : Addr} {H : PHp} {R : It' → PHp → Prop} : itOf (.ref a) H R = ∃ l, H a = some (.lst l) ∧ R ⟨l, fun H => H a = some (.lst l)⟩ H := rfl
theorem w_1 {f : PV → PHp → VK' → Prop} {x : PV} {H : PHp} {Q : VK'} : arg1 f [x] H Q = f x H Q := rfl
theorem w_isi {c : BT} {x : PV} {n : String} {H : PHp} {Q : VK'} : uIsi c [x, .oth (.ty n)] H Q = (n = c.nm ∧ withTy x H fun t => Q (.bl (t.sub c)) H) := rfl
theorem w_n0 {g : Bool → Bool} {H : PHp} {Q : VK'} : uIsN g .non .non H Q = Q (.bl (g true)) H := rfl
theorem w_n1 {g : Bool → Bool} {a : Addr} {H : PHp} {Q : VK'} : uIsN g (.ref a) .non H Q = Q (.bl (g false)) H := rfl
theorem w_n2 {g : Bool → Bool} {l : List PV} {H : PHp} {Q : VK'} : uIsN g (.tup l) .non H Q = Q (.bl (g false)) H := rfl
theorem w_n3 {g : Bool → Bool} {l : Int} {H : PHp} {Q : VK'} : uIsN g (.int l) .non H Q = Q (.bl (g false)) H := rfl
theorem w_n4 {g : Bool → Bool} {l : Bool} {H : PHp} {Q : VK'} : uIsN g (.bl l) .non H Q = Q (.bl (g false)) H := rfl
theorem w_vt {n : Nat} {t : TGs'} {l : List PV} {σ : St'} {H : PHp} {Q : St' → PHp → Prop} : vTup n t (.tup l) σ H Q = (l.length = n ∧ t l σ H Q) := rfl
theorem w_vc {t : TG'} {u : TGs'} {v : PV} {r : List PV} {σ : St'} {H : PHp} {Q : St' → PHp → Prop} : vCons t u (v :: r) σ H Q = t v σ H fun σ' H' => u r σ' H' Q := rfl
theorem w_vn {σ : St'} {H : PHp} {Q : St' → PHp → Prop} : vNil [] σ H Q = (True ∧ Q σ H) := by simp [vNil]
theorem w_r1 {t : TA'} {σ : St'} {H : PHp} {R : It' → PHp → Prop} : uRng1 t σ H R = t σ H fun vs H1 => rng1 vs H1 R := rfl
theorem w_r1' {j : Int} {H1 : PHp} {R : It' → PHp → Prop} : rng1 [.int j] H1 R = ((-(2 ^ 62) ≤ j ∧ j < 2 ^ 62) ∧ R ⟨rngL 0 j.toNat, fun _ => True⟩ H1) := rfl
theorem w_r2 {t : TA'} {σ : St'} {H : PHp} {R : It' → PHp → Prop} : uRng2 t σ H R = t σ H fun vs H1 => rng2 vs H1 R := rfl
theorem w_r2' {i j : Int} {H1 : PHp} {R : It' → PHp → Prop} : rng2 [.int i, .int j] H1 R = ((-(2 ^ 62) ≤ i ∧ i < 2 ^ 62 ∧ -(2 ^ 62) ≤ j ∧ j < 2 ^ 62) ∧ R ⟨rngL i (j - i).toNat, fun _ => True⟩ H1) := rfl
theorem w_ap {a : Addr} {y : PV} {H : PHp} {Q : VK'} : uAppend (.ref a) [y] H Q = ∃ l, H a = some (.lst l) ∧ l.length < sizeLine ∧ Q .non (put H a (.lst (l ++ [y]))) := rfl
theorem w_ex {a b : Addr} {H : PHp} {Q : VK'} : uExtend (.ref a) [.ref b] H Q = ∃ l m, H a = some (.lst l) ∧ H b = some (.lst m) ∧ l.length + m.length ≤ sizeLine ∧ Q .non (put H a (.lst (l ++ m))) := rfl
theorem w_po {a : Addr} {H : PHp} {Q : VK'} : uPop (.ref a) [] H Q = ∃ l y, H a = some (.lst l) ∧ l[l.length - 1]? = some y ∧ Q y (put H a (.lst l.dropLast)) := rfl
theorem w_bm {r : PV → List PV → PHp → VK' → Prop} {to : TE'} {t : TA'} {σ : St'} {H : PHp} {Q : VK'} : uBM r to t σ H Q = to σ H fun x H1 => isL x H1 ∧ t σ H1 fun xs H2 => r x xs H2 Q := rfl
theorem w_il {a : Addr} {H : PHp} : isL (.ref a) H = ∃ l, H a = some (.lst l) := rfl
theorem small_size {n : Nat} (h : n ≤ 1000) : n ≤ sizeLine := Nat.le_of_lt (small1000 h)
end U
namespace U
open PySem L2
theorem seq_abs {t u : TS'} {D : Ends'} {σ : St'} {H : PHp} (h : ∀ R : TS', R = u → uSeq t R D σ H) : uSeq t u D σ H := h u rfl
end U


set_option linter.all false
set_option maxRecDepth 100000
set_option maxHeartbeats 4000000
namespace U
open PySem PySem.Spec PyProof.Rows L2
variable {B : Bs}
def FlyAt (h : Heap) (a C T : Addr) (fl : Value) : Prop :=
  ∃ (oe : Obj) (vs : Array Value) (oT : Obj) (ts : Array Value) (a0 : Value), h.get? a = some oe ∧ oe.cls = .ref C ∧ vs[0]? = some a0 ∧ oe.data = .fields vs ∧ vs[1]? = some (.ref T) ∧ T ≠ a ∧ h.get? T = some oT ∧ oT.data = .fields ts ∧ ts[3]? = some fl
theorem objOk_get {P : Program} {w : World} {H : Hp} {h : Heap} {a : Addr} {o : HO} (k : ObjOk P w H h a o) : ∃ ob, h.get? a = some ob := by
  cases o with
  | lst _ => obtain ⟨_, _, _, _, e⟩ := k; exact ⟨_, e⟩
  | tup _ => obtain ⟨_, _, _, o, e, _⟩ := k; exact ⟨o, e⟩
  | dK _ => obtain ⟨_, _, _, _, o, _, _, e, _⟩ := k; exact ⟨o, e⟩
  | dT _ => obtain ⟨_, _, _, _, o, _, _, e, _⟩ := k; exact ⟨o, e⟩
  | set _ _ => obtain ⟨o, _, _, _, e, _⟩ := k; exact ⟨o, e⟩
  | ins _ _ _ => obtain ⟨_, _, _, e, _⟩ := k; exact ⟨_, e⟩
  | own _ => obtain ⟨o, e⟩ := k; exact ⟨o, e⟩
  | xd _ => obtain ⟨_, ⟨o, _, _, e, _⟩, _⟩ := k; exact ⟨o, e⟩
  | rng _ _ => obtain ⟨_, _, _, e⟩ := k; exact ⟨_, e⟩
  | frz o _ => obtain ⟨e, _⟩ := k; exact ⟨o, e⟩
  | tbl _ => exact ⟨_, k⟩
  | met _ _ => exact ⟨_, k⟩
  | ext _ => obtain ⟨_, ⟨o, e⟩, _⟩ := k; exact ⟨o, e⟩
theorem hok_none {P : Program} {w : World} {H : Hp} {h : Heap} {a : Addr} (x : HOk P w H h) (e : h.get? a = none) : H a = none := by
  cases q : H a with
  | none => rfl
  | some o => obtain ⟨ob, z⟩ := objOk_get (x a o q); rw [e] at z; cases z
section
variable {X : Cx} {pins : List (Addr × Obj)} {σ : L2.St} {H H' : Hp} {s : Shared} {h' : Heap} {a C T : Addr} {fl : Value}
structure Plain (X : Cx) : Prop where
  ex : X.ex = []
  stk : X.stack = X.env :: X.outer
  fr : X.env.frame = some X.env.locals
theorem Plain.frs (pl : Plain X) : L2.frs X.stack = X.env.locals :: X.fs := by
  rw [pl.stk]
  show (X.env :: X.outer).filterMap (·.frame) = _
  rw [List.filterMap_cons, pl.fr]
  rfl
structure XAt (X : Cx) (pins : List (Addr × Obj)) (H : Hp) (s : Shared) (a C T : Addr) (fl : Value) : Prop where
  fly : FlyAt s.heap a C T fl
  ha : H a = none
  hT : H T = none
  na : X.s₀.heap.get? a = none
  nT : X.s₀.heap.get? T = none
  pin : ∀ p ∈ X.pn ++ pins, p.1 ≠ a ∧ p.1 ≠ T
theorem entry_none (I : Inv X pins σ H s) (pl : Plain X) {b : Addr} (e : s.heap.get? b = none) : X.s₀.heap.get? b = none := by
  cases q : X.s₀.heap.get? b with
  | none => rfl
  | some o =>
    obtain ⟨o', z⟩ := I.base.there b o q (by rw [pl.ex]; simp)
    rw [e] at z; cases z
theorem step_x (I : Inv X pins σ H s) (pl : Plain X) (ha : H a = none) (hT : H T = none) (na : X.s₀.heap.get? a = none) (nT : X.s₀.heap.get? T = none) (pin : ∀ p ∈ X.pn ++ pins, p.1 ≠ a ∧ p.1 ≠ T)
    (fa : ∀ o, s.heap.get? a = some o → ∃ vs, o.data = .fields vs) (fT : ∀ o, s.heap.get? T = some o → ∃ vs, o.data = .fields vs)
    (keep : ∀ b o, s.heap.get? b = some o → b ∉ L2.frs X.stack → b ≠ a → b ≠ T → h'.get? b = some o) (up : s.heap.UpToSlots h') : Inv X pins σ H { s with heap := h' } := by
  have frData : ∀ b o, b ∈ L2.frs X.stack → s.heap.get? b = some o → ∀ vs, o.data ≠ .fields vs := fun b o hb e => by
    obtain ⟨_, o', e', hd⟩ := I.stack.mem (b := b) hb
    rw [e] at e'; cases e'; exact hd
  have inFr : ∀ b, b = X.env.locals ∨ b ∈ X.fs → b ∈ L2.frs X.stack := fun b hb => by
    rw [pl.frs]; exact List.mem_cons.mpr hb
  have neA : ∀ b o, s.heap.get? b = some o → (∀ vs, o.data ≠ .fields vs) → b ≠ a ∧ b ≠ T := fun b o e hd => by
    constructor
    · rintro rfl; obtain ⟨vs, z⟩ := fa o e; exact hd vs z
    · rintro rfl; obtain ⟨vs, z⟩ := fT o e; exact hd vs z
  have any : ∀ b o, b ≠ a → b ≠ T → s.heap.get? b = some o → ∃ sl, h'.get? b = some { o with slots := sl } := fun b o n1 n2 e => by
    by_cases hb : b ∈ L2.frs X.stack
    · exact up b o e (frData b o hb e)
    · exact ⟨o.slots, keep b o e hb n1 n2⟩
  have entry : ∀ b o, X.s₀.heap.get? b = some o → b ≠ a ∧ b ≠ T := fun b o e => ⟨(fun z => by subst z; rw [na] at e; cases e), (fun z => by subst z; rw [nT] at e; cases e)⟩
  have neL : ∀ b o, X.s₀.heap.get? b = some o → b ≠ X.env.locals := fun b o e => Nat.ne_of_lt (Nat.lt_of_lt_of_le (Heap.lt_size e) I.ok.above)
  have hx : ∀ b, b ∉ X.ex := fun b => by rw [pl.ex]; simp
  have notFr : ∀ b o, X.s₀.heap.get? b = some o → b ∉ X.fs → b ∉ L2.frs X.stack := fun b o e hb hm => by
    rw [pl.frs] at hm
    rcases List.mem_cons.mp hm with z | z
    · exact neL b o e z
    · exact hb z
  refine ⟨I.ok, I.os, I.bare, ⟨fun b o e n hb hx' => ?_, fun b o e n hb hx' => ?_, I.base.free, fun b o e hx' => ?_, I.base.tups, I.base.frzs, I.base.tbls⟩, ?_, fun x c e => ?_, I.free, I.freeC, fun p hp => ?_, fun b u e => ?_, I.len⟩
  · exact keep b o (I.base.keep b o e n hb hx') (notFr b o e hb) (entry b o e).1 (entry b o e).2
  · obtain ⟨sl, e1⟩ := I.base.slot b o e n hb hx'
    obtain ⟨sl', e2⟩ := any b _ (entry b o e).1 (entry b o e).2 e1
    exact ⟨sl', e2⟩
  · obtain ⟨o', e1⟩ := I.base.there b o e hx'
    obtain ⟨sl', e2⟩ := any b _ (entry b o e).1 (entry b o e).2 e1
    exact ⟨_, e2⟩
  · obtain ⟨m, hn, hl⟩ := I.loc
    refine ⟨m, up.ns hn, fun i x v e1 e2 e3 => ?_⟩
    obtain ⟨u, r, l⟩ := hl i x v e1 e2 e3
    refine ⟨u, r, ?_⟩
    rcases l with l | ⟨k, c, e, o, ho, hd⟩
    · exact .inl l
    · have nd : ∀ vs, o.data ≠ .fields vs := fun vs z => by rw [hd] at z; cases z
      obtain ⟨sl, q⟩ := any c o (neA c o ho nd).1 (neA c o ho nd).2 ho
      exact .inr ⟨k, c, e, _, q, hd⟩
  · obtain ⟨v, o, ho, hd⟩ := I.cell x c e
    have nd : ∀ vs, o.data ≠ .fields vs := fun vs z => by rw [hd] at z; cases z
    obtain ⟨sl, q⟩ := any c o (neA c o ho nd).1 (neA c o ho nd).2 ho
    exact ⟨v, _, q, hd⟩
  · obtain ⟨e, n, ne, nf, d⟩ := I.pin p hp
    refine ⟨keep p.1 p.2 e (fun z => ?_) (pin p hp).1 (pin p hp).2, n, ne, nf, d⟩
    rw [pl.frs] at z
    rcases List.mem_cons.mp z with z | z
    · exact ne z
    · exact nf z
  · refine (I.hok b u e).stay (fun c v hc q => ?_) (fun _ q => q) fun _ _ q => q
    have hc' : ∃ o, H c = some o := by
      rcases hc with rfl | hc
      · exact ⟨_, e⟩
      · exact ⟨_, hc⟩
    obtain ⟨oc, ec⟩ := hc'
    refine keep c v q (fun z => ?_) (fun z => by subst z; rw [ha] at ec; cases ec) (fun z => by subst z; rw [hT] at ec; cases ec)
    rw [I.stkFree c z] at ec; cases ec
open PySem.W in
theorem after_x (I : Inv X pins σ H s) (pl : Plain X) (ha : H a = none) (na : X.s₀.heap.get? a = none) (pa : ∀ p ∈ X.pn ++ pins, p.1 ≠ a) (fa : ∀ o, s.heap.get? a = some o → ∃ vs, o.data = .fields vs)
    (T0 : Addr) (hT0 : H T0 = none) (nT0 : X.s₀.heap.get? T0 = none) (pT0 : ∀ p ∈ X.pn ++ pins, p.1 ≠ T0) (fT0 : ∀ o, s.heap.get? T0 = some o → ∃ vs, o.data = .fields vs)
    (a0 : Value) (st : (hideAll s.heap (L2.frs X.stack ++ [a, T0])).StaysIn h') (ff : h'.FunFrames (hideAll s.heap (L2.frs X.stack ++ [a, T0])) X.stack) (tr : h'.TracedAtW (hideAll s.heap (L2.frs X.stack ++ [a, T0])) a (.ref C) a0 fl) (up : s.heap.UpToSlots h') :
    Inv X pins σ H { s with heap := h' } ∧ ∃ T, XAt X pins H { s with heap := h' } a C T fl := by
  have I' : Inv X pins σ H { s with heap := h' } := step_x I pl ha hT0 na nT0 (fun p hp => ⟨pa p hp, pT0 p hp⟩) fa fT0 (fun b o e n1 n2 n3 => st b o (hideAll_get _ e (by simp [n1, n2, n3]))) up
  refine ⟨I', ?_⟩
  obtain ⟨oe, vs, T, oT, ts, e1, ⟨e2, e3⟩, e4, e5, e6, e7, e8, e9, e10⟩ := tr
  have key : T = T0 ∨ s.heap.get? T = none := by
    by_cases hT : T = T0
    · exact .inl hT
    · right
      cases q : s.heap.get? T with
      | none => rfl
      | some o =>
        have nfr : T ∉ L2.frs X.stack := fun hm => by
          obtain ⟨_, o', e', hd⟩ := ff.mem (b := T) hm
          rw [e8] at e'; cases e'; exact hd ts e9
        have := hideAll_get (L2.frs X.stack ++ [a, T0]) q (by simp [nfr, e7, hT])
        rw [e6] at this; cases this
  refine ⟨T, ⟨oe, vs, oT, ts, a0, e1, e2, e3, e4, e5, e7, e8, e9, e10⟩, ha, ?_, na, ?_, fun p hp => ⟨pa p hp, ?_⟩⟩
  · rcases key with rfl | k
    · exact hT0
    · exact hok_none I.hok k
  · rcases key with rfl | k
    · exact nT0
    · exact entry_none I pl k
  · rcases key with rfl | k
    · exact pT0 p hp
    · intro z
      have := (I.pin p hp).1
      rw [z, k] at this; cases this
open PySem.W in
theorem hid_ok (I : Inv X pins σ H s) (as : List Addr) : s.heap.FunFrames (hideAll s.heap (L2.frs X.stack ++ as)) X.stack :=
  funFrames_hide I.stack fun env he b hb => List.mem_append_left _ (List.mem_filterMap.mpr ⟨env, he, hb⟩)
theorem XAt.data (x : XAt X pins H s a C T fl) : (∀ o, s.heap.get? a = some o → ∃ vs, o.data = .fields vs) ∧ ∀ o, s.heap.get? T = some o → ∃ vs, o.data = .fields vs := by
  obtain ⟨oe, vs, oT, ts, a0, e1, e2, e3, e4, e5, e7, e8, e9, e10⟩ := x.fly
  exact ⟨fun o e => by rw [e1] at e; cases e; exact ⟨_, e4⟩, fun o e => by rw [e8] at e; cases e; exact ⟨_, e9⟩⟩
open PySem.W in
theorem XAt.traced (x : XAt X pins H s a C T fl) : ∃ a0, s.heap.TracedAtW (hideAll s.heap (L2.frs X.stack ++ [a, T])) a (.ref C) a0 fl := by
  obtain ⟨oe, vs, oT, ts, a0, e1, e2, e3, e4, e5, e7, e8, e9, e10⟩ := x.fly
  exact ⟨a0, oe, vs, T, oT, ts, e1, ⟨e2, e3⟩, e4, e5, hideAll_none _ (by simp), e7, e8, e9, e10⟩
variable {M : Model} {E : Value → Shared → Prop} {Q : Unit → Shared → Prop}
open PySem.W in
theorem note_x (I : Inv X pins σ H s) (pl : Plain X) (x : XAt X pins H s a C T .none)
    (h : ∀ h' T', Inv X pins σ H { s with heap := h' } → XAt X pins H { s with heap := h' } a C T' (rawInt X.env.locals) → Q () { s with heap := h' }) : wpAny M X.A (noteFrame (.ref a) X.env) Q E s := by
  obtain ⟨a0, tr⟩ := x.traced
  obtain ⟨d1, d2⟩ := x.data
  have ff := hid_ok I [a, T]
  have hfr := I.ok.frames
  rw [pl.stk] at ff tr hfr
  refine wpAny_noteFrame_onW hfr ff pl.fr tr (fun b o e => of_hideAll _ e) (hideAll_none _ (by simp)) fun h' ⟨k1, k2, k3, k4⟩ => ?_
  rw [← pl.stk] at k1 k2 k3
  obtain ⟨I', T', x'⟩ := after_x I pl x.ha x.na (fun p hp => (x.pin p hp).1) d1 T x.hT x.nT (fun p hp => (x.pin p hp).2) d2 a0 k1 k2 k3 k4
  exact h h' T' I' x'
open PySem.W in
theorem land_x {A : Around} (I : Inv X pins σ H s) (pl : Plain X) (x : XAt X pins H s a C T fl)
    (h : ∀ h' T', Inv X pins σ H { s with heap := h' } → XAt X pins H { s with heap := h' } a C T' .none → Q () { s with heap := h' }) : wpAny M A (setFlight (.ref a) none) Q E s := by
  obtain ⟨a0, tr⟩ := x.traced
  obtain ⟨d1, d2⟩ := x.data
  refine wpAny_setFlight_noneW (fun b o e => of_hideAll _ e) (hid_ok I [a, T]) tr fun h' k1 k2 k3 k4 => ?_
  obtain ⟨I', T', x'⟩ := after_x I pl x.ha x.na (fun p hp => (x.pin p hp).1) d1 T x.hT x.nT (fun p hp => (x.pin p hp).2) d2 a0 k1 k2 k3 fun b o e hd => ⟨o.slots, k4 b o e hd⟩
  exact h h' T' I' x'
def CXU (P : Program) (w : World) : CXT := fun outer H s E e s' => ∃ (a C T : Addr) (H1 : Hp), e = .ref a ∧ FlyAt s'.heap a C T .none ∧ (H1 a = none ∧ H1 T = none) ∧ (s.heap.get? a = none ∧ s.heap.get? T = none) ∧
  s'.os = s.os ∧ AllBare s'.gens ∧ Un (L2.frs outer) [] H H1 s.heap s'.heap ∧ HOk P w H1 s'.heap ∧ E (.ref C) none H1
open PySem.W in
theorem leave_x {XE : XK} (I : Inv X pins σ H s) (pl : Plain X) (x : XAt X pins H s a C T .none) (hE : XE (.ref C) none H) :
    wpAny M X.A (leaving X.env (.ref a)) (fun _ s'' => CXU X.prog X.w X.outer X.H₀ X.s₀ XE (.ref a) s'') E s := by
  obtain ⟨a0, tr⟩ := x.traced
  obtain ⟨d1, d2⟩ := x.data
  have ff := hid_ok I [a, T]
  have hfr := I.ok.frames
  rw [pl.stk] at ff tr hfr
  refine wpAny_leaving_nextW hfr ff pl.fr tr (fun b o e => of_hideAll _ e) (hideAll_none _ (by simp)) fun h' ⟨k1, k2, k3, k4⟩ => ?_
  rw [← pl.stk] at k1 k2 k3
  obtain ⟨I', T', x'⟩ := after_x I pl x.ha x.na (fun p hp => (x.pin p hp).1) d1 T x.hT x.nT (fun p hp => (x.pin p hp).2) d2 a0 k1 k2 k3 k4
  have hu := I'.base
  rw [pl.ex] at hu
  exact ⟨a, C, T', H, rfl, x'.fly, ⟨x'.ha, x'.hT⟩, ⟨x'.na, x'.nT⟩, I'.os, I'.bare, hu, I'.hok, hE⟩
open PySem.W in
theorem leave_made {XE : XK} {h1 : Heap} {args : List Value} (I : Inv X pins σ H s) (pl : Plain X) (mx : Heap.MadeExcOf s.heap h1 a (.ref C) args) (hE : XE (.ref C) none H) :
    wpAny M X.A (leaving X.env (.ref a)) (fun _ s'' => CXU X.prog X.w X.outer X.H₀ X.s₀ XE (.ref a) s'') E { s with heap := h1 } := by
  have I1 : Inv X pins σ H { s with heap := h1 } := I.kept (t' := s.toks) mx.keeps
  obtain ⟨t, e1, e2, e3⟩ := mx.there
  have ha := hok_none I.hok mx.new
  have na := entry_none I pl mx.new
  have pa : ∀ p ∈ X.pn ++ pins, p.1 ≠ a := fun p hp z => by have := (I.pin p hp).1; rw [z, mx.new] at this; cases this
  have fa : ∀ o, h1.get? a = some o → ∃ vs, o.data = .fields vs := fun o e => by rw [e1] at e; cases e; exact ⟨_, rfl⟩
  have ff := hid_ok I1 [a, a]
  have hfr := I1.ok.frames
  rw [pl.stk] at ff hfr
  refine wpAny_leaving_firstW hfr ff pl.fr e1 (fun b o e => of_hideAll _ e) (hideAll_none _ (by simp)) rfl rfl rfl fun h' ⟨k1, k2, k3, k4⟩ => ?_
  rw [← pl.stk] at k1 k2 k3
  obtain ⟨I', T', x'⟩ := after_x I1 pl ha na pa fa a ha na pa fa _ k1 k2 k3 k4
  have hu := I'.base
  rw [pl.ex] at hu
  exact ⟨a, C, T', H, rfl, x'.fly, ⟨x'.ha, x'.hT⟩, ⟨x'.na, x'.nT⟩, I'.os, I'.bare, hu, I'.hok, hE⟩
theorem from_call {XE : XK} {e : Value} {s' : Shared} (I : Inv X pins σ H s) (pl : Plain X) (c : CXU X.prog X.w X.stack H s XE e s') :
    ∃ a C T H1, e = .ref a ∧ Inv X pins σ H1 s' ∧ XAt X pins H1 s' a C T .none ∧ XE (.ref C) none H1 ∧ Kp H H1 := by
  obtain ⟨a, C, T, H1, rfl, fl, ⟨h1, h2⟩, ⟨n1, n2⟩, os, ba, un, hok, hE⟩ := c
  refine ⟨a, C, T, H1, rfl, I.call' (ch := []) os un hok ba (fun _ z => nomatch z), ⟨fl, h1, h2, entry_none I pl n1, entry_none I pl n2, fun p hp => ⟨fun z => ?_, fun z => ?_⟩⟩, hE, ⟨un.tups, un.frzs⟩⟩
  · have := (I.pin p hp).1; rw [z, n1] at this; cases this
  · have := (I.pin p hp).1; rw [z, n2] at this; cases this
end
end U


set_option linter.all false
set_option maxHeartbeats 4000000
set_option maxRecDepth 100000
namespace U
open PySem PySem.Spec PyProof.Rows L2 PySem.W
theorem be_entry : entryFor table "BaseException.__getattribute__" = some Builtin.«object.__getattribute__» :=
  entryFor_alias (id' := "object.__getattribute__") (by kernel_rfl) (by first | rfl | decide +kernel) (by decide +kernel) (by kernel_rfl)
section
variable {prog : Program} {w : World} {A : Around} {E : Value → Shared → Prop} {h : Heap} {g : Array GenState} {d : Drawn} {t : Nat} {os : OsState} {a C : Addr} {o : Obj} {K : Frag}
theorem exc_get {R : Result → Shared → Prop} (X : K.In h) (hx : h.get? a = some o) (hc : o.cls = .ref C) (hm : mroIn K C (.type "object") = some true) (hq : R (.ok (.ret (.ref C))) ⟨h, g, d, t, os⟩) :
    codeAny (model prog w) A (.call (.builtin "getset_descriptor.__get__") ⟨[.builtin "object.__class__", .ref a, .ref C], []⟩) R ⟨h, g, d, t, os⟩ := by
  have hT5 : (⟨h, g, d, t, os⟩ : Shared).TypeIs (.builtin "object.__class__") "getset_descriptor" := F.typeOf_object_class
  have LS : Looks (model prog w) h (isSubtype (.ref C) (.type "object")) true := looks_mroIn X hm
  have f8 := F.owner_object_class
  refine codeAny_call_builtin F.slot_gs_get.plain F.entry_gs_get (F.slot_gs_get.check _ _ _ _ _ _ _ _ hT5 (F.args_gs_get _ _ _) ?_)
  repeat (any_goals (first | assumption | wp_step))
  rw [hc, f8]
  refine LS.at ?_
  repeat (any_goals (first | assumption | wp_step))
  refine ⟨Code.quiet_builtin _ (by decide +kernel), codeAny_builtin F.entry_object_class ?_⟩
  repeat (any_goals (first | assumption | wp_step))
  all_goals (rw [hc]; exact hq)
theorem exc_entry {tk : Tok} {Q : Fin → Shared → Prop} (X : K.In h) (hx : h.get? a = some o) (hc : o.cls = .ref C) (hm : mroIn K C (.type "object") = some true) (hf : findIn K (.ref C) "__class__" = some (some (.builtin "object.__class__"))) (hq : Q (.done (.ret (.ref C))) ⟨h, g, d, t, os⟩) :
    wpAny (model prog w) A (Builtin.«object.__getattribute__» ⟨[.ref a, .str "__class__" tk], []⟩) Q E ⟨h, g, d, t, os⟩ := by
  have hT5 : (⟨h, g, d, t, os⟩ : Shared).TypeIs (.builtin "object.__class__") "getset_descriptor" := F.typeOf_object_class
  have LF : Looks (model prog w) h (typeLookup (.ref C) "__class__") (some (.builtin "object.__class__")) := looks_findIn X hf
  have f5 := F.typeOf_object_class
  have f6 := F.slot_gs_get.lookup
  have f7 := F.slot_gs_set.lookup
  repeat (any_goals (first | assumption | wp_step))
  rw [hc]
  refine LF.at ?_
  repeat (any_goals (first | assumption | wp_step))
  refine exc_get X hx hc hm ?_
  repeat (any_goals (first | assumption | wp_step))
theorem be_kind : builtinKind "BaseException.__getattribute__" = some .slot := by decide +kernel
theorem be_split : splitId "BaseException.__getattribute__" = some ("BaseException", "__getattribute__") := by decide +kernel
theorem exc_check {M : Model} {tk : Tok} {Q : Unit → Shared → Prop} (X : K.In h) (hx : h.get? a = some o) (hc : o.cls = .ref C) (hm : mroIn K C (.type "BaseException") = some true) (hq : Q () ⟨h, g, d, t, os⟩) :
    wpAny M A (checkBuiltinCall "BaseException.__getattribute__" ⟨[.ref a, .str "__class__" tk], []⟩) Q E ⟨h, g, d, t, os⟩ := by
  have LB : Looks M h (isSubtype (.ref C) (.type "BaseException")) true := looks_mroIn X hm
  simp only [checkBuiltinCall, be_kind, be_split]
  repeat (first | (with_reducible refine wpAny_loadPart_at hx ?_; rw [hc]) | with_reducible refine LB.at ?_ | wp_step)
  exact hq
theorem exc_call {tk : Tok} {R : Result → Shared → Prop} (X : K.In h) (hx : h.get? a = some o) (hc : o.cls = .ref C) (hm : mroIn K C (.type "object") = some true) (hb : mroIn K C (.type "BaseException") = some true)
    (hf : findIn K (.ref C) "__class__" = some (some (.builtin "object.__class__"))) (hq : R (.ok (.ret (.ref C))) ⟨h, g, d, t, os⟩) :
    codeAny (model prog w) A (.call (.builtin "BaseException.__getattribute__") ⟨[.ref a, .str "__class__" tk], []⟩) R ⟨h, g, d, t, os⟩ :=
  codeAny_call_builtin_at (Code.quiet_builtin _ (by decide +kernel)) be_entry (exc_check X hx hc hb (exc_entry X hx hc hm hf hq))
theorem be_bind (self : Value) : bindSpecial (.builtin "BaseException.__getattribute__") self = pure (.builtin "BaseException.__getattribute__", [self]) := by
  have hop : withoutEnding? "BaseException.__getattribute__" "#opaque" = none := by decide +kernel
  have hdat : withoutEnding? "BaseException.__getattribute__" "#data" = none := by decide +kernel
  simp only [bindSpecial, typeOf, builtinType, hop, hdat, be_kind]; rfl
theorem exc_by {tk : Tok} {Q : Value → Shared → Prop} (X : K.In h) (hx : h.get? a = some o) (hc : o.cls = .ref C) (hm : mroIn K C (.type "object") = some true) (hb : mroIn K C (.type "BaseException") = some true)
    (hf : findIn K (.ref C) "__class__" = some (some (.builtin "object.__class__"))) (hg : findIn K (.ref C) "__getattribute__" = some (some (.builtin "BaseException.__getattribute__"))) (hh : findIn K (.ref C) "__getattr__" = some none) (hq : Q (.ref C) ⟨h, g, d, t, os⟩) :
    wpAny (model prog w) A (getAttrBy (.ref a) (.str "__class__" tk) false) Q E ⟨h, g, d, t, os⟩ := by
  have LG : Looks (model prog w) h (typeLookup (.ref C) "__getattribute__") (some (.builtin "BaseException.__getattribute__")) := looks_findIn X hg
  have LH : Looks (model prog w) h (typeLookup (.ref C) "__getattr__") none := looks_findIn X hh
  have f3 := be_bind (.ref a)
  unfold getAttrBy
  refine wpAny_holding ?_
  repeat (first | (with_reducible refine wpAny_loadPart_at hx ?_; rw [hc]) | with_reducible refine LG.at ?_ | with_reducible refine LH.at ?_ | wp_step)
  refine exc_call X hx hc hm hb hf ?_
  show wpAny (model prog w) A (handedOut (.ref C)) Q E _
  exact handed_on rfl hq
theorem exc_attr {Q : Option Value → Shared → Prop} (X : K.In h) (hx : h.get? a = some o) (hc : o.cls = .ref C) (hm : mroIn K C (.type "object") = some true) (hb : mroIn K C (.type "BaseException") = some true)
    (hf : findIn K (.ref C) "__class__" = some (some (.builtin "object.__class__"))) (hg : findIn K (.ref C) "__getattribute__" = some (some (.builtin "BaseException.__getattribute__"))) (hh : findIn K (.ref C) "__getattr__" = some none)
    (hq : Q (some (.ref C)) ⟨h, g, d, t + 1, os⟩) : wpAny (model prog w) A (getAttr? (.ref a) "__class__") Q E ⟨h, g, d, t, os⟩ := by
  unfold getAttr? getAttrBy?
  repeat (any_goals (first | assumption | with_reducible apply exc_by X hx hc hm hb hf hg hh | wp_step))
end
structure XCls (K : Frag) (C : Addr) : Prop where
  ex : excIn K C [.type "ValueError", .type "Exception", .type "BaseException", .type "object"] "ValueError.__new__" = true
  ob : mroIn K C (.type "object") = some true
  be : mroIn K C (.type "BaseException") = some true
  ga : findIn K (.ref C) "__getattribute__" = some (some (.builtin "BaseException.__getattribute__"))
  gt : findIn K (.ref C) "__getattr__" = some none
  cl : findIn K (.ref C) "__class__" = some (some (.builtin "object.__class__"))
theorem XCls.obj {K : Frag} {C : Addr} (c : XCls K C) : ∃ (dd : Option Addr) (cd : ClassData) (sl : Array (Option Value)), K.lookup C = some ⟨.type "type", dd, .cls cd, sl⟩ := by
  have q := c.ex
  unfold excIn at q
  split at q
  · rename_i dd cd sl ho
    exact ⟨dd, cd, sl, ho⟩
  · cases q
theorem kitx_exc {K : Frag} {a C : Addr} (c : XCls K C) : KitX K (.ref a) (.ref C) (ExcA a C) where
  ty := fun M h _ ⟨o, h1, h2⟩ => h2 ▸ (Looks.ld h1).andThen .now
  it := fun M h X _ => by
    obtain ⟨dd, cd, sl, ho⟩ := c.obj
    intro A' Q' E' s' k q
    unfold isType loadHead
    exact wpAny_bind (wpAny_loadPart (k _ _ (X _ _ ho)) (wpAny_pure q))
  ne := fun h tp dd its n sl X htp => by
    obtain ⟨dd, cd, sl, ho⟩ := c.obj
    refine Bool.eq_false_iff.mpr fun q => ?_
    have e : C = tp := Value.ref.inj (beq_iff_eq.mp q)
    subst e
    have z := (X _ _ ho).symm.trans htp
    exact absurd (congrArg Obj.cls (Option.some.inj z)) (by show ¬ Value.type "type" = Value.type "tuple"; decide)
  ca := fun {_ _ _ _ _ s} X ⟨o, h1, h2⟩ k => by
    obtain ⟨h, g, d, t, os⟩ := s
    exact exc_attr X h1 h2 c.ob c.be c.cl c.ga c.gt k
end U


set_option linter.all false
set_option maxRecDepth 100000
set_option maxHeartbeats 4000000
namespace U
open PySem PySem.Spec PyProof.Rows L2
variable {B : Bs}
def XL (K : PySem.W.Frag) (B : Bs) (E' : XK') (E : XK) : Prop := ∀ c d H1' H1, E' c d H1' → HR K H1' H1 → Ev B.1 B.2 H1' H1 → E c d H1
section
variable {P : Program} {w : World} {K : PySem.W.Frag} {mg : Str → Option Value} {base : Heap}
theorem plain_cx {CX : CXT} {N : List Str} {qual : Str} {sc : Scope} {f : Addr} {cdv : Value} {A : Around} {outer : List Env} {s : Shared} {H : Hp} {E : XK} : Plain (cxOf CX P w K mg base N qual sc f cdv A outer s H E) := ⟨rfl, rfl, rfl⟩
theorem okX {x qual : Str} {st : Stmt} {f : Addr} {fd : FuncData} {N ps : List Str} {k : Nat} {sp : Sp'} (F : Fun K x qual st f fd) (S : FnScope N ps (defScope st)) (len : ∀ vs H Q E, sp vs H Q E → vs.length = ps.length)
    (hbody : ∀ (cdv : Value) (A : Around) (outer : List Env) (s : Shared) (H : Hp) (E : XK) (vs' : List PV) (H' : PHp) (Q' : VK') (E' : XK'), Room k (A.deeper (envOfC qual (defScope st) s.heap.objs.size f cdv)) → XL K (H', H) E' E → sp vs' H' Q' E' →
      ∃ t, PSs' (cxOf (CXU P w) P w K mg base N qual (defScope st) f cdv A outer s H E) (H', H) (defBody st) t ∧ t (ends Q') (start' N vs') H') : FnOk' P w K mg base (CXU P w) (k + 1) f fd ps sp := by
  obtain ⟨oc, od, kV, doc, pm, an, cdv, ct, osl, rfl, lk, hcd⟩ := F.ex
  refine fn_of lk hcd S (fun vs H Q E zz => by obtain ⟨vs', H', Q', E', r, hr, h, _⟩ := zz; rw [RPs.length _ r]; exact len _ _ _ _ h) fun A outer s H vs Q E hr hsp => ?_
  obtain ⟨vs', H', Q', E', r, hh, h, k1, k2⟩ := hsp
  obtain ⟨t, ht, hq⟩ := hbody cdv A outer s H E vs' H' Q' E' hr k2 h
  refine ⟨_, ht, start' N vs', H', _, sr_start r hh, hq, ?_, ?_, ?_, ?_⟩
  · rintro σ1' H1' σ1 H1 ⟨H3, sb, q⟩ s1 e1
    exact k1 _ H3 _ H1 q (by simp [RP]) (s1.hp.sub sb) (e1.sub sb)
  · rintro v' H1' v H1 ⟨H3, sb, q⟩ r1 s1 e1
    exact k1 _ H3 _ H1 q r1 (s1.sub sb) (e1.sub sb)
  · intro _ _ _ _ z; exact z.elim
  · intro _ _ _ _ z; exact z.elim
end
section
variable {X : Cx} {k : Nat} {f C D : Addr} {fd : FuncData} {ps : List Str} {sp : Sp'} {E : XK} {E' : XK'} {x m n : Str} {p np pos apos cpos : Pos} {e o : Expr} {es : List Expr} {ta : TE'} {t : TA'}
def Lv (X : Cx) (E : XK) : Prop := X.xe = fun e s' => wpAny (model X.prog X.w) X.A (leaving X.env e) (fun _ s'' => CXU X.prog X.w X.outer X.H₀ X.s₀ E e s'') (fun e' s'' => CXU X.prog X.w X.outer X.H₀ X.s₀ E e' s'') s'
theorem lv_pass (l : Lv X E) (pl : Plain X) : Passes (CXU X.prog X.w) X E := fun pins σ H s e s' I c => by
  obtain ⟨a, C, T, H1, rfl, I1, x1, hE, _⟩ := from_call I pl c
  rw [l]
  exact leave_x I1 pl x1 hE
theorem low_callX {K : PySem.W.Frag} (hE : XL K B E' E) {σ : L2.St} {H : Hp} {Q : VK} (h : low K B (uCall sp E' t) σ H Q) : tCall (lowSp K sp) [] E (lowA K B t) σ H Q := by
  obtain ⟨σ', H', Q', s, h, k⟩ := h
  refine ⟨σ', H', _, s, h, fun vs' H1' vs H1 h1 r1 s1 e1 => ?_⟩
  show lowSp K sp (vs ++ []) H1 Q E
  rw [List.append_nil]
  exact ⟨vs', H1', Q', E', r1, s1.hp, h1, fun v' H2' v H2 q r2 h2 e2 => k v' H2' v H2 q r2 (s1.kp e2 h2) (e1.trans e2), fun c d H2' H2 q h2 e2 => hE c d H2' H2 q h2 (s1.ev.trans e2)⟩
theorem qe_callX (l : Lv X E) (pl : Plain X) (hE : XL X.K B E' E) (F : FnOk' X.prog X.w X.K X.mg X.base (CXU X.prog X.w) k f fd ps sp) (hr : Room k X.A) (hg : Gl X x) (hm : X.mg x = some (.ref f)) (hk : PySem.W.keepIn X.K (.ref f) = true) (hb : Binds X.K fd ps [])
    (ha : PA' X B (e :: es) t) (hdb : (x == ("__debug__" : Str)) = false := by decide) (he : starEach (e :: es) X.env = (false, eval e X.env) :: starEach es X.env := by rfl) (hpl : (backTo pos (starEach es X.env)).any (·.1) = false := by rfl) :
    PE' X B (.Call (.Name x p) (e :: es) [] pos) (uCall sp E' t) := pe_imp (pe_call F hr hg hm hk hb .nil (lv_pass l pl) ha hdb he hpl) fun _ _ _ h => low_callX hE h
theorem cls_at {K : PySem.W.Frag} {h : Heap} (KX : K.In h) (c : XCls K C) : ∃ (bm : List Value) (N : Addr) (nm q : Str) (bs : List Value) (hdct : Bool) (sn : List Str) (sub : List Value) (ab : Bool) (col : Option Bool) (dd : Option Addr) (k0 k1 k2 k3 k5 : Option Value) (mN : Str → Option Value),
    h.get? C = some (excClassObj nm q C N bs bm hdct sn sub ab col dd k0 k1 k2 k3 k5 "ValueError.__new__") ∧ h.Ns N mN ∧ mN "__init__" = none ∧ OwnTail h [.type "ValueError", .type "Exception", .type "BaseException", .type "object"] bm := by
  have q := c.ex
  unfold PySem.W.excIn at q
  split at q
  · rename_i dd cd sl ho
    split at q
    · rename_i C' bm k0 k1 k2 k3 n k5 hm hs
      simp only [Bool.and_eq_true, beq_iff_eq, Bool.not_eq_true'] at q
      obtain ⟨⟨⟨⟨⟨rfl, rfl⟩, hdel⟩, ht⟩, hok⟩, hni⟩ := q
      obtain ⟨nm, bs, mro, ns, qn, hd, sn, sub, ab, col, del⟩ := cd
      dsimp only at hm hdel hok hni
      subst hm hdel
      have hsl : sl = #[k0, k1, k2, k3, some (.builtin "ValueError.__new__"), k5] := by
        obtain ⟨l⟩ := sl
        simp only at hs
        rw [hs]
      subst hsl
      exact ⟨bm, ns, nm, qn, bs, hd, sn, sub, ab, col, dd, k0, k1, k2, k3, k5, _, KX _ _ ho, .of_isNs (PySem.W.isNs_of_in KX hok), PySem.W.nsMap_none_of_in KX hok hni, PySem.W.tail_of_in KX ht⟩
    · cases q
  · cases q
def uRaise (C : Addr) (E' : XK') : TS' := fun _ _ H => E' (.ref C) none H
theorem qs_raise {msg : Str} {j : Nat} {mp : Pos} (l : Lv X E) (pl : Plain X) (hE : XL X.K B E' E) (hc : X.calm = true) (c : XCls X.K C) (hg : Gl X x) (hm : X.mg x = some (.ref C)) (hdb : (x == ("__debug__" : Str)) = false := by decide) :
    PS' X B (.Raise (some (.Call (.Name x np) [.Constant (.str msg) j mp] [] cpos)) none pos) (uRaise C E') := by
  intro pins s σ H Dn I ⟨σ', H', D', sr, h, dr⟩
  have hE1 : E (.ref C) none H := hE _ _ H' H h sr.hp sr.ev
  obtain ⟨bm, N, nm, q, bs, hdct, sn, sub, ab, col, dd, k0, k1, k2, k3, k5, mN, hC, hN, hni, TL⟩ := cls_at I.mod.kin c
  refine wpAny_Raise_call_subT (C := C) (nm := nm) (q := q) (N := N) (bs := bs) (bm := bm) (hdct := hdct) (sn := sn) (sub := sub) (ab := ab) (col := col) (dd := dd) (k0 := k0) (k1 := k1) (k2 := k2) (k3 := k3) (k5 := k5) PySem.F.excBase_ValueError (TL.hasType (by decide)) (I.ok.hd hc) rfl hni (ld_glob I hg hm ⟨rfl, ?_⟩ hdb)
  refine Calls.evalArgs_plain ?_
  refine thn (pa_cons (X := X) pe_str pa_nil rfl cpos pins s σ H (fun vs H1 => vs = [.str msg] ∧ H1 = H) I ⟨rfl, rfl⟩) fun us s2 ⟨vs, H1, I2, r, ev, eh⟩ => ?_
  subst ev; subst eh
  have hl : us.length = 1 := by rw [← r.length]; rfl
  refine ⟨rfl, by show us.length ≤ sizeLine; rw [hl]; exact small_size (by decide), I2.bk _ _ hC, hN.keeps I2.bk, TL.keeps I2.bk, fun h' a mx => ?_⟩
  rw [l]
  exact leave_made I2 pl mx hE1
end
end U


set_option linter.all false
set_option maxRecDepth 100000
set_option maxHeartbeats 4000000
namespace U
open PySem PySem.Spec PyProof.Rows L2
variable {B : Bs}
section
variable {X : Cx} {pins : List (Addr × Obj)} {σ : L2.St} {H : Hp} {s : Shared} {a C T : Addr} {fl : Value}
theorem name_goes {M : Model} {A : Around} {E : Value → Shared → Prop} {i : Nat} {n : Str} {pos : Pos} {Q : Unit → Shared → Prop} (I : Inv X pins σ H s) (hN : X.N.Nodup) (hi : X.N[i]? = some n) (hl : X.env.scope.names.lookup n = some .local)
    (h : ∀ s', Inv X pins (σ.set i none) H s' → Q () s') : wpAny M A (do bindName X.env n .none; unbindBehindTheSuite X.env n pos) Q E s := by
  obtain ⟨m, hn, hlo⟩ := id I.loc
  have hcls : (X.env.scope.kind == .class || (X.env.scope.kind == .module && X.env.locals != X.env.globals)) = false := by rw [I.ok.kind]; rfl
  refine wpAny_nameGoes_keeps hl hn hcls fun h' v hn' hs => h _ ?_
  obtain ⟨oL, _, _, hoL, _⟩ := id hn
  have cne := I.cne
  refine ⟨I.ok, I.os, I.bare, ⟨fun b o e n' hb hx => ?_, fun b o e n' hb hx => ?_, I.base.free, fun b o e hx => ?_, I.base.tups, I.base.frzs, I.base.tbls⟩, ⟨_, hn', fun j y v' e1 e2 e3 => ?_⟩, fun y c e => ?_, I.free, I.freeC, fun p hp => ?_, fun b ob e => ?_, by rw [List.length_set]; exact I.len⟩
  · exact (hs.2 b (Nat.ne_of_lt (Nat.lt_of_lt_of_le (Heap.lt_size e) I.ok.above))).trans (I.base.keep b o e n' hb hx)
  · obtain ⟨sl, e1⟩ := I.base.slot b o e n' hb hx
    exact ⟨sl, (hs.2 b (Nat.ne_of_lt (Nat.lt_of_lt_of_le (Heap.lt_size e) I.ok.above))).trans e1⟩
  · obtain ⟨o', e1⟩ := I.base.there b o e hx
    exact ⟨o', (hs.2 b (Nat.ne_of_lt (Nat.lt_of_lt_of_le (Heap.lt_size e) I.ok.above))).trans e1⟩
  · by_cases hj : j = i
    · subst hj
      by_cases hlt : j < σ.length
      · rw [List.getElem?_set_self hlt] at e2; cases e2
      · rw [List.getElem?_eq_none (by simpa using Nat.le_of_not_lt hlt)] at e2; cases e2
    · rw [List.getElem?_set_ne (Ne.symm hj)] at e2
      obtain ⟨u', r', q⟩ := hlo j y v' e1 e2 e3
      refine ⟨u', r', ?_⟩
      rcases q with ⟨k, e⟩ | ⟨k, c, e, z⟩
      · refine .inl ⟨k, ?_⟩
        have : y ≠ n := fun e => hj (nodup_ix hN e1 (e ▸ hi))
        simp [this, e]
      · exact .inr ⟨k, c, e, z.sameBut hs (cne y c e)⟩
  · obtain ⟨w', z⟩ := I.cell y c e
    exact ⟨w', z.sameBut hs (cne y c e)⟩
  · obtain ⟨e, n', ne, nf, d⟩ := I.pin p hp
    exact ⟨(hs.2 p.1 ne).trans e, n', ne, nf, d⟩
  · refine (I.hok b ob e).stay (fun c w' hc q => (hs.2 c ?_).trans q) (fun _ q => q) fun _ _ q => q
    rintro rfl
    rcases hc with rfl | hc
    · rw [I.free] at e; cases e
    · rw [I.free] at hc; cases hc
theorem track_x (I : Inv X pins σ H s) (x : XAt X pins H s a C T fl) : Inv X pins σ (upd H a (.ext (ExcA a C))) s := by
  obtain ⟨oe, vs, oT, ts, a0, e1, e2, e3, e4, e5, e7, e8, e9, e10⟩ := x.fly
  have hL : X.env.locals ≠ a := by
    rintro rfl
    obtain ⟨m, ⟨o, es, ep, ho, hd, _⟩, _⟩ := I.loc
    rw [e1] at ho; cases ho; rw [e4] at hd; cases hd
  refine ⟨I.ok, I.os, I.bare, ⟨I.base.keep, I.base.slot, fun b o e n hx => ?_, I.base.there, fun b xs e => ?_, fun b o u e => ?_, fun b ps e => ?_⟩, I.loc, I.cell, ?_, fun y c e => ?_, fun p hp => ?_, fun b ob e => ?_, I.len⟩
  · rw [upd_ne (fun z => by subst z; rw [x.na] at e; cases e)]; exact I.base.free b o e n hx
  · have := I.base.tups b xs e
    rw [upd_ne (ne_of_none this x.ha)]; exact this
  · have := I.base.frzs b o u e
    rw [upd_ne (ne_of_none this x.ha)]; exact this
  · obtain ⟨more, this⟩ := I.base.tbls b ps e
    exact ⟨more, by rw [upd_ne (ne_of_none this x.ha)]; exact this⟩
  · rw [upd_ne hL]; exact I.free
  · refine (upd_ne ?_).trans (I.freeC y c e)
    rintro rfl
    obtain ⟨v, o, ho, hd⟩ := I.cell y c e
    rw [e1] at ho; cases ho; rw [e4] at hd; cases hd
  · obtain ⟨e, n, ne, nf, d⟩ := I.pin p hp
    exact ⟨e, by rw [upd_ne (x.pin p hp).1]; exact n, ne, nf, d⟩
  · by_cases hb : b = a
    · subst hb
      rw [upd_same] at e; cases e
      exact ⟨⟨oe, e1, e2⟩, ⟨oe, e1⟩, fun h1 h2 ⟨o, q1, q2⟩ k => ⟨o, k o q1, q2⟩⟩
    · rw [upd_ne hb] at e
      exact (I.hok b ob e).stay (fun _ _ _ q => q) (fun c q => by rw [upd_ne (ne_of_none q x.ha)]; exact q) fun c xs q => by rw [upd_ne (ne_of_none q x.ha)]; exact q
abbrev mk (X : Cx) (e : Value) : Cx := { X with A := X.A.mark (some e), calm := false, xe := fun _ _ => False }
theorem inv_mk (I : Inv X pins σ H s) (e : Value) : Inv (mk X e) pins σ H s :=
  ⟨⟨I.ok.mod, I.ok.kind, I.ok.glob, I.ok.blt, I.ok.above, I.ok.inj, I.ok.has, I.ok.cab, (fun z => by cases z), I.ok.frames, I.ok.stk, I.ok.exf, I.ok.bs, I.ok.bsz, I.ok.noex, I.ok.exfs, I.ok.funs, I.ok.frf⟩, I.os, I.bare, I.base, I.loc, I.cell, I.free, I.freeC, I.pin, I.hok, I.len⟩
theorem inv_unmk {e : Value} (ok : X.Ok) (I : Inv (mk X e) pins σ H s) : Inv X pins σ H s := ⟨ok, I.os, I.bare, I.base, I.loc, I.cell, I.free, I.freeC, I.pin, I.hok, I.len⟩
theorem plain_mk (pl : Plain X) (e : Value) : Plain (mk X e) := ⟨pl.ex, pl.stk, pl.fr⟩
open PySem.W in
theorem excMatches_own {M : Model} {A : Around} {E : Value → Shared → Prop} {D : Addr} {b : Bool} {Q : Bool → Shared → Prop} (KX : X.K.In s.heap) (cD : XCls X.K D) (hm : mroIn X.K C (.ref D) = some b) (x : ∃ o, s.heap.get? a = some o ∧ o.cls = .ref C)
    (h : Q b s) : wpAny M A (excMatches (.ref a) (.ref D)) Q E s := by
  obtain ⟨oe, he, hcls⟩ := x
  obtain ⟨bm, N, nm, q, bs, hdct, sn, sub, ab, col, dd, k0, k1, k2, k3, k5, mN, hC, hN, hni, TL⟩ := cls_at KX cD
  have hcB : (Value.ref D :: bm).contains (.type "BaseException") = true := by rw [List.contains_cons, TL.hasType (X := "BaseException") (b := true) (by decide), Bool.or_true]
  have LS : Looks M s.heap (isSubtype (.ref C) (.ref D)) b := looks_mroIn KX hm
  have f := tc_notTuple
  obtain ⟨hp, g, d, t, os⟩ := s
  unfold excMatches
  repeat (first | (with_reducible refine wpAny_loadPart_at he ?_; rw [hcls]) | with_reducible refine wpAny_loadPart_at hC ?_ | (with_reducible refine wpAny_isSubtype_exc hC ?_; rw [hcB]) | with_reducible refine LS.at ?_ | wp_step)
  cases b with
  | true => wp_walk; exact h
  | false => wp_walk; exact h
end
end U


set_option linter.all false
set_option maxRecDepth 100000
set_option maxHeartbeats 4000000
namespace U
open PySem PySem.Spec PyProof.Rows L2
variable {B : Bs}
abbrev TX' := St' → PHp → VK' → XK' → Prop
abbrev TSX' := Ends' → (St' → XK') → St' → PHp → Prop
structure Come (X : Cx) (B : Bs) (pins : List (Addr × Obj)) (σ' : St') (H' : PHp) (H : Hp) (E' : XK') (σ1 : L2.St) (a : Addr) (s1 : Shared) : Prop where
  ex : ∃ H1' H1 C T, Inv X pins σ1 H1 s1 ∧ XAt X pins H1 s1 a C T .none ∧ SR X.K B σ' H1' σ1 H1 ∧ Ev H' H H1' H1 ∧ E' (.ref C) none H1'
def PXE (X : Cx) (B : Bs) (e : Expr) (t : TX') : Prop := ∀ (Ex : Value → Shared → Prop) (pins : List (Addr × Obj)) (s : Shared) (σ : L2.St) (H : Hp) (Q : VK) (σ' : St') (H' : PHp) (Q' : VK') (E' : XK'), Inv X pins σ H s → SR X.K B σ' H' σ H → t σ' H' Q' E' →
  (∀ v' H1' v H1, Q' v' H1' → RP X.K H1 v' v → SR X.K B σ' H1' σ H1 → Ev H' H H1' H1 → Q v H1) → (∀ a s1, Come X B pins σ' H' H E' σ a s1 → Ex (.ref a) s1) → wpAny (model X.prog X.w) X.A (eval e X.env) (EP X pins σ Q) Ex s
def PSX (X : Cx) (B : Bs) (st : Stmt) (t : TSX') : Prop := ∀ (Ex : Value → Shared → Prop) (pins : List (Addr × Obj)) (s : Shared) (σ : L2.St) (H : Hp) (D : Ends) (σ' : St') (H' : PHp) (D' : Ends') (E' : St' → XK'), Inv X pins σ H s → SR X.K B σ' H' σ H → t D' E' σ' H' → DR X.K B D' D H' H →
  (∀ σ1' σ1 a s1, Come X B pins σ1' H' H (E' σ1') σ1 a s1 → Ex (.ref a) s1) → wpAny (model X.prog X.w) X.A (exec st X.env) (SP X pins D) Ex s
def PSXs (X : Cx) (B : Bs) (sts : List Stmt) (t : TSX') : Prop := ∀ (Ex : Value → Shared → Prop) (pins : List (Addr × Obj)) (s : Shared) (σ : L2.St) (H : Hp) (D : Ends) (σ' : St') (H' : PHp) (D' : Ends') (E' : St' → XK'), Inv X pins σ H s → SR X.K B σ' H' σ H → t D' E' σ' H' → DR X.K B D' D H' H →
  (∀ σ1' σ1 a s1, Come X B pins σ1' H' H (E' σ1') σ1 a s1 → Ex (.ref a) s1) → wpAny (model X.prog X.w) X.A (execs sts X.env) (SP X pins D) Ex s
section
variable {X : Cx} {k : Nat} {f C D : Addr} {fd : FuncData} {ps : List Str} {sp : Sp'} {x m n : Str} {p np pos apos cpos : Pos} {e o : Expr} {es : List Expr} {ta : TE'} {t : TA'}
theorem no_ex {α : Type} {A : Around} {tr : Sem α} {Q : α → Shared → Prop} {Ex : Value → Shared → Prop} {M : Model} {s : Shared} (h : wpAny M A tr Q (fun _ _ => False) s) : wpAny M A tr Q Ex s := wpAny_mono h (fun _ _ q => q) fun _ _ z => z.elim
theorem Come.later {pins : List (Addr × Obj)} {σ' : St'} {H' H1' : PHp} {H H1 : Hp} {E' : XK'} {σ1 : L2.St} {a : Addr} {s1 : Shared} (c : Come X B pins σ' H1' H1 E' σ1 a s1) (e : Ev H' H H1' H1) : Come X B pins σ' H' H E' σ1 a s1 := by
  obtain ⟨H2', H2, C, T, i, x, s, v, q⟩ := c.ex
  exact ⟨H2', H2, C, T, i, x, s, e.trans v, q⟩
theorem runX {pins : List (Addr × Obj)} {σ : L2.St} {H : Hp} {s : Shared} {Q : VK} {us : List Value} {vs : List V} {Ex : Value → Shared → Prop} {σ' : St'} {H' : PHp} {vs' : List PV} {Q' : VK'} {E' : XK'} (pl : Plain X)
    (F : FnOk' X.prog X.w X.K X.mg X.base (CXU X.prog X.w) k f fd ps sp) (hr : Room k X.A) (hb : Binds X.K fd ps []) (I : Inv X pins σ H s) (sr : SR X.K B σ' H' σ H) (r : Vals vs us) (r' : RPs X.K H vs' vs) (h : sp vs' H' Q' E')
    (hQ : ∀ v' H1' v H1, Q' v' H1' → RP X.K H1 v' v → SR X.K B σ' H1' σ H1 → Ev H' H H1' H1 → Q v H1) (hE : ∀ a s1, Come X B pins σ' H' H E' σ a s1 → Ex (.ref a) s1) :
    wpAny (model X.prog X.w) X.A (call (.ref f) us) (EP X pins σ Q) Ex s := by
  have hsp : lowSp X.K sp vs H Q (fun c d H1 => ∃ H1', E' c d H1' ∧ HR X.K H1' H1 ∧ Ev H' H H1' H1) :=
    ⟨vs', H', Q', E', r', sr.hp, h, fun v' H2' v H2 q r2 h2 e2 => hQ v' H2' v H2 q r2 (sr.kp e2 h2) e2, fun c d H2' H2 q h2 e2 => ⟨H2', q, h2, e2⟩⟩
  have hl : (us ++ []).length = ps.length := by rw [List.append_nil, ← r.length]; exact F.len _ _ _ _ hsp
  have hb' := hb s us I.kIn hl
  rw [List.append_nil] at hb'
  refine wpAny_call (codeAny_mono (F.run X.A X.stack s H ⟨us, []⟩ us vs Q _ hr I.env0 hb' r hsp) fun r s' hq => ?_)
  cases r with
  | error e =>
    have hq' : CXU X.prog X.w X.stack H s (fun c d H1 => ∃ H1', E' c d H1' ∧ HR X.K H1' H1 ∧ Ev H' H H1' H1) e s' := hq
    obtain ⟨a, C, T, H1, rfl, I1, x1, ⟨H1', q, h1, e1⟩, _⟩ := from_call I pl hq'
    exact hE a s' ⟨H1', H1, C, T, I1, x1, sr.kp e1 h1, e1, q⟩
  | ok fl =>
    cases fl with
    | ret u => exact I.after hq
    | next => exact False.elim hq
    | brk => exact False.elim hq
    | cont => exact False.elim hq
def xCall (sp : Sp') (t : TA') : TX' := fun σ H Q E => t σ H fun vs H1 => sp vs H1 Q E
theorem px_call (pl : Plain X) (F : FnOk' X.prog X.w X.K X.mg X.base (CXU X.prog X.w) k f fd ps sp) (hr : Room k X.A) (hg : Gl X x) (hm : X.mg x = some (.ref f)) (hk : PySem.W.keepIn X.K (.ref f) = true) (hb : Binds X.K fd ps [])
    (ha : PA' X.nox B (e :: es) t) (hdb : (x == ("__debug__" : Str)) = false := by decide) (he : starEach (e :: es) X.env = (false, eval e X.env) :: starEach es X.env := by rfl) (hpl : (backTo pos (starEach es X.env)).any (·.1) = false := by rfl) :
    PXE X B (.Call (.Name x p) (e :: es) [] pos) (xCall sp t) := by
  intro Ex pins s σ H Q σ' H' Q' E' I sr h hQ hE
  refine wpAny_Call_Name_kw (ld_glob I hg hm ?_ hdb)
  have hA := ha pos pins s σ H (fun vs H1 => ∃ vs' H1', RPs X.K H1 vs' vs ∧ SR X.K B σ' H1' σ H1 ∧ Ev H' H H1' H1 ∧ sp vs' H1' Q' E') (I.wish _) ⟨σ', H', _, sr, h, fun vs' H1' vs H1 q r s1 e1 => ⟨vs', H1', r, s1, e1, q⟩⟩
  refine PySem.W.callWith_K (h₀ := X.base) I.ok.mod.kin hk (thn (no_ex hA) fun us s1 ⟨vs, H1, I1, r, vs', H1', r', s1', e1, q⟩ => ⟨I1.kIn, ?_⟩) he hpl
  exact runX pl F hr hb I1.unwish s1' r r' q (fun v' H2' v H2 q r2 s2 e2 => hQ v' H2' v H2 q r2 s2 (e1.trans e2)) fun a s2 c => hE a s2 (c.later e1)
def xSet (i : Nat) (t : TX') : TSX' := fun D E σ H => t σ H (fun v H1 => D.nx (σ.set i (some v)) H1) (E σ)
def xDrop (t : TX') : TSX' := fun D E σ H => t σ H (fun _ H1 => D.nx σ H1) (E σ)
theorem qx_set {i : Nat} {y : Str} {pos' : Pos} {tx : TX'} (hN : X.N.Nodup) (hi : X.N[i]? = some y) (hy : Loc X.env.scope y) (he : PXE X B e tx) (hs : swapsWith e (some (.Name y pos')) pos.line X.env = pure false := by rfl)
    (hf : X.fn y = true ∨ X.env.scope.names.lookup y = some .local := by first | exact .inl rfl | exact .inr rfl | assumption) : PSX X B (.Assign [.Name y pos'] e pos) (xSet i tx) := by
  intro Ex pins s σ H D σ' H' D' E' I sr h dr hE
  refine wpAny_Assign_Name (thn (he Ex pins s σ H (fun v H1 => ∃ v' H1', D'.nx (σ'.set i (some v')) H1' ∧ RP X.K H1 v' v ∧ SR X.K B σ' H1' σ H1 ∧ Ev H' H H1' H1) σ' H' _ (E' σ') I sr h (fun v' H1' v H1 q r s1 e1 => ⟨v', H1', q, r, s1, e1⟩) fun a s1 c => hE σ' σ a s1 c) fun v s1 ⟨y, H1, I1, r1, v', H1', q, r, s1', e1⟩ => ?_) hs
  exact store_ok I1 hN hi hy r1 (fun s2 I2 => ⟨_, H1, I2, dr.nx _ _ _ _ q (s1'.set r i) e1⟩) hf
def xSeq (t u : TSX') : TSX' := fun D E σ H => t { D with nx := u D E } E σ H
theorem qxs_one {st : Stmt} {ts : TSX'} (h : PSX X B st ts) : PSXs X B [st] ts := by
  intro Ex pins s σ H D σ' H' D' E' I sr ht dr hE
  refine wpAny_execs_cons (thn (h Ex pins s σ H D σ' H' D' E' I sr ht dr hE) fun f s1 q => ?_)
  cases f with
  | next => exact wpAny_execs_nil q
  | _ => exact q
def xIf (c : TT') (t u : TSX') : TSX' := fun D E σ H => c σ H fun b H1 => cif b (t D E σ H1) (u D E σ H1)
def uTry (K : PySem.W.Frag) (D : Addr) (t : TSX') (i j : Nat) : TS' := fun Dn σ H => t Dn (fun σ1 c d H1 => ∃ C, c = .ref C ∧ (XCls K C ∧ PySem.W.mroIn K C (.ref D) = some true) ∧ ∀ a, H1 a = none → Dn.nx (((σ1.set i (some (.ref a))).set j (some (.ref a))).set i none) (put H1 a (.exc C))) σ H
theorem qs_try {body : List Stmt} {tb : TSX'} {i j : Nat} {z : Str} {zp n2 ap hp : Pos} (pl : Plain X) (hN : X.N.Nodup) (hi : X.N[i]? = some n) (hj : X.N[j]? = some z) (hln : X.env.scope.names.lookup n = some .local) (hlz : X.env.scope.names.lookup z = some .local)
    (cD : XCls X.K D) (hg : Gl X x) (hm : X.mg x = some (.ref D)) (hb : PSXs X B body tb)
    (hdb : (x == ("__debug__" : Str)) = false := by decide) (hnd : (n == ("__debug__" : Str)) = false := by decide) (hncd : (n == ("__classdict__" : Str)) = false := by decide)
    (hsw : swapsWith (.Name n n2) (some (.Name z zp)) ap.line X.env = pure false := by rfl) :
    PS' X B (.Try body [.ExceptHandler (some (.Name x np)) (some n) [.Assign [.Name z zp] (.Name n n2) ap] hp] [] [] pos) (uTry X.K D tb i j) := by
  intro pins s σ H Dn I ⟨σ', H', D', sr, h, dr⟩
  refine wpAny_Try_except (wpAny_mono (hb (fun e s₁ => wpAny (model X.prog X.w) X.A (noteFrame e X.env) (fun _ s₂ => wpAny (model X.prog X.w) X.A (setFlight e none) (fun _ s₃ => wpAny (model X.prog X.w) X.A (handleBy e X.env [.ExceptHandler (some (.Name x np)) (some n) [.Assign [.Name z zp] (.Name n n2) ap] hp]) (SP X pins Dn) X.xe s₃) X.xe s₂) X.xe s₁)
    pins s σ H Dn σ' H' D' _ I sr h dr ?_) (fun f s₁ q => ?_) fun _ _ q => q)
  · rintro σ1' σ1 a s1 ⟨H1', H1, C, T, I1, x1, sr1, e1, C', ec, ⟨cC, hmC⟩, hn⟩
    cases ec
    refine note_x I1 pl x1 fun h2 T2 I2 x2 => ?_
    refine land_x I2 pl x2 fun h3 T3 I3 x3 => ?_
    obtain ⟨oe, vs, oT, ts, a0, q1, q2, _⟩ := id x3.fly
    refine wpAny_handleBy_cons (codeAny_handlers_test (ld_glob (inv_mk I3 (.ref a)) hg hm ?_ hdb)) (by intro q; cases q)
    refine excMatches_own (X := X) I3.kIn cD hmC ⟨oe, q1, q2⟩ ?_
    show codeAny _ _ (.handlers (.ref a) [.ExceptHandler none (some n) [.Assign [.Name z zp] (.Name n n2) ap] hp] X.env) _ _
    refine codeAny_handlers_suite_as ?_
    refine land_x (X := mk X (.ref a)) (inv_mk I3 (.ref a)) (plain_mk pl _) (T := T3) (fl := .none) ⟨x3.fly, x3.ha, x3.hT, x3.na, x3.nT, x3.pin⟩ fun h4 T4 I4 x4 => ?_
    have I5 := track_x I4 x4
    refine store_ok (X := mk X (.ref a)) (v := .ref a) I5 hN hi (Or.inl hln) rfl (fun s5 I6 => ?_) (.inr hln)
    have ps := pss_one (ps_set (X := mk X (.ref a)) (pos := ap) (i := j) hN hj (Or.inl hlz) (pe_var (pos := n2) hi (Or.inl hln) hnd hncd) hsw (.inr hlz))
    have hiσ : i < σ1.length := by rw [I1.len]; exact (List.getElem?_eq_some_iff.mp hi).1
    refine no_ex (thn (ps pins s5 _ _ { nx := fun σ6 H6 => σ6 = (σ1.set i (some (.ref a))).set j (some (.ref a)) ∧ H6 = upd H1 a (.ext (ExcA a C)), rt := fun _ _ => False } I6 ⟨.ref a, List.getElem?_set_self hiσ, rfl, rfl⟩) fun f s6 q => ?_)
    cases f with
    | next =>
      obtain ⟨σ6, H6, I7, rfl, rfl⟩ := q
      show wpAny _ X.A (do bindName X.env n .none; unbindBehindTheSuite X.env n hp) _ _ _
      refine name_goes (inv_unmk I.ok I7) hN hi hln fun s7 I8 => ?_
      refine ⟨_, _, I8, dr.nx _ _ _ _ (hn a (sr1.hp.free x1.ha)) ?_ (e1.trans (Ev.new x1.ha))⟩
      have srn : SR X.K B σ1' (put H1' a (.exc C)) σ1 (upd H1 a (.ext (ExcA a C))) := sr1.new x1.ha (upd_same)
      have r : RP X.K (upd H1 a (.ext (ExcA a C))) (.ref a) (.ref a) := by simp [RP]
      have sr2 := (srn.set r i).set r j
      refine ⟨by simp [sr2.len], fun k v' ek => ?_, sr2.hp, sr2.ev⟩
      by_cases hk : i = k
      · subst hk
        by_cases hlt : i < σ1'.length
        · rw [List.getElem?_set_self (by simpa using hlt)] at ek; cases ek
        · rw [List.getElem?_eq_none (by simpa using Nat.le_of_not_lt hlt)] at ek; cases ek
      · rw [List.getElem?_set_ne hk] at ek ⊢
        exact sr2.loc k v' ek
    | ret v => obtain ⟨_, _, _, _, _, z⟩ := q; exact z.elim
    | brk => obtain ⟨_, _, _, z⟩ := q; exact z.elim
    | cont => obtain ⟨_, _, _, z⟩ := q; exact z.elim
  · cases f with
    | next => exact wpAny_execs_nil q
    | ret v => exact q
    | brk => exact q
    | cont => exact q
def isxOf (K : PySem.W.Frag) (D : Value) (x : PV) (H : PHp) (Q : VK') : Prop := match x with
  | .ref a => ∃ C b, H a = some (.exc C) ∧ XCls K C ∧ PySem.W.kitOne K (.ref C) D = some b ∧ Q (.bl b) H
  | _ => False
def uIsx (K : PySem.W.Frag) (D : Value) (ta : TE') : TE' := fun σ H Q => ta σ H fun x H1 => isxOf K D x H1 Q
theorem call_isx {dv : V} (Dv : Value) (hD : ∀ u, RelV dv u → u = Dv) : CallR X (.builtin "isinstance") (fun xs H Q => ∃ a C b, xs = [.ref a, dv] ∧ H a = some (.ext (ExcA a C)) ∧ XCls X.K C ∧ PySem.W.kitOne X.K (.ref C) Dv = some b ∧ Q (.bl b) H) := by
  intro pins s σ H xs us Q I r h
  obtain ⟨a, C, b, rfl, ha, c, k, q⟩ := h
  obtain ⟨u, w', rfl, rx, rc⟩ := vals2 r
  have e1 : w' = Dv := hD _ rc
  subst e1
  cases rx
  obtain ⟨ph, _, _⟩ := (show ObjOk X.prog X.w H s.heap a (.ext (ExcA a C)) from I.hok a _ ha)
  exact PySem.W.kia_one (kitx_exc c) I.kIn ph k (fun z => nomatch z) fun tk => ⟨.bl b, H, I.tok _, rfl, q⟩
theorem low_isx {K : PySem.W.Frag} {dv' : PV} {dv : V} {Dv : Value} (rd : ∀ H, RP K H dv' dv) {σ : L2.St} {H : Hp} {Q : VK} (h : low K B (uIsx K Dv ta) σ H Q) :
    tCB (fun xs H Q => ∃ a C b, xs = [.ref a, dv] ∧ H a = some (.ext (ExcA a C)) ∧ XCls K C ∧ PySem.W.kitOne K (.ref C) Dv = some b ∧ Q (.bl b) H) (tCons (low K B ta) (tCons (tC dv) tNil)) σ H Q := by
  obtain ⟨σ', H', Q', s, h, k⟩ := h
  refine ⟨σ', H', _, s, h, fun x' H1' x H1 h1 rx s1 e1 => ?_⟩
  cases x' with
  | ref a =>
    obtain ⟨C, b, ea, c, kk, q⟩ := h1
    simp only [RP] at rx
    subst rx
    exact ⟨a, C, b, rfl, s1.hp _ _ ea, c, kk, k _ _ _ _ q (by simp [RP]) s1 e1⟩
  | _ => exact h1.elim
theorem qe_isx {pD : Pos} (hm : X.mg x = some (.ref D)) (hgD : Gl X x) (hg : Gl X "isinstance") (hi : X.mg "isinstance" = none) (ha : PE' X B e ta) (hdb : (x == ("__debug__" : Str)) = false := by decide)
    (he : starEach [e, .Name x pD] X.env = (false, eval e X.env) :: starEach [.Name x pD] X.env := by rfl) (he2 : starEach [.Name x pD] X.env = (false, eval (.Name x pD) X.env) :: starEach [] X.env := by rfl) (hpl : (backTo pos (starEach [.Name x pD] X.env)).any (·.1) = false := by rfl) :
    PE' X B (.Call (.Name "isinstance" p) [e, .Name x pD] [] pos) (uIsx X.K (.ref D) ta) :=
  pe_imp (pe_callB (call_isx (dv := .ref D) (.ref D) fun u r => r) hg hi boot_isinstance (pa_cons ha (pa_cons (pe_glob hgD hm (v := .ref D) rfl hdb) pa_nil he2) he) (by decide) (by decide) he hpl) fun _ _ _ h => low_isx (dv' := .ref D) (fun _ => by simp [RP]) h
theorem qe_isxT {pD : Pos} {T : String} (hm : X.mg x = none) (hv : bootBuiltins x = some (.type T)) (hgD : Gl X x) (hg : Gl X "isinstance") (hi : X.mg "isinstance" = none) (ha : PE' X B e ta) (hdb : (x == ("__debug__" : Str)) = false := by decide) (hxn : x ≠ "__name__" := by decide)
    (he : starEach [e, .Name x pD] X.env = (false, eval e X.env) :: starEach [.Name x pD] X.env := by rfl) (he2 : starEach [.Name x pD] X.env = (false, eval (.Name x pD) X.env) :: starEach [] X.env := by rfl) (hpl : (backTo pos (starEach [.Name x pD] X.env)).any (·.1) = false := by rfl) :
    PE' X B (.Call (.Name "isinstance" p) [e, .Name x pD] [] pos) (uIsx X.K (.type T) ta) :=
  pe_imp (pe_callB (call_isx (dv := .ty T) (.type T) fun u r => r) hg hi boot_isinstance (pa_cons ha (pa_cons (pe_bltn hgD hm hv (v := .ty T) rfl hxn hdb) pa_nil he2) he) (by decide) (by decide) he hpl) fun _ _ _ h => low_isx (dv' := .oth (.ty T)) (fun _ => by simp [RP]) h
end
end U


set_option linter.all false
set_option maxRecDepth 100000
set_option maxHeartbeats 4000000
namespace U
open PySem L2
def pr (p : Str × Bool) : PV := .tup [.str p.1, .bl p.2]
def told (xs : List (Str × Bool)) : List PV := (xs.filter (·.2)).map fun p => PV.str p.1
theorem kinds_loop {D : Ends'} {xs : List (Str × Bool)} {a : PV} {r q : Addr} {H0 : PHp} {u v : Option PV} {ok : PHp → Prop} (hrq : r ≠ q) (hok : ∀ H : PHp, (∀ b, b ≠ r → H b = H0 b) → ok H) (h : H0 r = some (.lst [])) (hl : xs.length ≤ 100)
    (hD : ∀ H u v, H r = some (.lst (told xs)) → (∀ b, b ≠ r → H b = H0 b) → D.nx [some a, some (.ref r), some (.ref q), u, v] H) :
    uForL ok (vTup 2 (vCons (vName 3) (vCons (vName 4) vNil))) (uIfS (uTest (uVar 4)) (uDrop (uBM uAppend (uVar 1) (uCons (uVar 3) uNil))) uNext) D (xs.map pr) [some a, some (.ref r), some (.ref q), u, v] H0 := by
  suffices key : ∀ (ys : List (Str × Bool)) (acc : List PV) (H : PHp) u v, H r = some (.lst acc) → (∀ b, b ≠ r → H b = H0 b) → acc ++ told ys = told xs → acc.length + ys.length ≤ 100 →
      uForL ok (vTup 2 (vCons (vName 3) (vCons (vName 4) vNil))) (uIfS (uTest (uVar 4)) (uDrop (uBM uAppend (uVar 1) (uCons (uVar 3) uNil))) uNext) D (ys.map pr) [some a, some (.ref r), some (.ref q), u, v] H from
    key xs [] H0 u v h (fun _ _ => rfl) rfl (by simpa using hl)
  intro ys
  induction ys with
  | nil =>
    intro acc H u v hr hb e _
    refine ⟨hok H hb, hD H u v ?_ hb⟩
    rw [hr, ← e]; simp [told]
  | cons y ys ih =>
    intro acc H u v hr hb e hl
    obtain ⟨n, b⟩ := y
    refine ⟨hok H hb, ?_⟩
    simp only [pr, w_vt, w_vc, vName, w_vn, List.set_cons_zero, List.set_cons_succ, uIfS, uTest, uVar, List.getElem?_cons_zero, List.getElem?_cons_succ, w_V, List.length_cons, List.length_nil, true_and]
    simp only [List.length_cons] at hl
    cases b with
    | false =>
      simp only [w_B, cif_f, uNext]
      exact ih acc H _ _ hr hb (by rw [← e]; simp [told]) (by omega)
    | true =>
      simp only [w_B, cif_t, uDrop, w_bm, uVar, List.getElem?_cons_zero, List.getElem?_cons_succ, w_V, w_il, uCons, uNil, w_ap]
      refine ⟨⟨_, hr⟩, acc, hr, small1000 (by omega), ?_⟩
      refine ih (acc ++ [.str n]) _ _ _ put_same (fun b hb' => (put_ne hb').trans (hb b hb')) (by rw [← e]; simp [told]) (by simp; omega)
end U
namespace U
open PySem L2
def pairs : List (Str × TE') → List Bool → List PV
  | (n, _) :: r, b :: bs => .tup [.str n, .bl b] :: pairs r bs
  | _, _ => []
end U
namespace U
open PySem
theorem len0 {P : List Value → Prop} (h : P []) (us : List Value) (hl : us.length = 0) : P us := by
  cases us with
  | nil => exact h
  | cons a r => exact absurd hl (Nat.succ_ne_zero _)
theorem len1 {P : List Value → Prop} (h : ∀ a, P [a]) (us : List Value) (hl : us.length = 1) : P us := by
  cases us with
  | nil => exact absurd hl.symm (Nat.succ_ne_zero _)
  | cons a r => exact len0 (P := fun r => P (a :: r)) (h a) r (Nat.succ.inj hl)
theorem len2 {P : List Value → Prop} (h : ∀ a b, P [a, b]) (us : List Value) (hl : us.length = 2) : P us := by
  cases us with
  | nil => exact absurd hl.symm (Nat.succ_ne_zero _)
  | cons a r => exact len1 (P := fun r => P (a :: r)) (h a) r (Nat.succ.inj hl)
theorem len3 {P : List Value → Prop} (h : ∀ a b c, P [a, b, c]) (us : List Value) (hl : us.length = 3) : P us := by
  cases us with
  | nil => exact absurd hl.symm (Nat.succ_ne_zero _)
  | cons a r => exact len2 (P := fun r => P (a :: r)) (h a) r (Nat.succ.inj hl)
end U
namespace U
open PySem PySem.Spec PyProof.Rows L2
variable {B : Bs} {X : Cx}
end U


set_option linter.all false
set_option maxRecDepth 100000
set_option maxHeartbeats 4000000
namespace L2
open PySem PySem.Spec PyProof.Rows
def compCx (X : Cx) (N2 : List Str) (scope : Scope) (cl : List (Str × Addr)) (s0 : Shared) (H0 : Hp) (fp : List Addr) (ps : List (Addr × Obj)) : Cx :=
  { X with N := N2, s₀ := s0, H₀ := H0, env := compEnvC scope cl s0.heap.objs.size X.env, outer := X.stack, stack := X.stack, ex := fp, fn := fun x => (cl.lookup x).isNone, pn := ps, xe := fun _ _ => False }
def sig0 (nt : Nat) (js : List Nat) (σ : St) : St := List.replicate nt none ++ js.map fun j => (σ[j]?).join
theorem lookup_relabel_free {env : Env} : ∀ {names : List (Str × NameKind)} {x : Str}, names.lookup x = some .free →
    (names.map fun (n, k) => if (k == NameKind.free && env.scope.kind == .function && env.kindOf n == some .cell) then (n, NameKind.cell) else (n, k)).lookup x = some .cell ∨
    (names.map fun (n, k) => if (k == NameKind.free && env.scope.kind == .function && env.kindOf n == some .cell) then (n, NameKind.cell) else (n, k)).lookup x = some .free
  | [], _, h => by simp at h
  | (n, k) :: r, x, h => by
    have ih := @lookup_relabel_free env r x
    show List.lookup x ((if (k == NameKind.free && env.scope.kind == .function && env.kindOf n == some .cell) = true then (n, NameKind.cell) else (n, k)) :: _) = _ ∨ List.lookup x ((if (k == NameKind.free && env.scope.kind == .function && env.kindOf n == some .cell) = true then (n, NameKind.cell) else (n, k)) :: _) = _
    cases hx : x == n with
    | true =>
      simp only [List.lookup_cons, hx] at h
      cases h
      by_cases hc : (NameKind.free == NameKind.free && env.scope.kind == .function && env.kindOf n == some .cell) = true
      · rw [if_pos hc]; simp [List.lookup_cons, hx]
      · rw [if_neg hc]; simp [List.lookup_cons, hx]
    | false =>
      simp only [List.lookup_cons, hx] at h
      by_cases hc : (k == NameKind.free && env.scope.kind == .function && env.kindOf n == some .cell) = true
      · rw [if_pos hc]; simp only [List.lookup_cons, hx]; exact ih h
      · rw [if_neg hc]; simp only [List.lookup_cons, hx]; exact ih h
structure CompOk (X : Cx) (N2 : List Str) (nt : Nat) (js : List Nat) (scope : Scope) (cl : List (Str × Addr)) (sc : Scope) : Prop where
  clos : closureFor scope X.env = pure cl
  sub : ∀ x c, cl.lookup x = some c → X.env.cells.lookup x = some c
  xsc : X.env.scope = sc
  kind : scope.kind = .function
  nocell : ∀ y ∈ scope.names, y.2 ≠ .cell
  loc : ∀ y ∈ scope.names, y.2 = .local → scope.names.lookup y.1 = some .local
  has : ∀ y ∈ scope.names, y.2 = .free → y.1 ∈ cl.map (·.1)
  frs : ∀ x ∈ N2.drop nt, scope.names.lookup x = some .free ∧ sc.names.lookup x = some .cell
  len : N2.length = nt + js.length
  pl : ∀ (k j : Nat), js[k]? = some j → X.N[j]? = N2[nt + k]?
theorem mem_lookup {α : Type} : ∀ {l : List (Str × α)} {x : Str}, x ∈ l.map (·.1) → ∃ c, l.lookup x = some c
  | [], _, h => by simp at h
  | (n, k) :: r, x, h => by
    cases hx : x == n with
    | true => exact ⟨k, by simp [List.lookup_cons, hx]⟩
    | false =>
      have h' : x = n ∨ x ∈ r.map (·.1) := by simpa using h
      have hn : x ≠ n := by intro e; subst e; simp at hx
      obtain ⟨c, e⟩ := mem_lookup (h'.resolve_left hn)
      exact ⟨c, by simp [List.lookup_cons, hx, e]⟩
theorem lookup_mem {α : Type} : ∀ {l : List (Str × α)} {x : Str} {c : α}, l.lookup x = some c → (x, c) ∈ l
  | [], _, _, h => by simp at h
  | (n, k) :: r, x, c, h => by
    cases hx : x == n with
    | true =>
      simp only [List.lookup_cons, hx] at h
      have e : x = n := by simpa using hx
      cases h; subst e; exact List.mem_cons_self
    | false =>
      simp only [List.lookup_cons, hx] at h
      exact List.mem_cons_of_mem _ (lookup_mem h)
section
variable {X : Cx} {pins : List (Addr × Obj)} {σ : St} {H : Hp} {s : Shared} {N2 : List Str} {nt : Nat} {js : List Nat} {scope sc : Scope} {cl : List (Str × Addr)} {fp : List Addr}
theorem CompOk.kindOf (O : CompOk X N2 nt js scope cl sc) {x : Str} {C : Addr} (h : (compEnvC scope cl C X.env).kindOf x = some .cell ∨ (compEnvC scope cl C X.env).kindOf x = some .free) : ∃ c, cl.lookup x = some c := by
  have h' : (relabel scope X.env).names.lookup x = some .cell ∨ (relabel scope X.env).names.lookup x = some .free := h
  have key : ∀ (k : NameKind), (relabel scope X.env).names.lookup x = some k → (k = .cell ∨ k = .free) → ∃ y ∈ scope.names, y.1 = x ∧ (y.2 = .cell ∨ y.2 = .free) := fun k e hk => by
    have m := lookup_mem e
    obtain ⟨⟨n, k'⟩, hm, e'⟩ := List.mem_map.mp m
    by_cases hc : (k' == NameKind.free && X.env.scope.kind == .function && X.env.kindOf n == some .cell) = true
    · simp only [hc, if_true] at e'
      have e1 : n = x := congrArg Prod.fst e'
      refine ⟨(n, k'), hm, e1, .inr ?_⟩
      rw [Bool.and_eq_true, Bool.and_eq_true] at hc
      exact beq_iff_eq.mp hc.1.1
    · have e'' : (n, k') = (x, k) := by
        dsimp only at e'
        rw [if_neg hc] at e'
        exact e'
      cases e''
      exact ⟨(x, k), hm, rfl, hk⟩
  obtain ⟨y, hy, rfl, hk⟩ := h'.elim (fun e => key _ e (.inl rfl)) fun e => key _ e (.inr rfl)
  rcases hk with hk | hk
  · exact absurd hk (O.nocell y hy)
  · exact mem_lookup (O.has y hy hk)
theorem compCx_ok (O : CompOk X N2 nt js scope cl sc) (I : Inv X pins σ H s) (hf : ∀ b ∈ fp, FpOk X pins H b) (hlt : ∀ b ∈ fp, b < s.heap.objs.size) : (compCx X N2 scope cl s H fp (X.pn ++ pins)).Ok where
  mod := I.ok.mod
  kind := O.kind
  glob := I.ok.glob
  blt := I.ok.blt
  above := Nat.le_refl _
  inj := fun x y c h1 h2 => I.ok.inj x y c (O.sub x c h1) (O.sub y c h2)
  has := fun x h => O.kindOf h
  cab := fun x c h1 h2 => by
    have h1' : (cl.lookup x).isNone = true := h1
    have h2' : cl.lookup x = some c := h2
    rw [h2'] at h1'; cases h1'
  hd := I.ok.hd
  frames := I.ok.frames
  stk := .inl rfl
  exf := fun b hb => ⟨Nat.ne_of_lt (hlt b hb), fun x c e => (hf b hb).2.2.2.2.1 x c (O.sub x c e)⟩
  bs := I.bs
  bsz := Nat.le_trans I.ok.bsz I.sz
  noex := fun b o e hb => by
    obtain ⟨_, _, _, h3, _⟩ := hf b hb
    rcases h3 with h3 | h3
    · exact I.ok.noex b o e h3
    · exact absurd (Nat.lt_of_lt_of_le (Heap.lt_size (I.ok.bs b o e).1) h3) (Nat.lt_irrefl _)
  exfs := fun b hb hs => by
    obtain ⟨_, h1, h2, _⟩ := hf b hb
    rcases List.mem_cons.mp (I.stkSub b hs) with e | e
    · exact h1 e
    · exact h2 e
  funs := I.stack
  frf := I.stkFree
theorem comp_start (O : CompOk X N2 nt js scope cl sc) (I : Inv X pins σ H s) (hf : ∀ b ∈ fp, FpOk X pins H b) (hlt : ∀ b ∈ fp, b < s.heap.objs.size) {h4 : Heap} {t4 : Nat} (hn : h4.Ns s.heap.objs.size fun _ => none)
    (hk : ∀ b o, s.heap.get? b = some o → h4.get? b = some o) : Inv (compCx X N2 scope cl s H fp (X.pn ++ pins)) [] (sig0 nt js σ) H { s with heap := h4, toks := t4 } := by
  refine ⟨compCx_ok O I hf hlt, rfl, I.bare, Un.kept hk, ⟨_, hn, fun i x v e1 e2 e3 => ?_⟩, fun x c e => ?_, I.hok.fresh (Nat.le_refl _), fun x c e => I.freeC x c (O.sub x c e), fun p hp => ?_, I.hok.kept hk, ?_⟩
  · unfold sig0 at e2
    by_cases hi : i < nt
    · rw [List.getElem?_append_left (by simpa using hi), List.getElem?_replicate] at e2
      split at e2 <;> cases e2
    · obtain ⟨k, rfl⟩ : ∃ k, i = nt + k := ⟨i - nt, by omega⟩
      rw [List.getElem?_append_right (by simp), List.length_replicate, Nat.add_sub_cancel_left, List.getElem?_map] at e2
      cases ej : js[k]? with
      | none => rw [ej] at e2; cases e2
      | some j =>
        rw [ej] at e2
        have e2' : (σ[j]?).join = some v := Option.some.inj e2
        have eσ : σ[j]? = some (some v) := by
          cases q : σ[j]? with
          | none => rw [q] at e2'; cases e2'
          | some o => rw [q] at e2'; exact congrArg some e2'
        have eN : X.N[j]? = some x := (O.pl k j ej).trans e1
        have hx : x ∈ N2.drop nt := by
          have : (N2.drop nt)[k]? = some x := by rw [List.getElem?_drop]; exact e1
          exact List.mem_of_getElem? this
        obtain ⟨f1, f2⟩ := O.frs x hx
        have vis : Vis X.env.scope x := .inr (.inl (by rw [O.xsc]; exact f2))
        obtain ⟨m, hnX, hl⟩ := I.loc
        obtain ⟨u, r, l⟩ := hl j x v eN eσ vis
        refine ⟨u, r, .inr ⟨?_, ?_⟩⟩
        · exact lookup_relabel_free f1
        · rcases l with ⟨k1, _⟩ | ⟨_, c, ec, ic⟩
          · have k2 : sc.names.lookup x = some .local := by rw [← O.xsc]; exact k1
            rw [f2] at k2; cases k2
          · obtain ⟨c', ec'⟩ := mem_lookup (O.has (x, .free) (lookup_mem f1) rfl)
            have := O.sub x c' ec'
            rw [ec] at this; cases this
            obtain ⟨o, ho, hd⟩ := ic
            exact ⟨c, ec', o, hk _ _ ho, hd⟩
  · obtain ⟨v, o, ho, hd⟩ := I.cell x c (O.sub x c e)
    exact ⟨v, o, hk _ _ ho, hd⟩
  · have hp' : p ∈ X.pn ++ pins := by
      have hp2 : p ∈ (X.pn ++ pins) ++ [] := hp
      rwa [List.append_nil] at hp2
    obtain ⟨e, n, ne, nf, d⟩ := I.pin p hp'
    refine ⟨hk _ _ e, n, Nat.ne_of_lt (Heap.lt_size e), fun hb => ?_, d⟩
    rcases List.mem_cons.mp (I.stkSub p.1 hb) with z | z
    · exact ne z
    · exact nf z
  · unfold sig0
    show _ = N2.length
    rw [List.length_append, List.length_replicate, List.length_map, O.len]
theorem comp_end {σ' : St} {H' : Hp} {s' : Shared} {pl : List (Addr × Obj)} (I : Inv X pins σ H s) (hf : ∀ b ∈ fp, FpOk X pins H b) (J : Inv (compCx X N2 scope cl s H fp (X.pn ++ pins)) pl σ' H' s') : Inv X pins σ H' s' :=
  I.call' (ch := fp) J.os J.base J.hok J.bare fun b hb => by
    obtain ⟨h0, h1, h2, h3, h4, h5⟩ := hf b hb
    exact ⟨h3, h1, h4, h5⟩
end
end L2
namespace L2
open PySem PySem.Spec PyProof.Rows
def PIf (Y : Cx) (ifs : List Expr) (t : TT) : Prop :=
  ∀ (pins : List (Addr × Obj)) (s : Shared) (σ : St) (H : Hp) (Q : Bool → Hp → Prop), Inv Y pins σ H s → t σ H Q →
    wpAny (model Y.prog Y.w) Y.A (forIn ifs true fun c r => if r = true then do let ok ← isTrue c Y.env (eval c Y.env); pure (ForInStep.yield ok) else pure (ForInStep.yield r)) (TP Y pins σ Q) Y.xe s
def tYes : TT := fun _ H Q => Q true H
theorem pif_nil {Y : Cx} : PIf Y [] tYes := fun _ _ _ H _ I h => wpAny_tests_nil ⟨H, I, h⟩
def turnC (acc : Addr) (J : It) (g : TG) (tt : TT) (te : TE) (W : Nat → Nat → L2.St → Hp → Prop) (i m : Nat) (σ0 : L2.St) (H : Hp) : Prop :=
  J.go i H ∧ ∀ x H', J.yld i H x H' → g x σ0 H' fun σ3 H2 => tt σ3 H2 fun b H3 =>
    if b = true then te σ3 H3 fun y H4 => ∃ ys, H4 acc = some (.lst ys) ∧ ys.length < sizeLine ∧ ∃ m', m' < m ∧ W (i + 1) m' σ3 (upd H4 acc (.lst (ys ++ [y])))
    else ∃ m', m' < m ∧ W (i + 1) m' σ3 H3
def tComp (nt : Nat) (js : List Nat) (wi : TI) (g : TG) (tt : TT) (te : TE) : TE := fun σ H Q => wi σ H fun J H1 => ∀ acc, H1 acc = none →
  ∃ W : Nat → Nat → L2.St → Hp → Prop, (∃ m, W 0 m (sig0 nt js σ) (upd H1 acc (.lst []))) ∧ ∀ i m σ0 H, W i m σ0 H → (J.stop i H ∧ Q (.ref acc) H) ∨ turnC acc J g tt te W i m σ0 H
structure CompB (Y : Cx) (tg : Expr) (ifs : List Expr) (elt : Expr) (g : TG) (tt : TT) (te : TE) : Prop where
  tgt : PG Y tg g
  tst : PIf Y ifs tt
  elt : PE Y elt te
theorem compLoop_own {prog : Program} {w : World} {A : Around} {R : Result → Shared → Prop} {s : Shared} {elt target iter : Expr} {ifs : List Expr} {scope : Scope} {pos : Pos} {it acc : Value} {env : Env} (I : Nat → Shared → Prop)
    (turn : ∀ n s, I n s → wpAny (model prog w) A (pyNext it) (fun r s₁ => match r with
      | none => R (.ok .next) s₁
      | some v => wpAny (model prog w) A (letOwnedTupleGo target it v) (fun _ s₀ => wpAny (model prog w) A (assign target env v) (fun _ s₂ =>
          wpAny (model prog w) A (forIn ifs true fun c r => if r = true then do let ok ← isTrue c env (eval c env); pure (ForInStep.yield ok) else pure (ForInStep.yield r)) (fun ok s₃ =>
            if ok = true then wpAny (model prog w) A (eval elt env) (fun x s₄ =>
              wpAny (model prog w) A (call (.builtin "list.append") [acc, x]) (fun _ s₅ => ∃ m, m < n ∧ I m s₅) (fun _ _ => False) s₄) (fun _ _ => False) s₃
            else ∃ m, m < n ∧ I m s₃) (fun _ _ => False) s₂) (fun _ _ => False) s₀) (fun _ _ => False) s₁) (fun _ _ => False) s)
    (n : Nat) (h : I n s) :
    codeAny (model prog w) A (.compLoop (.ListComp elt [⟨target, iter, ifs, 0⟩] scope pos) 0 it acc env) R s := by
  refine codeAny_loop rfl I (fun n s hI => ?_) n h
  show wpAny _ A ((compTurn (.ListComp elt [⟨target, iter, ifs, 0⟩] scope pos) 0 it acc env).onRaise (fun x => do noteFrame x env; theTreesLotGoes x)) _ _ s
  refine wpAny_noted ?_
  rw [compTurn_list]
  refine wpAny_bind (wpAny_standAt (wpAny_bind (wpAny_mono (turn n s hI) (fun r s₁ h₁ => ?_) fun _ _ h' => h'.elim)))
  cases r with
  | none => exact wpAny_pure h₁
  | some v =>
    refine wpAny_bind (wpAny_mono h₁ (fun _ s₀ h₀ => ?_) fun _ _ h' => h'.elim)
    refine wpAny_bind (wpAny_mono h₀ (fun _ s₂ h₂ => wpAny_bind (wpAny_mono h₂ (fun ok s₃ h₃ => ?_) fun _ _ h' => h'.elim)) fun _ _ h' => h'.elim)
    cases ok with
    | false => exact wpAny_pure ⟨rfl, h₃⟩
    | true =>
      exact wpAny_bind (wpAny_bind (wpAny_mono h₃ (fun x s₄ h₄ => wpAny_bind (wpAny_mono h₄ (fun _ s₅ h₅ => wpAny_pure (wpAny_pure ⟨rfl, h₅⟩)) fun _ _ h' => h'.elim)) fun _ _ h' => h'.elim))
section
variable {X : Cx} {pins : List (Addr × Obj)} {σ : St} {H : Hp} {s : Shared} {N2 : List Str} {nt : Nat} {js : List Nat} {scope sc : Scope} {cl : List (Str × Addr)} {fp : List Addr} {elt iter tg : Expr} {ifs : List Expr} {pos : Pos}
  {wi : TI} {g : TG} {tt : TT} {te : TE}
theorem comp_run (O : CompOk X N2 nt js scope cl sc) (hc : X.calm = true) (B : ∀ (s0 : Shared) (H0 : Hp) (fp : List Addr) (ps : List (Addr × Obj)), CompB (compCx X N2 scope cl s0 H0 fp ps) tg ifs elt g tt te)
    {it : Addr} {tn : Nat → Heap → Prop} {J : It} {E : Value → Shared → Prop} {Q : VK} {RR : Value → Addr → Result → Shared → Prop}
    (I : Inv X pins σ H s) (T : Turn X.prog X.w X.K tg J fp it tn) (st : tn 0 s.heap) (hf : ∀ b ∈ fp, FpOk X pins H b)
    (h : ∀ acc, H acc = none → ∃ W : Nat → Nat → L2.St → Hp → Prop, (∃ m, W 0 m (sig0 nt js σ) (upd H acc (.lst []))) ∧ ∀ i m σ0 H, W i m σ0 H → (J.stop i H ∧ Q (.ref acc) H) ∨ turnC acc J g tt te W i m σ0 H)
    (hRR : ∀ (acc C : Addr) (s' : Shared) (H' : Hp) (m : Str → Option Value), s'.heap.Ns C m → Inv X pins σ H' s' → H' C = none → C ≠ X.env.locals → X.s₀.heap.objs.size ≤ C → (∀ x c, X.env.cells.lookup x = some c → c ≠ C) → (∀ p ∈ X.pn ++ pins, p.1 ≠ C) → Q (.ref acc) H' → RR (.ref acc) C (.ok .next) s') :
    wpAny (model X.prog X.w) X.A (newList []) (fun acc s₃ => wpAny (model X.prog X.w) X.A (newFunctionEnv scope X.env.globals cl [] X.env.qual none .none (some X.env)) (fun cenv s₄ =>
      codeAny (model X.prog X.w) X.A (.compStart (.ListComp elt [⟨tg, iter, ifs, 0⟩] scope pos) 0 (.ref it) acc { cenv with scope := relabel scope X.env }) (RR acc cenv.locals) s₄) E s₃) E s := by
  have hlt : ∀ b ∈ fp, b < s.heap.objs.size := fun b hb => by
    obtain ⟨o, e, _⟩ := T.obj _ _ st b hb
    exact Heap.lt_size e
  have hnA : H s.heap.objs.size = none := I.hok.fresh (Nat.le_refl _)
  obtain ⟨W, ⟨m0, w0⟩, turn⟩ := h s.heap.objs.size hnA
  refine wpAny_newObj_type (wpAny_newFunctionEnv O.nocell (by intro y hy; simp at hy) (fun h₁ hns₁ hsb₁ => ?_) O.kind)
  dsimp only at hns₁ hsb₁ ⊢
  have I3 : Inv X pins σ (upd H s.heap.objs.size (.lst [])) { s with heap := s.heap.push { cls := .type "list", dict := none, data := .seq ([] : List Value).toArray } } :=
    I.laid (t' := s.toks) (fun b u e => Heap.get?_push_of_some _ e) (Nat.le_refl _) ⟨by show 0 ≤ sizeLine; exact Nat.zero_le _, [], 0, .nil, Heap.get?_push_size _ rfl⟩
  generalize hs3 : ({ s with heap := s.heap.push { cls := .type "list", dict := none, data := .seq ([] : List Value).toArray } } : Shared) = s3 at I3
  have e3 : s3.heap = s.heap.push { cls := .type "list", dict := none, data := .seq ([] : List Value).toArray } := by rw [← hs3]
  rw [← e3] at hns₁ hsb₁ ⊢
  have et : s3.toks = s.toks := by rw [← hs3]
  have hf3 : ∀ b ∈ fp, FpOk X pins (upd H s.heap.objs.size (.lst [])) b := fun b hb => by
    obtain ⟨f0, f⟩ := hf b hb
    exact ⟨by rw [upd_ne (Nat.ne_of_lt (hlt b hb))]; exact f0, f⟩
  have hlt3 : ∀ b ∈ fp, b < s3.heap.objs.size := fun b hb => by rw [e3, Heap.size_push]; exact Nat.lt_succ_of_lt (hlt b hb)
  have hk4 : ∀ b o, s3.heap.get? b = some o → h₁.get? b = some o := fun b o e => hsb₁.extBut b o (Nat.ne_of_lt (Heap.lt_size e)) (Heap.get?_push_of_some _ e)
  have hns' : h₁.Ns s3.heap.objs.size fun _ => none := hns₁
  have I4 := comp_start (t4 := s3.toks + ([] : List (Str × Value)).length) O I3 hf3 hlt3 hns' hk4
  have st4 : tn 0 h₁ := T.keep _ _ _ st fun b hb o e => hk4 b o (by rw [e3]; exact Heap.get?_push_of_some _ e)
  have B4 := B s3 (upd H s.heap.objs.size (.lst [])) fp (X.pn ++ pins)
  generalize hY : compCx X N2 scope cl s3 (upd H s.heap.objs.size (.lst [])) fp (X.pn ++ pins) = Y at I4 B4
  have yP : Y.prog = X.prog := by rw [← hY]; rfl
  have yw : Y.w = X.w := by rw [← hY]; rfl
  have yK : Y.K = X.K := by rw [← hY]; rfl
  have yA : Y.A = X.A := by rw [← hY]; rfl
  have yc : Y.calm = true := by rw [← hY]; exact hc
  have yx : Y.xe = fun _ _ => False := by rw [← hY]; rfl
  have ye : Y.env = compEnvC scope cl s3.heap.objs.size X.env := by rw [← hY]; rfl
  have fpY : ∀ {H' : Hp}, (∀ b ∈ fp, H' b = none) → ∀ b ∈ fp, FpOk Y [] H' b := fun hn b hb => by
    obtain ⟨f0, f1, f2, f3, f4, f5⟩ := hf3 b hb
    rw [← hY]
    refine ⟨hn b hb, Nat.ne_of_lt (hlt3 b hb), fun hs => ?_, .inl hb, fun x c e => f4 x c (O.sub x c e), fun p hp => ?_⟩
    · rcases List.mem_cons.mp (I3.stkSub b hs) with e | e
      · exact f1 e
      · exact f2 e
    · have hp2 : p ∈ (X.pn ++ pins) ++ [] := hp
      rw [List.append_nil] at hp2
      exact f5 p hp2
  have fin : ∀ {σ' : St} {H' : Hp} {s' : Shared} {pl : List (Addr × Obj)}, Inv Y pl σ' H' s' → Q (.ref s.heap.objs.size) H' → RR (.ref s.heap.objs.size) s3.heap.objs.size (.ok .next) s' := fun {σ' H' s' pl} I' q => by
    have J' : Inv X pins σ H' s' := comp_end I3 hf3 (hY ▸ I')
    obtain ⟨m, hn, _⟩ := I'.loc
    have hfr := I'.free
    rw [ye] at hn hfr
    refine hRR _ _ s' H' m hn J' hfr (Nat.ne_of_gt I3.lt) I3.sz (fun x c e z => ?_) (fun p hp z => ?_) q
    · obtain ⟨v, q⟩ := I3.cell x c e
      exact absurd (Nat.lt_of_lt_of_le q.lt (by rw [z]; exact Nat.le_refl _)) (Nat.lt_irrefl _)
    · exact absurd (Nat.lt_of_lt_of_le (Heap.lt_size (I3.pin p hp).1) (by rw [z]; exact Nat.le_refl _)) (Nat.lt_irrefl _)
  have loop : ∀ s4 : Shared, s4 = { s3 with heap := h₁, toks := s3.toks + ([] : List (Str × Value)).length } →
      codeAny (model X.prog X.w) X.A (.compLoop (.ListComp elt [⟨tg, iter, ifs, 0⟩] scope pos) 0 (.ref it) (.ref s.heap.objs.size) (compEnvC scope cl s3.heap.objs.size X.env)) (RR (.ref s.heap.objs.size) s3.heap.objs.size) s4 := by
    rintro s4 rfl
    refine compLoop_own (fun n s' => ∃ i σ0 H', Inv Y [] σ0 H' s' ∧ tn i s'.heap ∧ (∀ b ∈ fp, H' b = none) ∧ W i n σ0 H') ?_ m0
      ⟨0, _, _, I4, st4, fun b hb => (hf3 b hb).1, w0⟩
    rintro n s5 ⟨i, σ5, H5, I5, st5, fr5, w5⟩
    rcases turn i n σ5 H5 w5 with ⟨stop, q⟩ | ⟨go, step⟩
    · have r := T.done Y yP yw yK yc i [] s5 _ H5 (fun _ _ => False) I5 (fpY fr5) st5 stop
      rw [yA] at r
      refine thn r fun r s6 ⟨hr, I6⟩ => ?_
      subst hr
      exact fin I6 q
    · have r := T.item Y yP yw yK yc i [] s5 _ H5 (fun _ _ => False) I5 (fpY fr5) st5 go
      rw [yA] at r
      refine thn r fun r s6 ⟨u, hr, h6⟩ => ?_
      subst hr
      refine thn h6 fun _ s7 ⟨x, H7, I7, r7, y7, st7, fr7⟩ => ?_
      have I7' := I7.pinned (fpY fr7) (T.obj _ _ st7)
      have r := B4.tgt _ s7 _ H7 x u _ I7' r7 (step x H7 y7)
      rw [yP, yw, yA, yx, ye] at r
      refine thn r fun _ s8 ⟨σ8, H8, I8, q8⟩ => ?_
      have r := B4.tst _ s8 σ8 H8 _ I8 q8
      rw [yP, yw, yA, yx, ye] at r
      refine thn r fun ok s9 ⟨H9, I9, q9⟩ => ?_
      have back : ∀ {s' : Shared} {H' : Hp}, Inv Y ([] ++ pinsAt fp s7.heap) σ8 H' s' → (Inv Y [] σ8 H' s' ∧ tn (i + 1) s'.heap ∧ ∀ b ∈ fp, H' b = none) := fun {s' H'} I' => by
        refine ⟨I'.unpinned, T.keep _ _ _ st7 fun b hb o e => (I'.pin (b, o) (List.mem_append_right _ (List.mem_append_right _ (mem_pinsAt hb e)))).1, fun b hb => ?_⟩
        obtain ⟨o, e, d⟩ := T.obj _ _ st7 b hb
        exact (I'.pin (b, o) (List.mem_append_right _ (List.mem_append_right _ (mem_pinsAt hb e)))).2.1
      cases ok with
      | false =>
        have q9' : ∃ m', m' < n ∧ W (i + 1) m' σ8 H9 := q9
        obtain ⟨m', hm, w9⟩ := q9'
        obtain ⟨b1, b2, b3⟩ := back I9
        show ∃ m, m < n ∧ _
        exact ⟨m', hm, i + 1, σ8, H9, b1, b2, b3, w9⟩
      | true =>
        have q9' : te σ8 H9 fun y H4 => ∃ ys, H4 s.heap.objs.size = some (.lst ys) ∧ ys.length < sizeLine ∧ ∃ m', m' < n ∧ W (i + 1) m' σ8 (upd H4 s.heap.objs.size (.lst (ys ++ [y]))) := q9
        have r := B4.elt _ s9 σ8 H9 _ I9 q9'
        rw [yP, yw, yA, yx, ye] at r
        show wpAny _ _ (eval elt _) _ _ s9
        refine thn r fun y s10 ⟨yv, H10, I10, r10, q10⟩ => ?_
        obtain ⟨ys, a1, a2, m', hm, w10⟩ := q10
        have r := mt_append (X := Y) _ s10 σ8 H10 (.ref s.heap.objs.size) [yv] (.ref s.heap.objs.size) [y] (fun _ H' => H' = upd H10 s.heap.objs.size (.lst (ys ++ [yv]))) I10 rfl (.cons r10 .nil) ⟨_, ys, yv, rfl, rfl, a1, a2, rfl⟩
        rw [yP, yw, yA, yx] at r
        refine thn r fun _ s11 ⟨_, H11, I11, _, e11⟩ => ?_
        subst e11
        obtain ⟨b1, b2, b3⟩ := back I11
        exact ⟨m', hm, i + 1, σ8, _, b1, b2, b3, w10⟩
  have st4' : tn 0 ({ s3 with heap := h₁, toks := s3.toks + ([] : List (Str × Value)).length } : Shared).heap := st4
  have hs4 : ({ s with heap := h₁, toks := s.toks + ([] : List (Str × Value)).length } : Shared) = { s3 with heap := h₁, toks := s3.toks + ([] : List (Str × Value)).length } := by rw [← hs3]
  exact codeAny_compStart_list (loop _ hs4) (T.self _ 0 _ _ _ st4 (loop _ hs4))
theorem ps_setCO {i : Nat} {y : Str} {py spos : Pos} (hN : X.N.Nodup) (hy : X.N[i]? = some y) (hl : Loc X.env.scope y) (O : CompOk X N2 nt js scope cl sc) (hc : X.calm = true) (hi : PI X tg iter wi)
    (B : ∀ (s0 : Shared) (H0 : Hp) (fp : List Addr) (ps : List (Addr × Obj)), CompB (compCx X N2 scope cl s0 H0 fp ps) tg ifs elt g tt te)
    (hsw : swapsWith (.ListComp elt [⟨tg, iter, ifs, 0⟩] scope pos) (some (.Name y py)) spos.line X.env = pure true := by rfl)
    (hs : ∀ x, foldedSetIterable iter X.env x = pure x := by intro _; rfl) (hfn : X.fn y = true ∨ X.env.scope.names.lookup y = some .local := by first | exact .inl rfl | exact .inr rfl | assumption) :
    PS X (.Assign [.Name y py] (.ListComp elt [⟨tg, iter, ifs, 0⟩] scope pos) spos) (tAsg (tComp nt js wi g tt te) (gName i)) := by
  intro pins s σ H D I h
  rw [exec_Assign_Name_used _ _ _ _ hsw]
  refine wpAny_bind (wpAny_standAt (wpAny_bind ?_))
  show wpAny _ X.A (do let _ ← comprehension (.ListComp elt [⟨tg, iter, ifs, 0⟩] scope pos) scope X.env _ (newList []) false (eval iter X.env) (some (assign (.Name y py) X.env))) _ _ s
  refine wpAny_bind (wpAny_mono (wpAny_comprehension_free (use := some (assign (.Name y py) X.env)) (Q := fun _ s' => SP X pins D .next s') rfl hs O.clos O.kind O.loc
    (thn (hi pins s σ H _ I h) fun xv s1 h1 => thn h1 fun itv s2 h2 => ?_)) (fun _ s' hq => wpAny_pure (wpAny_pure hq)) fun _ _ e => e)
  obtain ⟨it, fp, tn, J, H2, e, I2, T, st2, f2, q⟩ := h2
  subst e
  refine comp_run (Q := fun v H1 => gName i v σ H1 D.nx) (RR := fun acc C => compPost (model X.prog X.w) X.A X.xe (some (assign (.Name y py) X.env)) (fun _ s' => SP X pins D .next s') acc C) O hc B I2 T st2 f2 q ?_
  intro acc C s' H' m hn J' c1 c2 c3 c4 c5 q'
  show wpAny _ X.A (assign (.Name y py) X.env (.ref acc)) _ _ _
  refine wpAny_assign_Name (store_ok2 (v := .ref acc) J' hN hy hl rfl (fun s2 I2' ⟨a, sb, ha⟩ => ?_) hfn)
  have hCa : C ≠ a := by
    rcases ha with ha | ha
    · rw [ha]; exact c2
    · exact fun z => c4 y a ha z.symm
  refine ⟨m, hn.sameBut sb hCa, fun h' hsb => ⟨_, H', ?_, q'⟩⟩
  exact I2'.turned (t' := s2.toks) (fun b o hb e => hsb.extBut b o hb e) c1 c2 (.inr c3) c4 c5
end
end L2


set_option linter.all false
set_option maxRecDepth 100000
set_option maxHeartbeats 4000000
namespace U
open PySem PySem.Spec PyProof.Rows L2
variable {B : Bs} {X : Cx} {pos : Pos}
def sigU (nt : Nat) (js : List Nat) (σ : St') : St' := List.replicate nt none ++ js.map fun j => (σ[j]?).join
theorem SR.sig {K : PySem.W.Frag} {σ' : St'} {H' : PHp} {σ : L2.St} {H : Hp} (s : SR K B σ' H' σ H) (nt : Nat) (js : List Nat) : SR K B (sigU nt js σ') H' (sig0 nt js σ) H := by
  refine ⟨by simp [sigU, sig0], fun i v' e => ?_, s.hp, s.ev⟩
  unfold sigU at e
  unfold sig0
  by_cases hi : i < nt
  · rw [List.getElem?_append_left (by simpa using hi), List.getElem?_replicate] at e
    split at e <;> cases e
  · rw [List.getElem?_append_right (by simp; omega), List.length_replicate, List.getElem?_map] at e ⊢
    cases ej : js[i - nt]? with
    | none => rw [ej] at e; cases e
    | some j =>
      rw [ej] at e
      have e2 : (σ'[j]?).join = some v' := Option.some.inj e
      cases q : σ'[j]? with
      | none => rw [q] at e2; cases e2
      | some o =>
        rw [q] at e2
        have e3 : σ'[j]? = some (some v') := by rw [q]; exact congrArg some e2
        obtain ⟨v, a, b⟩ := s.loc j v' e3
        exact ⟨v, by show some ((σ[j]?).join) = _; rw [a]; rfl, b⟩
def uCompL (ok : PHp → Prop) (g : TG') (tt : TT') (te : TE') (acc : Addr) (Q : VK') : List PV → St' → PHp → Prop
  | [], σ, H => ok H ∧ Q (.ref acc) H
  | x :: r, σ, H => ok H ∧ g x σ H fun σ3 H2 => tt σ3 H2 fun b H3 => cif b (te σ3 H3 fun y H4 => ∃ l, H4 acc = some (.lst l) ∧ l.length < sizeLine ∧ uCompL ok g tt te acc Q r σ3 (put H4 acc (.lst (l ++ [y])))) (uCompL ok g tt te acc Q r σ3 H3)
def uComp (nt : Nat) (js : List Nat) (wi : TI') (g : TG') (tt : TT') (te : TE') : TE' := fun σ H Q => wi σ H fun J H1 => ∀ acc, H1 acc = none → uCompL J.ok g tt te acc Q J.items (sigU nt js σ) (put H1 acc (.lst []))
def PIf' (Y : Cx) (B : Bs) (ifs : List Expr) (t : TT') : Prop := PIf Y ifs (lowT Y.K B t)
def uYes : TT' := fun _ H Q => Q true H
theorem qif_nil {Y : Cx} : PIf' Y B [] uYes := fun pins s σ H Q I ⟨σ', H', Q', sr, h, k⟩ => pif_nil pins s σ H Q I (k true H' H h sr (Ev.refl _ _))
theorem low_comp {K : PySem.W.Frag} {nt : Nat} {js : List Nat} {wi : TI'} {g : TG'} {tt : TT'} {te : TE'} {σ : L2.St} {H : Hp} {Q : VK} (h : low K B (uComp nt js wi g tt te) σ H Q) :
    tComp nt js (lowI K B wi) (lowG K B g) (lowT K B tt) (low K B te) σ H Q := by
  obtain ⟨σ', H', Q', s, h, k⟩ := h
  refine ⟨σ', H', _, s, h, fun J' H1' J H1 h1 wk s1 e1 acc ha => ?_⟩
  have h1 := h1 acc (s1.hp.free ha)
  have sn : SR K B σ' (put H1' acc (.lst [])) σ (upd H1 acc (.lst [])) := s1.new ha ⟨[], upd_same, RPs.nil _⟩
  have en : Ev H1' H1 (put H1' acc (.lst [])) (upd H1 acc (.lst [])) := Ev.new ha
  refine ⟨fun i m σ2 H2 => i ≤ J'.items.length ∧ m = J'.items.length - i ∧ ∃ σ2' H2', SR K B σ2' H2' σ2 H2 ∧ SR K B σ' H2' σ H2 ∧ Ev H1' H1 H2' H2 ∧ uCompL J'.ok g tt te acc Q' (J'.items.drop i) σ2' H2',
    ⟨J'.items.length, Nat.zero_le _, by simp, _, _, sn.sig nt js, sn, en, h1⟩, ?_⟩
  rintro i m σ2 H2 ⟨hi, rfl, σ2', H2', s2, so, e2, h2⟩
  have k2 := e2.kp s1.hp
  by_cases hlt : i < J'.items.length
  · obtain ⟨x', hx⟩ : ∃ x', J'.items[i]? = some x' := ⟨_, List.getElem?_eq_getElem hlt⟩
    have hd : J'.items.drop i = x' :: J'.items.drop (i + 1) := by
      rw [List.drop_eq_getElem_cons hlt]
      rw [List.getElem?_eq_getElem hlt] at hx
      cases hx; rfl
    rw [hd] at h2
    obtain ⟨ok2, h2⟩ := (show J'.ok H2' ∧ _ from h2)
    refine .inr ⟨wk.go H2' H2 i k2 s2.hp ok2 hlt, fun x H3 y => ?_⟩
    obtain ⟨rfl, rx⟩ := wk.yld H2' H2 i x H3 k2 s2.hp ok2 y
    refine ⟨x', σ2', H2', _, rx x' hx, s2, h2, fun σ3' H3' σ3 H3 h3 s3 e3 => ⟨σ3', H3', _, s3, h3, fun b H4' H4 h4 s4 e4 => ?_⟩⟩
    cases b with
    | false =>
      have e24 := e3.trans e4
      exact iteF ⟨J'.items.length - (i + 1), by omega, hlt, rfl, σ3', H4', s4, so.kp e24 s4.hp, e2.trans e24, h4⟩
    | true =>
      refine iteT ⟨σ3', H4', _, s4, h4, fun y' H5' y H5 h5 ry5 s5 e5 => ?_⟩
      obtain ⟨l, a1, a2, h5⟩ := h5
      have e25 := (e3.trans e4).trans e5
      obtain ⟨us, q1, q2⟩ := s5.hp _ _ a1
      have wr := wrL s5.hp a1 (RPs.append _ q2 (RPs.cons _ ry5 (RPs.nil _)))
      refine ⟨us, q1, by rw [RPs.length _ q2]; exact a2, J'.items.length - (i + 1), by omega, hlt, rfl, σ3', _, s5.wr a1 wr, (so.kp e25 s5.hp).wr a1 wr, (e2.trans e25).trans (Ev.wr a1), h5⟩
  · have hi' : i = J'.items.length := by omega
    subst hi'
    rw [List.drop_length] at h2
    obtain ⟨ok2, h2⟩ := (show J'.ok H2' ∧ _ from h2)
    exact .inl ⟨wk.stop H2' H2 _ k2 s2.hp ok2 (Nat.le_refl _), k _ _ _ _ h2 (by simp [RP]) so (e1.trans e2)⟩

section
variable {N2 : List Str} {nt : Nat} {js : List Nat} {scope sc : Scope} {cl : List (Str × Addr)} {elt iter tg : Expr} {ifs : List Expr} {wi : TI'} {g : TG'} {tt : TT'} {te : TE'}
structure CompB' (Y : Cx) (B : Bs) (tg : Expr) (ifs : List Expr) (elt : Expr) (g : TG') (tt : TT') (te : TE') : Prop where
  tgt : PG' Y B tg g
  tst : PIf' Y B ifs tt
  elt : PE' Y B elt te
theorem qs_setC {i : Nat} {y : Str} {py spos : Pos} (hN : X.N.Nodup) (hy : X.N[i]? = some y) (hl : Loc X.env.scope y) (O : CompOk X N2 nt js scope cl sc) (hc : X.calm = true) (hi : PI' X B tg iter wi)
    (b : ∀ (s0 : Shared) (H0 : Hp) (fp : List Addr) (ps : List (Addr × Obj)), CompB' (compCx X N2 scope cl s0 H0 fp ps) B tg ifs elt g tt te)
    (hsw : swapsWith (.ListComp elt [⟨tg, iter, ifs, 0⟩] scope pos) (some (.Name y py)) spos.line X.env = pure true := by rfl)
    (hs : ∀ x, foldedSetIterable iter X.env x = pure x := by intro _; rfl) (hfn : X.fn y = true ∨ X.env.scope.names.lookup y = some .local := by first | exact .inl rfl | exact .inr rfl | assumption) :
    PS' X B (.Assign [.Name y py] (.ListComp elt [⟨tg, iter, ifs, 0⟩] scope pos) spos) (uAsg (uComp nt js wi g tt te) (vName i)) :=
  ps_imp (ps_setCO (g := lowG X.K B g) (tt := lowT X.K B tt) (te := low X.K B te) hN hy hl O hc hi (fun s0 H0 fp ps => ⟨(b s0 H0 fp ps).tgt, (b s0 H0 fp ps).tst, (b s0 H0 fp ps).elt⟩) hsw hs hfn) fun D σ H ⟨σ', H', D', s, h, d⟩ => by
    refine low_comp ⟨σ', H', _, s, h, fun v' H1' v H1 q r s1 e1 => ?_⟩
    exact d.nx _ _ _ _ q (s1.set r i) e1
end
end U
namespace U
open PySem PySem.Spec PyProof.Rows L2
def AllL (cs : List (Str × Addr)) : List (Str × Addr) → Prop
  | [] => True
  | p :: r => cs.lookup p.1 = some p.2 ∧ AllL cs r
theorem AllL.mem {cs : List (Str × Addr)} : ∀ {l : List (Str × Addr)} {p : Str × Addr}, AllL cs l → p ∈ l → cs.lookup p.1 = some p.2
  | q :: r, p, h, m => by
    rcases List.mem_cons.mp m with rfl | m
    · exact h.1
    · exact AllL.mem h.2 m
theorem cok {X : Cx} {N2 : List Str} {nt : Nat} {js : List Nat} {scope sc : Scope} {cl : List (Str × Addr)} (clos : closureFor scope X.env = pure cl) (sub : AllL X.env.cells cl) (xsc : X.env.scope = sc) (kind : scope.kind = .function)
    (nocell : ∀ y ∈ scope.names, y.2 ≠ .cell) (loc : ∀ y ∈ scope.names, y.2 = .local → scope.names.lookup y.1 = some .local) (names : cl.map (·.1) = ((scope.names.filter (·.2 == .free)).map (·.1)).reverse)
    (frs : ∀ x ∈ N2.drop nt, scope.names.lookup x = some .free ∧ sc.names.lookup x = some .cell) (len : N2.length = nt + js.length) (pl : js.map (fun j => X.N[j]?) = (N2.drop nt).map some) : CompOk X N2 nt js scope cl sc :=
  ⟨clos, fun x c e => sub.mem (lookup_mem e), xsc, kind, nocell, loc, fun y m f => by rw [names]; exact List.mem_reverse.mpr (List.mem_map_of_mem (List.mem_filter.mpr ⟨m, by rw [f]; rfl⟩)), frs, len, fun k j e => by
    have h : (js.map (fun j => X.N[j]?))[k]? = ((N2.drop nt).map some)[k]? := by rw [pl]
    rw [List.getElem?_map, List.getElem?_map, e, List.getElem?_drop] at h
    cases q : N2[nt + k]? with
    | none => rw [q] at h; cases h
    | some x => rw [q] at h; exact Option.some.inj h⟩
end U
namespace U
open PySem PySem.Spec PyProof.Rows L2
theorem cx_no {P : Program} {w : World} {K : PySem.W.Frag} {mg : Str → Option Value} {base : Heap} {k : Nat} {f : Addr} {fd : FuncData} {ps : List Str} {sp : Sp'} (F : FnOk' P w K mg base (CXU P w) k f fd ps sp) :
    FnOk' P w K mg base CX0 k f fd ps (fun vs H Q _ => sp vs H Q fun _ _ _ => False) :=
  ⟨fun vs H Q E ⟨vs', H', Q', E', a, b, c, d, e⟩ => F.len vs H Q (fun _ _ _ => False) ⟨vs', H', Q', fun _ _ _ => False, a, b, c, d, fun _ _ _ _ z => z.elim⟩, fun A outer s H args us vs Q E hr he hb hv ⟨vs', H', Q', E', a, b, c, d, e⟩ =>
    codeAny_mono (F.run A outer s H args us vs Q (fun _ _ _ => False) hr he hb hv ⟨vs', H', Q', fun _ _ _ => False, a, b, c, d, fun _ _ _ _ z => z.elim⟩) fun r s' hq => by
      cases r with
      | error e =>
        have hq' : CXU P w outer H s (fun _ _ _ => False) e s' := hq
        obtain ⟨_, _, _, _, _, _, _, _, _, _, _, _, z⟩ := hq'
        exact z.elim
      | ok fl => cases fl <;> exact hq⟩
theorem w_cc {ok : PHp → Prop} {g : TG'} {tt : TT'} {te : TE'} {acc : Addr} {Q : VK'} {x : PV} {r : List PV} {σ : St'} {H : PHp} : uCompL ok g tt te acc Q (x :: r) σ H = (ok H ∧ g x σ H fun σ3 H2 => tt σ3 H2 fun b H3 => cif b (te σ3 H3 fun y H4 => ∃ l, H4 acc = some (.lst l) ∧ l.length < sizeLine ∧ uCompL ok g tt te acc Q r σ3 (put H4 acc (.lst (l ++ [y])))) (uCompL ok g tt te acc Q r σ3 H3)) := rfl
theorem w_co {ok : PHp → Prop} {g : TG'} {tt : TT'} {te : TE'} {acc : Addr} {Q : VK'} {σ : St'} {H : PHp} : uCompL ok g tt te acc Q [] σ H = (ok H ∧ Q (.ref acc) H) := rfl
theorem rng4 : rngL 0 (Int.toNat 4) = [.int 0, .int 1, .int 2, .int 3] := rfl
end U


namespace My
def gd (a b : Int) : Int := (Int.gcd a b : Nat)
theorem gd_zero (a : Int) : gd a 0 = if a < 0 then -a else a := by
  unfold gd; rw [Int.gcd_zero_right]; split <;> omega
theorem gd_abs (a b : Int) : gd (if a < 0 then -a else a) (if b < 0 then -b else b) = gd a b := by
  unfold gd
  have h : ∀ x : Int, (if x < 0 then -x else x) = (x.natAbs : Int) := fun x => by split <;> omega
  rw [h, h]
  simp [Int.gcd]
theorem gd_turn (a b : Int) : gd b (Int.fmod a b) = gd a b := by
  unfold gd
  congr 1
  apply Nat.dvd_antisymm
  · apply Int.dvd_gcd
    · have h1 := Int.gcd_dvd_left b (a.fmod b)
      have h2 := Int.gcd_dvd_right b (a.fmod b)
      have e : a = b * a.fdiv b + a.fmod b := by rw [Int.fmod_def]; omega
      have h3 : ((b.gcd (a.fmod b) : Nat) : Int) ∣ b * a.fdiv b + a.fmod b := Int.dvd_add (Int.dvd_mul_of_dvd_left h1) h2
      rw [← e] at h3
      exact h3
    · exact Int.gcd_dvd_left b (a.fmod b)
  · apply Int.dvd_gcd
    · exact Int.gcd_dvd_right a b
    · have h1 := Int.gcd_dvd_left a b
      have h2 := Int.gcd_dvd_right a b
      rw [Int.fmod_def]
      exact Int.dvd_sub h1 (Int.dvd_mul_of_dvd_left h2)
theorem gd_pos (a b : Int) (h : b ≠ 0) : 0 < gd a b := by
  unfold gd
  have : 0 < a.gcd b := Int.gcd_pos_iff.mpr (Or.inr h)
  omega
theorem gd_dvd_l (a b : Int) : gd a b ∣ a := Int.gcd_dvd_left a b
theorem gd_dvd_r (a b : Int) : gd a b ∣ b := Int.gcd_dvd_right a b
theorem gd_le (a b : Int) (h : b ≠ 0) : gd a b ≤ if b < 0 then -b else b := by
  have d := gd_dvd_r a b
  have : gd a b ∣ (if b < 0 then -b else b) := by
    split
    · exact Int.dvd_neg.mpr d
    · exact d
  exact Int.le_of_dvd (by split <;> omega) this
theorem gd_low (a b : Int) (h : b ≠ 0) {x y : Int} (ex : a = gd a b * x) (ey : b = gd a b * y) : gd x y = 1 := by
  have hp := gd_pos a b h
  have hd : gd a b * gd x y ∣ gd a b := by
    have h1 : gd a b * gd x y ∣ a := by
      conv => rhs; rw [ex]
      exact Int.mul_dvd_mul_left _ (gd_dvd_l x y)
    have h2 : gd a b * gd x y ∣ b := by
      conv => rhs; rw [ey]
      exact Int.mul_dvd_mul_left _ (gd_dvd_r x y)
    have h3 := Int.dvd_coe_gcd h1 h2
    exact h3
  obtain ⟨k, hk⟩ := hd
  have e1 : gd a b * (gd x y * k) = gd a b * 1 := by rw [← Int.mul_assoc, ← hk, Int.mul_one]
  have e2 : gd x y * k = 1 := Int.eq_of_mul_eq_mul_left (by omega) e1
  have hn : 0 ≤ gd x y := Int.natCast_nonneg _
  have : gd x y ∣ 1 := ⟨k, e2.symm⟩
  exact Int.eq_one_of_dvd_one hn this
abbrev ab (x : Int) : Int := if x < 0 then -x else x
theorem v_turn {a b c d : Int} (h : gd a b = gd c d) (p : 0 ≤ b) (z : b ≠ 0) : 0 ≤ b ∧ 0 ≤ Int.fmod a b ∧ gd b (Int.fmod a b) = gd c d :=
  ⟨p, Int.fmod_nonneg_of_pos a (by omega), (gd_turn a b).trans h⟩
theorem gd_neg (a b : Int) : gd (-a) (-b) = gd a b := by
  unfold gd; simp [Int.gcd]
structure Low (a b x y : Int) : Prop where
  ex : ∃ g, a = g * x ∧ b = g * y
  one : gd x y = 1
theorem low_of {a b x y g : Int} (hb : b ≠ 0) (hg : g = gd a b ∨ g = -gd a b) (ex : a = g * x) (ey : b = g * y) : Low a b x y := by
  refine ⟨⟨g, ex, ey⟩, ?_⟩
  rcases hg with rfl | rfl
  · exact gd_low a b hb ex ey
  · have h := gd_low (-a) (-b) (by omega) (x := x) (y := y)
    rw [gd_neg] at h
    refine h ?_ ?_
    · conv => lhs; rw [ex]
      rw [Int.neg_mul, Int.neg_neg]
    · conv => lhs; rw [ey]
      rw [Int.neg_mul, Int.neg_neg]
theorem Low.cross {a b x y : Int} (h : Low a b x y) : x * b = a * y := by
  obtain ⟨g, e1, e2⟩ := h.ex
  rw [e1, e2, ← Int.mul_assoc, Int.mul_comm x g]
theorem div_ex {a g : Int} (hg : g ≠ 0) (d : g ∣ a) : a = g * Int.fdiv a g := by
  rw [Int.fdiv_eq_ediv_of_dvd d]
  exact (Int.mul_ediv_cancel' d).symm
theorem div_pos {b g : Int} (hb : b ≠ 0) (hg : g ≠ 0) (d : g ∣ b) (s : (0 < b ∧ 0 < g) ∨ (b < 0 ∧ g < 0)) : 0 < Int.fdiv b g := by
  have e := div_ex hg d
  generalize Int.fdiv b g = q at e
  rcases (show q ≤ 0 ∨ 0 < q by omega) with h | h
  · rcases s with ⟨s1, s2⟩ | ⟨s1, s2⟩
    · have := Int.mul_nonpos_of_nonneg_of_nonpos (Int.le_of_lt s2) h; omega
    · have := Int.mul_nonneg_of_nonpos_of_nonpos (Int.le_of_lt s2) h; omega
  · exact h
theorem frac_ok {a b g : Int} (hb : b ≠ 0) (hg : (0 < b ∧ g = gd a b) ∨ (b < 0 ∧ g = -gd a b)) : Low a b (Int.fdiv a g) (Int.fdiv b g) ∧ 0 < Int.fdiv b g := by
  have hp := gd_pos a b hb
  have hgn : g ≠ 0 := by omega
  have d1 : g ∣ a := by
    rcases hg with ⟨_, rfl⟩ | ⟨_, rfl⟩
    · exact gd_dvd_l a b
    · exact Int.neg_dvd.mpr (gd_dvd_l a b)
  have d2 : g ∣ b := by
    rcases hg with ⟨_, rfl⟩ | ⟨_, rfl⟩
    · exact gd_dvd_r a b
    · exact Int.neg_dvd.mpr (gd_dvd_r a b)
  refine ⟨low_of hb (by omega) (div_ex hgn d1) (div_ex hgn d2), div_pos hb hgn d2 (by omega)⟩
end My


set_option linter.all false
namespace My
open U
theorem fmod_abs (a b : Int) (h : b ≠ 0) : (a.fmod b).natAbs < b.natAbs := by
  rcases (show 0 < b ∨ b < 0 by omega) with hb | hb
  · have h1 := Int.fmod_nonneg_of_pos a hb
    have h2 := Int.fmod_lt_of_pos a hb
    omega
  · have e : a.fmod b = -((-a).fmod (-b)) := by rw [Int.neg_fmod_neg]; omega
    have h1 := Int.fmod_nonneg_of_pos (-a) (show 0 < -b by omega)
    have h2 := Int.fmod_lt_of_pos (-a) (show 0 < -b by omega)
    omega
def BN (n : Nat) (i : Int) : Prop := i.natAbs < 2 ^ n
theorem BN.fit {n : Nat} {i : Int} (h : BN n i) (hn : n ≤ 9000) : Fit i := by
  unfold Fit
  unfold BN at h
  rcases Nat.eq_zero_or_pos i.natAbs with h0 | hp
  · rw [h0, Nat.log2_zero]; omega
  · have := (Nat.log2_lt (Nat.ne_of_gt hp)).mpr h
    omega
theorem BN.mul {n m : Nat} {i j : Int} (h : BN n i) (g : BN m j) : BN (n + m) (i * j) := by
  unfold BN at *
  rw [Int.natAbs_mul, Nat.pow_add]
  exact Nat.mul_lt_mul'' h g
theorem BN.mono {n m : Nat} {i : Int} (h : BN n i) (k : n ≤ m) : BN m i := Nat.lt_of_lt_of_le h (Nat.pow_le_pow_right (by decide) k)
theorem BN.add {n : Nat} {i j : Int} (h : BN n i) (g : BN n j) : BN (n + 1) (i + j) := by
  unfold BN at *
  rw [Nat.pow_succ]
  omega
theorem BN.sub {n : Nat} {i j : Int} (h : BN n i) (g : BN n j) : BN (n + 1) (i - j) := by
  unfold BN at *
  rw [Nat.pow_succ]
  omega
theorem BN.of_le {n : Nat} {i j : Int} (h : BN n i) (g : j.natAbs ≤ i.natAbs) : BN n j := Nat.lt_of_le_of_lt g h
theorem fdiv_abs {a g : Int} (hg : 0 < g) (d : g ∣ a) : (a.fdiv g).natAbs ≤ a.natAbs := by
  have e := div_ex (show g ≠ 0 by omega) d
  conv => rhs; rw [e, Int.natAbs_mul]
  have : 1 ≤ g.natAbs := by omega
  exact Nat.le_mul_of_pos_left _ this
def num (c : Int) : Int := if c.fmod 4 = 0 then (c.fdiv 4 * 982451653).fmod (2 * 10 ^ 60 - 1) - 10 ^ 60 + 1 else if c.fmod 4 = 1 then (c.fdiv 4).fmod 2001 - 1000 else (c.fdiv 4).fmod 25 - 12
theorem num_bn (c : Int) : BN 200 (num c) := by
  unfold BN num
  split
  · have h1 := Int.fmod_nonneg_of_pos (c.fdiv 4 * 982451653) (show (0 : Int) < 2 * 10 ^ 60 - 1 by decide)
    have h2 := Int.fmod_lt_of_pos (c.fdiv 4 * 982451653) (show (0 : Int) < 2 * 10 ^ 60 - 1 by decide)
    generalize (c.fdiv 4 * 982451653).fmod (2 * 10 ^ 60 - 1) = z at *
    omega
  · split
    · have h1 := Int.fmod_nonneg_of_pos (c.fdiv 4) (show (0 : Int) < 2001 by decide)
      have h2 := Int.fmod_lt_of_pos (c.fdiv 4) (show (0 : Int) < 2001 by decide)
      omega
    · have h1 := Int.fmod_nonneg_of_pos (c.fdiv 4) (show (0 : Int) < 25 by decide)
      have h2 := Int.fmod_lt_of_pos (c.fdiv 4) (show (0 : Int) < 25 by decide)
      omega
def low0 (a b : Int) : Int × Int := (a.fdiv (gd a (if b = 0 then 1 else b)), (if b = 0 then 1 else b).fdiv (gd a (if b = 0 then 1 else b)))
def lowest (a b : Int) : Int × Int := if b < 0 then low0 (-a) (-b) else low0 a b
theorem low0_ok {a b : Int} (h : 0 ≤ b) : 0 < (low0 a b).2 ∧ gd (low0 a b).1 (low0 a b).2 = 1 := by
  unfold low0
  generalize hb : (if b = 0 then 1 else b) = c
  have hc : 0 < c := by rw [← hb]; split <;> omega
  obtain ⟨l, p⟩ := frac_ok (a := a) (b := c) (g := gd a c) (by omega) (.inl ⟨hc, rfl⟩)
  exact ⟨p, l.one⟩
theorem low0_bn {n : Nat} {a b : Int} (h : 0 ≤ b) (ha : BN n a) (hb : BN n b) (hn : 1 ≤ n) : BN n (low0 a b).1 ∧ BN n (low0 a b).2 := by
  unfold low0
  generalize hc : (if b = 0 then 1 else b) = c
  have c0 : 0 < c := by rw [← hc]; split <;> omega
  have bc : BN n c := by
    rw [← hc]; split
    · unfold BN; exact Nat.one_lt_two_pow (by omega)
    · exact hb
  have gp := gd_pos a c (by omega)
  exact ⟨ha.of_le (fdiv_abs gp (gd_dvd_l a c)), bc.of_le (fdiv_abs gp (gd_dvd_r a c))⟩
theorem lowest_ok (a b : Int) : 0 < (lowest a b).2 ∧ gd (lowest a b).1 (lowest a b).2 = 1 := by
  unfold lowest; split
  · exact low0_ok (by omega)
  · exact low0_ok (by omega)
theorem lowest_bn {n : Nat} {a b : Int} (ha : BN n a) (hb : BN n b) (hn : 1 ≤ n) : BN n (lowest a b).1 ∧ BN n (lowest a b).2 := by
  unfold lowest; split
  · exact low0_bn (by omega) (by unfold BN at *; simpa using ha) (by unfold BN at *; simpa using hb) hn
  · exact low0_bn (by omega) ha hb hn
end My


set_option linter.all false
set_option maxRecDepth 100000
set_option maxHeartbeats 4000000
namespace Lw
open PySem L2 U PyProof.Rows
theorem boot_ValueError : bootBuiltins "ValueError" = some (.type "ValueError") := by decide +kernel

theorem atI2_0 {x y : PV} : atI [x, y] 0 = some x := rfl
theorem atI2_1 {x y : PV} : atI [x, y] 1 = some y := rfl
theorem atI1_0 {x : PV} : atI [x] 0 = some x := rfl
theorem boot_bool : bootBuiltins "bool" = some (.type "bool") := by decide +kernel

def top (i : Nat) : Stmt := PySem.Challenge.pw_doingbook_k02_sums_and_quotients.main.body.getD i (.Pass ⟨0, 0, 0, 0⟩)
abbrev s_greatest_divisor : Stmt := top 23
theorem sc_greatest_divisor : FnScope ["a", "b", "rest"] ["a", "b"] (defScope s_greatest_divisor) := ⟨rfl, rfl, rfl, by decide +kernel, rfl, by decide +kernel, by decide +kernel⟩
abbrev s_fraction : Stmt := top 24
theorem sc_fraction : FnScope ["top", "bottom", "divisor"] ["top", "bottom"] (defScope s_fraction) := ⟨rfl, rfl, rfl, by decide +kernel, rfl, by decide +kernel, by decide +kernel⟩
abbrev s_plus : Stmt := top 25
theorem sc_plus : FnScope ["a", "b"] ["a", "b"] (defScope s_plus) := ⟨rfl, rfl, rfl, by decide +kernel, rfl, by decide +kernel, by decide +kernel⟩
abbrev s_minus : Stmt := top 26
theorem sc_minus : FnScope ["a", "b"] ["a", "b"] (defScope s_minus) := ⟨rfl, rfl, rfl, by decide +kernel, rfl, by decide +kernel, by decide +kernel⟩
abbrev s_times : Stmt := top 27
theorem sc_times : FnScope ["a", "b"] ["a", "b"] (defScope s_times) := ⟨rfl, rfl, rfl, by decide +kernel, rfl, by decide +kernel, by decide +kernel⟩
abbrev s_over : Stmt := top 28
theorem sc_over : FnScope ["a", "b"] ["a", "b"] (defScope s_over) := ⟨rfl, rfl, rfl, by decide +kernel, rfl, by decide +kernel, by decide +kernel⟩
abbrev s_law_cell_at : Stmt := top 30
theorem sc_law_cell_at : FnScope ["_law_script", "_law_k"] ["_law_script", "_law_k"] (defScope s_law_cell_at) := ⟨rfl, rfl, rfl, by decide +kernel, rfl, by decide +kernel, by decide +kernel⟩
abbrev s_law_whole : Stmt := top 31
theorem sc_law_whole : FnScope ["_law_found"] ["_law_found"] (defScope s_law_whole) := ⟨rfl, rfl, rfl, by decide +kernel, rfl, by decide +kernel, by decide +kernel⟩
abbrev s_law_divisor : Stmt := top 32
theorem sc_law_divisor : FnScope ["_law_one", "_law_other", "_law_rest"] ["_law_one", "_law_other"] (defScope s_law_divisor) := ⟨rfl, rfl, rfl, by decide +kernel, rfl, by decide +kernel, by decide +kernel⟩
abbrev s_law_is_fraction : Stmt := top 33
theorem sc_law_is_fraction : FnScope ["_law_found"] ["_law_found"] (defScope s_law_is_fraction) := ⟨rfl, rfl, rfl, by decide +kernel, rfl, by decide +kernel, by decide +kernel⟩
abbrev s_law_number : Stmt := top 34
theorem sc_law_number : FnScope ["_law_cell"] ["_law_cell"] (defScope s_law_number) := ⟨rfl, rfl, rfl, by decide +kernel, rfl, by decide +kernel, by decide +kernel⟩
abbrev s_law_lowest : Stmt := top 35
theorem sc_law_lowest : FnScope ["_law_top", "_law_bottom", "_law_share"] ["_law_top", "_law_bottom"] (defScope s_law_lowest) := ⟨rfl, rfl, rfl, by decide +kernel, rfl, by decide +kernel, by decide +kernel⟩
abbrev s_law_kinds : Stmt := top 36
theorem sc_law_kinds : FnScope ["_law_e", "_law_found", "_law_told", "_law_name", "_law_truth"] ["_law_e"] (defScope s_law_kinds) := ⟨rfl, rfl, rfl, by decide +kernel, rfl, by decide +kernel, by decide +kernel⟩
abbrev s_law_over : Stmt := top 37
theorem sc_law_over : FnScope ["_law_one", "_law_two", "_law_caught", "_law_told", "_law_e"] ["_law_one", "_law_two"] (defScope s_law_over) := ⟨rfl, rfl, rfl, by decide +kernel, rfl, by decide +kernel, by decide +kernel⟩
abbrev s_law_is : Stmt := top 38
theorem sc_law_is : FnScope ["_law_found", "_law_top", "_law_bottom"] ["_law_found", "_law_top", "_law_bottom"] (defScope s_law_is) := ⟨rfl, rfl, rfl, by decide +kernel, rfl, by decide +kernel, by decide +kernel⟩
abbrev s_law_right : Stmt := top 39
theorem sc_law_right : FnScope ["_law_one", "_law_two", "_law_bottom", "_law_told"] ["_law_one", "_law_two"] (defScope s_law_right) := ⟨rfl, rfl, rfl, by decide +kernel, rfl, by decide +kernel, by decide +kernel⟩
abbrev s_law : Stmt := top 40
theorem sc_law : FnScope ["_law_script", "_law_k", "_law_numbers"] ["_law_script"] (defScope s_law) := ⟨rfl, rfl, rfl, by decide +kernel, rfl, by decide +kernel, by decide +kernel⟩
structure Ad where
  a_greatest_divisor : Addr
  d_greatest_divisor : FuncData
  a_fraction : Addr
  d_fraction : FuncData
  a_plus : Addr
  d_plus : FuncData
  a_minus : Addr
  d_minus : FuncData
  a_times : Addr
  d_times : FuncData
  a_over : Addr
  d_over : FuncData
  a_law_cell_at : Addr
  d_law_cell_at : FuncData
  a_law_whole : Addr
  d_law_whole : FuncData
  a_law_divisor : Addr
  d_law_divisor : FuncData
  a_law_is_fraction : Addr
  d_law_is_fraction : FuncData
  a_law_number : Addr
  d_law_number : FuncData
  a_law_lowest : Addr
  d_law_lowest : FuncData
  a_law_kinds : Addr
  d_law_kinds : FuncData
  a_law_over : Addr
  d_law_over : FuncData
  a_law_is : Addr
  d_law_is : FuncData
  a_law_right : Addr
  d_law_right : FuncData
  a_law : Addr
  d_law : FuncData
  a_BadPaper : Addr
  a_BadStep : Addr
  a_DoingError : Addr
  a_NoAnswer : Addr
  a_NoBow : Addr
  a_NoCount : Addr
  a_NoDoor : Addr
  a_NoFormula : Addr
  a_NoFraction : Addr
  a_NoName : Addr
  a_NoNest : Addr
  a_NoQuestion : Addr
  a_NoRoad : Addr
  a_NoRule : Addr
  a_NoSets : Addr
  a_NoShare : Addr
  a_NoText : Addr
  a_NoThinning : Addr
  a_NoTie : Addr
  a_NoValue : Addr
  a_NoWorld : Addr
structure Tx (K : PySem.W.Frag) (mg : Str → Option Value) (t : Ad) : Prop where
  F_greatest_divisor : Fun K "greatest_divisor" "greatest_divisor" s_greatest_divisor t.a_greatest_divisor t.d_greatest_divisor
  B_greatest_divisor : Binds K t.d_greatest_divisor ["a", "b"] []
  g_greatest_divisor : mg "greatest_divisor" = some (.ref t.a_greatest_divisor)
  F_fraction : Fun K "fraction" "fraction" s_fraction t.a_fraction t.d_fraction
  B_fraction : Binds K t.d_fraction ["top", "bottom"] []
  g_fraction : mg "fraction" = some (.ref t.a_fraction)
  F_plus : Fun K "plus" "plus" s_plus t.a_plus t.d_plus
  B_plus : Binds K t.d_plus ["a", "b"] []
  g_plus : mg "plus" = some (.ref t.a_plus)
  F_minus : Fun K "minus" "minus" s_minus t.a_minus t.d_minus
  B_minus : Binds K t.d_minus ["a", "b"] []
  g_minus : mg "minus" = some (.ref t.a_minus)
  F_times : Fun K "times" "times" s_times t.a_times t.d_times
  B_times : Binds K t.d_times ["a", "b"] []
  g_times : mg "times" = some (.ref t.a_times)
  F_over : Fun K "over" "over" s_over t.a_over t.d_over
  B_over : Binds K t.d_over ["a", "b"] []
  g_over : mg "over" = some (.ref t.a_over)
  F_law_cell_at : Fun K "_law_cell_at" "_law_cell_at" s_law_cell_at t.a_law_cell_at t.d_law_cell_at
  B_law_cell_at : Binds K t.d_law_cell_at ["_law_script", "_law_k"] []
  g_law_cell_at : mg "_law_cell_at" = some (.ref t.a_law_cell_at)
  F_law_whole : Fun K "_law_whole" "_law_whole" s_law_whole t.a_law_whole t.d_law_whole
  B_law_whole : Binds K t.d_law_whole ["_law_found"] []
  g_law_whole : mg "_law_whole" = some (.ref t.a_law_whole)
  F_law_divisor : Fun K "_law_divisor" "_law_divisor" s_law_divisor t.a_law_divisor t.d_law_divisor
  B_law_divisor : Binds K t.d_law_divisor ["_law_one", "_law_other"] []
  g_law_divisor : mg "_law_divisor" = some (.ref t.a_law_divisor)
  F_law_is_fraction : Fun K "_law_is_fraction" "_law_is_fraction" s_law_is_fraction t.a_law_is_fraction t.d_law_is_fraction
  B_law_is_fraction : Binds K t.d_law_is_fraction ["_law_found"] []
  g_law_is_fraction : mg "_law_is_fraction" = some (.ref t.a_law_is_fraction)
  F_law_number : Fun K "_law_number" "_law_number" s_law_number t.a_law_number t.d_law_number
  B_law_number : Binds K t.d_law_number ["_law_cell"] []
  g_law_number : mg "_law_number" = some (.ref t.a_law_number)
  F_law_lowest : Fun K "_law_lowest" "_law_lowest" s_law_lowest t.a_law_lowest t.d_law_lowest
  B_law_lowest : Binds K t.d_law_lowest ["_law_top", "_law_bottom"] []
  g_law_lowest : mg "_law_lowest" = some (.ref t.a_law_lowest)
  F_law_kinds : Fun K "_law_kinds" "_law_kinds" s_law_kinds t.a_law_kinds t.d_law_kinds
  B_law_kinds : Binds K t.d_law_kinds ["_law_e"] []
  g_law_kinds : mg "_law_kinds" = some (.ref t.a_law_kinds)
  F_law_over : Fun K "_law_over" "_law_over" s_law_over t.a_law_over t.d_law_over
  B_law_over : Binds K t.d_law_over ["_law_one", "_law_two"] []
  g_law_over : mg "_law_over" = some (.ref t.a_law_over)
  F_law_is : Fun K "_law_is" "_law_is" s_law_is t.a_law_is t.d_law_is
  B_law_is : Binds K t.d_law_is ["_law_found", "_law_top", "_law_bottom"] []
  g_law_is : mg "_law_is" = some (.ref t.a_law_is)
  F_law_right : Fun K "_law_right" "_law_right" s_law_right t.a_law_right t.d_law_right
  B_law_right : Binds K t.d_law_right ["_law_one", "_law_two"] []
  g_law_right : mg "_law_right" = some (.ref t.a_law_right)
  F_law : Fun K "law" "law" s_law t.a_law t.d_law
  B_law : Binds K t.d_law ["_law_script"] []
  g_law : mg "law" = some (.ref t.a_law)
  g_BadPaper : mg "BadPaper" = some (.ref t.a_BadPaper)
  g_BadStep : mg "BadStep" = some (.ref t.a_BadStep)
  g_DoingError : mg "DoingError" = some (.ref t.a_DoingError)
  g_NoAnswer : mg "NoAnswer" = some (.ref t.a_NoAnswer)
  g_NoBow : mg "NoBow" = some (.ref t.a_NoBow)
  g_NoCount : mg "NoCount" = some (.ref t.a_NoCount)
  g_NoDoor : mg "NoDoor" = some (.ref t.a_NoDoor)
  g_NoFormula : mg "NoFormula" = some (.ref t.a_NoFormula)
  g_NoFraction : mg "NoFraction" = some (.ref t.a_NoFraction)
  g_NoName : mg "NoName" = some (.ref t.a_NoName)
  g_NoNest : mg "NoNest" = some (.ref t.a_NoNest)
  g_NoQuestion : mg "NoQuestion" = some (.ref t.a_NoQuestion)
  g_NoRoad : mg "NoRoad" = some (.ref t.a_NoRoad)
  g_NoRule : mg "NoRule" = some (.ref t.a_NoRule)
  g_NoSets : mg "NoSets" = some (.ref t.a_NoSets)
  g_NoShare : mg "NoShare" = some (.ref t.a_NoShare)
  g_NoText : mg "NoText" = some (.ref t.a_NoText)
  g_NoThinning : mg "NoThinning" = some (.ref t.a_NoThinning)
  g_NoTie : mg "NoTie" = some (.ref t.a_NoTie)
  g_NoValue : mg "NoValue" = some (.ref t.a_NoValue)
  g_NoWorld : mg "NoWorld" = some (.ref t.a_NoWorld)
  x_DoingError : XCls K t.a_DoingError
  x_NoFraction : XCls K t.a_NoFraction
  s_NoFraction : PySem.W.mroIn K t.a_NoFraction (.ref t.a_DoingError) = some true
  k_NoFraction_ValueError : PySem.W.kitOne K (.ref t.a_NoFraction) (.type "ValueError") = some true
  k_NoFraction_NoText : PySem.W.kitOne K (.ref t.a_NoFraction) (.ref t.a_NoText) = some false
  k_NoFraction_BadStep : PySem.W.kitOne K (.ref t.a_NoFraction) (.ref t.a_BadStep) = some false
  k_NoFraction_NoFormula : PySem.W.kitOne K (.ref t.a_NoFraction) (.ref t.a_NoFormula) = some false
  k_NoFraction_NoQuestion : PySem.W.kitOne K (.ref t.a_NoFraction) (.ref t.a_NoQuestion) = some false
  k_NoFraction_NoAnswer : PySem.W.kitOne K (.ref t.a_NoFraction) (.ref t.a_NoAnswer) = some false
  k_NoFraction_NoThinning : PySem.W.kitOne K (.ref t.a_NoFraction) (.ref t.a_NoThinning) = some false
  k_NoFraction_NoDoor : PySem.W.kitOne K (.ref t.a_NoFraction) (.ref t.a_NoDoor) = some false
  k_NoFraction_NoNest : PySem.W.kitOne K (.ref t.a_NoFraction) (.ref t.a_NoNest) = some false
  k_NoFraction_BadPaper : PySem.W.kitOne K (.ref t.a_NoFraction) (.ref t.a_BadPaper) = some false
  k_NoFraction_NoRule : PySem.W.kitOne K (.ref t.a_NoFraction) (.ref t.a_NoRule) = some false
  k_NoFraction_NoRoad : PySem.W.kitOne K (.ref t.a_NoFraction) (.ref t.a_NoRoad) = some false
  k_NoFraction_NoShare : PySem.W.kitOne K (.ref t.a_NoFraction) (.ref t.a_NoShare) = some false
  k_NoFraction_NoValue : PySem.W.kitOne K (.ref t.a_NoFraction) (.ref t.a_NoValue) = some false
  k_NoFraction_NoWorld : PySem.W.kitOne K (.ref t.a_NoFraction) (.ref t.a_NoWorld) = some false
  k_NoFraction_NoSets : PySem.W.kitOne K (.ref t.a_NoFraction) (.ref t.a_NoSets) = some false
  k_NoFraction_NoName : PySem.W.kitOne K (.ref t.a_NoFraction) (.ref t.a_NoName) = some false
  k_NoFraction_NoBow : PySem.W.kitOne K (.ref t.a_NoFraction) (.ref t.a_NoBow) = some false
  k_NoFraction_NoTie : PySem.W.kitOne K (.ref t.a_NoFraction) (.ref t.a_NoTie) = some false
  k_NoFraction_NoCount : PySem.W.kitOne K (.ref t.a_NoFraction) (.ref t.a_NoCount) = some false
  k_NoFraction_NoFraction : PySem.W.kitOne K (.ref t.a_NoFraction) (.ref t.a_NoFraction) = some true
  b_ValueError : mg "ValueError" = none
  b_abs : mg "abs" = none
  b_bool : mg "bool" = none
  b_int : mg "int" = none
  b_isinstance : mg "isinstance" = none
  b_len : mg "len" = none
  b_range : mg "range" = none
  b_tuple : mg "tuple" = none

section
variable {P : Program} {w : World} {K : PySem.W.Frag} {mg : Str → Option Value} {base : Heap} {t : Ad}

def sp_divisor : Sp' := fun vs H Q _ => match vs with
  | [.int a, .int b] => Q (.int (My.gd a b)) H
  | _ => False
theorem e_divisor {a b : Int} {H : PHp} {Q : VK'} {E : XK'} : sp_divisor [.int a, .int b] H Q E = Q (.int (My.gd a b)) H := rfl

def sp_number : Sp' := fun vs H Q _ => match vs with
  | [.int c] => Q (.int (My.num c)) H
  | _ => False
theorem e_number {c : Int} {H : PHp} {Q : VK'} {E : XK'} : sp_number [.int c] H Q E = Q (.int (My.num c)) H := rfl
theorem cdiv {i j : Int} (h : j ≠ 0) (f : j.natAbs.log2 < 9000) : CDivB i j := ⟨h, f⟩

def frac (p : Int × Int) : PV := .tup [.int p.1, .int p.2]
def sp_low0 : Sp' := fun vs H Q _ => match vs with
  | [.int a, .int b] => (0 ≤ b ∧ My.BN 300 b) ∧ Q (frac (My.low0 a b)) H
  | _ => False
def sp_lowest : Sp' := fun vs H Q _ => match vs with
  | [.int a, .int b] => My.BN 300 b ∧ Q (frac (My.lowest a b)) H
  | _ => False
theorem e_low0 {a b : Int} {H : PHp} {Q : VK'} {E : XK'} : sp_low0 [.int a, .int b] H Q E = ((0 ≤ b ∧ My.BN 300 b) ∧ Q (.tup [.int (My.low0 a b).1, .int (My.low0 a b).2]) H) := rfl
theorem e_lowest {a b : Int} {H : PHp} {Q : VK'} {E : XK'} : sp_lowest [.int a, .int b] H Q E = (My.BN 300 b ∧ Q (.tup [.int (My.lowest a b).1, .int (My.lowest a b).2]) H) := rfl
theorem gd_fit {a b : Int} (hb : My.BN 300 b) (h : b ≠ 0) : Fit (My.gd a b) := by
  refine (hb.of_le ?_).fit (by decide)
  have h1 := My.gd_le a b h
  have h2 := My.gd_pos a b h
  split at h1 <;> omega
theorem one_bn : My.BN 300 1 := by unfold My.BN; exact Nat.one_lt_two_pow (by decide)

def fg (a b : Int) : Int := if b < 0 then -My.gd a b else My.gd a b
def sp_gdiv : Sp' := fun vs H Q _ => match vs with
  | [.int a, .int b] => (0 ≤ a ∧ 0 ≤ b) ∧ Q (.int (My.gd a b)) H
  | _ => False
theorem e_gdiv {a b : Int} {H : PHp} {Q : VK'} {E : XK'} : sp_gdiv [.int a, .int b] H Q E = ((0 ≤ a ∧ 0 ≤ b) ∧ Q (.int (My.gd a b)) H) := rfl
def sp_fraction (t : Ad) : Sp' := fun vs H Q E => match vs with
  | [.int a, .int b] => My.BN 700 b ∧ (b = 0 → E (.ref t.a_NoFraction) none H) ∧ (b ≠ 0 → Q (.tup [.int (a.fdiv (fg a b)), .int (b.fdiv (fg a b))]) H)
  | _ => False
theorem e_fraction {a b : Int} {H : PHp} {Q : VK'} {E : XK'} : sp_fraction t [.int a, .int b] H Q E = (My.BN 700 b ∧ (b = 0 → E (.ref t.a_NoFraction) none H) ∧ (b ≠ 0 → Q (.tup [.int (a.fdiv (fg a b)), .int (b.fdiv (fg a b))]) H)) := rfl
def sp_cell : Sp' := fun vs H Q _ => match vs with
  | [.fls l, .int k] => 0 ≤ k ∧ Q (l.getD k.toNat (.int 0)) H
  | _ => False
theorem e_cell {l : List PV} {k : Int} {H : PHp} {Q : VK'} {E : XK'} : sp_cell [.fls l, .int k] H Q E = (0 ≤ k ∧ Q (l.getD k.toNat (.int 0)) H) := rfl
def sp_whole : Sp' := fun vs H Q _ => match vs with
  | [.int k] => Q (.bl true) H
  | _ => False
theorem e_whole {k : Int} {H : PHp} {Q : VK'} {E : XK'} : sp_whole [.int k] H Q E = Q (.bl true) H := rfl
def sp_isfrac : Sp' := fun vs H Q _ => match vs with
  | [.tup [.int a, .int b]] => (0 < b ∧ My.gd a b = 1) ∧ Q (.bl true) H
  | _ => False
theorem e_isfrac {a b : Int} {H : PHp} {Q : VK'} {E : XK'} : sp_isfrac [.tup [.int a, .int b]] H Q E = ((0 < b ∧ My.gd a b = 1) ∧ Q (.bl true) H) := rfl
theorem gd_fit7 {a b : Int} (hb : My.BN 700 b) (h : b ≠ 0) : Fit (My.gd a b) := by
  refine (hb.of_le ?_).fit (by decide)
  have h1 := My.gd_le a b h
  have h2 := My.gd_pos a b h
  split at h1 <;> omega
theorem num_bn3 (c : Int) : My.BN 300 (My.num c) := (My.num_bn c).mono (by decide)
theorem mul_le {g x : Int} (h : g ≠ 0) : x.natAbs ≤ (g * x).natAbs := by
  rw [Int.natAbs_mul]
  exact Nat.le_mul_of_pos_left _ (by omega)
theorem Low.le1 {a b x y : Int} (l : My.Low a b x y) (hb : b ≠ 0) : x.natAbs ≤ a.natAbs := by
  obtain ⟨⟨g, e1, e2⟩, _⟩ := l
  rw [e1]
  exact mul_le (by rintro rfl; rw [Int.zero_mul] at e2; exact hb e2)
theorem Low.le2 {a b x y : Int} (l : My.Low a b x y) (hb : b ≠ 0) : y.natAbs ≤ b.natAbs := by
  obtain ⟨⟨g, e1, e2⟩, _⟩ := l
  rw [e2]
  exact mul_le (by rintro rfl; rw [Int.zero_mul] at e2; exact hb e2)

def sp_plus (t : Ad) : Sp' := fun vs H Q E => match vs with
  | [.tup [.int a, .int b], .tup [.int c, .int d]] => (My.BN 300 a ∧ My.BN 300 b ∧ My.BN 300 c ∧ My.BN 300 d) ∧ ((b * d) = 0 → E (.ref t.a_NoFraction) none H) ∧ ((b * d) ≠ 0 → Q (.tup [.int ((a * d + c * b).fdiv (fg (a * d + c * b) (b * d))), .int ((b * d).fdiv (fg (a * d + c * b) (b * d)))]) H)
  | _ => False
theorem e_plus {a b c d : Int} {H : PHp} {Q : VK'} {E : XK'} : sp_plus t [.tup [.int a, .int b], .tup [.int c, .int d]] H Q E = ((My.BN 300 a ∧ My.BN 300 b ∧ My.BN 300 c ∧ My.BN 300 d) ∧ ((b * d) = 0 → E (.ref t.a_NoFraction) none H) ∧ ((b * d) ≠ 0 → Q (.tup [.int ((a * d + c * b).fdiv (fg (a * d + c * b) (b * d))), .int ((b * d).fdiv (fg (a * d + c * b) (b * d)))]) H)) := rfl

def sp_minus (t : Ad) : Sp' := fun vs H Q E => match vs with
  | [.tup [.int a, .int b], .tup [.int c, .int d]] => (My.BN 300 a ∧ My.BN 300 b ∧ My.BN 300 c ∧ My.BN 300 d) ∧ ((b * d) = 0 → E (.ref t.a_NoFraction) none H) ∧ ((b * d) ≠ 0 → Q (.tup [.int ((a * d - c * b).fdiv (fg (a * d - c * b) (b * d))), .int ((b * d).fdiv (fg (a * d - c * b) (b * d)))]) H)
  | _ => False
theorem e_minus {a b c d : Int} {H : PHp} {Q : VK'} {E : XK'} : sp_minus t [.tup [.int a, .int b], .tup [.int c, .int d]] H Q E = ((My.BN 300 a ∧ My.BN 300 b ∧ My.BN 300 c ∧ My.BN 300 d) ∧ ((b * d) = 0 → E (.ref t.a_NoFraction) none H) ∧ ((b * d) ≠ 0 → Q (.tup [.int ((a * d - c * b).fdiv (fg (a * d - c * b) (b * d))), .int ((b * d).fdiv (fg (a * d - c * b) (b * d)))]) H)) := rfl

def sp_times (t : Ad) : Sp' := fun vs H Q E => match vs with
  | [.tup [.int a, .int b], .tup [.int c, .int d]] => (My.BN 300 a ∧ My.BN 300 b ∧ My.BN 300 c ∧ My.BN 300 d) ∧ ((b * d) = 0 → E (.ref t.a_NoFraction) none H) ∧ ((b * d) ≠ 0 → Q (.tup [.int ((a * c).fdiv (fg (a * c) (b * d))), .int ((b * d).fdiv (fg (a * c) (b * d)))]) H)
  | _ => False
theorem e_times {a b c d : Int} {H : PHp} {Q : VK'} {E : XK'} : sp_times t [.tup [.int a, .int b], .tup [.int c, .int d]] H Q E = ((My.BN 300 a ∧ My.BN 300 b ∧ My.BN 300 c ∧ My.BN 300 d) ∧ ((b * d) = 0 → E (.ref t.a_NoFraction) none H) ∧ ((b * d) ≠ 0 → Q (.tup [.int ((a * c).fdiv (fg (a * c) (b * d))), .int ((b * d).fdiv (fg (a * c) (b * d)))]) H)) := rfl

def sp_over (t : Ad) : Sp' := fun vs H Q E => match vs with
  | [.tup [.int a, .int b], .tup [.int c, .int d]] => (My.BN 300 a ∧ My.BN 300 b ∧ My.BN 300 c ∧ My.BN 300 d) ∧ ((b * c) = 0 → E (.ref t.a_NoFraction) none H) ∧ ((b * c) ≠ 0 → Q (.tup [.int ((a * d).fdiv (fg (a * d) (b * c))), .int ((b * c).fdiv (fg (a * d) (b * c)))]) H)
  | _ => False
theorem e_over {a b c d : Int} {H : PHp} {Q : VK'} {E : XK'} : sp_over t [.tup [.int a, .int b], .tup [.int c, .int d]] H Q E = ((My.BN 300 a ∧ My.BN 300 b ∧ My.BN 300 c ∧ My.BN 300 d) ∧ ((b * c) = 0 → E (.ref t.a_NoFraction) none H) ∧ ((b * c) ≠ 0 → Q (.tup [.int ((a * d).fdiv (fg (a * d) (b * c))), .int ((b * c).fdiv (fg (a * d) (b * c)))]) H)) := rfl

def sp_lover : Sp' := fun vs H Q _ => match vs with
  | [.tup [.int a, .int b], .tup [.int c, .int d]] => (My.BN 300 a ∧ My.BN 300 b ∧ My.BN 300 c ∧ My.BN 300 d) ∧ (b * c = 0 → ∀ r H1, Sub H H1 → H1 r = some (.lst [.str "NoFraction"]) → Q (.ref r) H1) ∧ (b * c ≠ 0 → Q (.tup [.int ((a * d).fdiv (fg (a * d) (b * c))), .int ((b * c).fdiv (fg (a * d) (b * c)))]) H)
  | _ => False
theorem e_lover {a b c d : Int} {H : PHp} {Q : VK'} {E : XK'} : sp_lover [.tup [.int a, .int b], .tup [.int c, .int d]] H Q E = ((My.BN 300 a ∧ My.BN 300 b ∧ My.BN 300 c ∧ My.BN 300 d) ∧ (b * c = 0 → ∀ r H1, Sub H H1 → H1 r = some (.lst [.str "NoFraction"]) → Q (.ref r) H1) ∧ (b * c ≠ 0 → Q (.tup [.int ((a * d).fdiv (fg (a * d) (b * c))), .int ((b * c).fdiv (fg (a * d) (b * c)))]) H)) := rfl
def sp_is : Sp' := fun vs H Q _ => match vs with
  | [.tup [.int x, .int y], .int a, .int b] => ((0 < y ∧ My.gd x y = 1) ∧ x * b = a * y) ∧ (Fit x ∧ Fit y ∧ Fit a ∧ Fit b) ∧ Q (.bl true) H
  | _ => False
theorem e_is {x y a b : Int} {H : PHp} {Q : VK'} {E : XK'} : sp_is [.tup [.int x, .int y], .int a, .int b] H Q E = (((0 < y ∧ My.gd x y = 1) ∧ x * b = a * y) ∧ (Fit x ∧ Fit y ∧ Fit a ∧ Fit b) ∧ Q (.bl true) H) := rfl
def sp_right : Sp' := fun vs H Q _ => match vs with
  | [.tup [.int a, .int b], .tup [.int c, .int d]] => (My.BN 300 a ∧ My.BN 300 b ∧ My.BN 300 c ∧ My.BN 300 d) ∧ (0 < b ∧ 0 < d) ∧ Q (.bl true) H
  | _ => False
theorem e_right {a b c d : Int} {H : PHp} {Q : VK'} {E : XK'} : sp_right [.tup [.int a, .int b], .tup [.int c, .int d]] H Q E = ((My.BN 300 a ∧ My.BN 300 b ∧ My.BN 300 c ∧ My.BN 300 d) ∧ (0 < b ∧ 0 < d) ∧ Q (.bl true) H) := rfl

def Kd (t : Ad) (C : Addr) (nm : Str) : Prop := (C = t.a_NoFraction ∧ nm = "NoFraction")
def sp_kinds (t : Ad) : Sp' := fun vs H Q _ => match vs with
  | [.ref a] => ∃ C nm, H a = some (.exc C) ∧ Kd t C nm ∧ ∀ r, H r = none → Q (.ref r) (put H r (.lst [.str nm]))
  | _ => False

theorem e_kinds {a : Addr} {H : PHp} {Q : VK'} {E : XK'} : sp_kinds t [.ref a] H Q E = ∃ C nm, H a = some (.exc C) ∧ Kd t C nm ∧ ∀ r, H r = none → Q (.ref r) (put H r (.lst [.str nm])) := rfl

local macro_rules | `(tactic| walk_at "rd") => `(tactic| simp only [uRet, uRetN, uOp, uI, uI0, uIx, uVar, uC, uSeq, uAsg, vName, uIfS, uNext, uDrop, uTest, uChain, uAnd, uOr, uNot, uAndV, uOrV, uNotV, uIf, uUn, uNil, uCons, uTup, uLst, uCB, uLen, uAbs, uInt, uList, uTuple, uSlice, uNoPart, uPart,
  uCall, uRaise, uIsx, xCall, xSet, xDrop, xSeq, xIf, uTry, uComp, uYes, sigU, uFor, uSeqI, uEqG, uInG, BT.sub, BT.nm, w_bm, w_il, uBM0, ends, uBreak, uCont, start', flat, deq, deqs, w_V, w_B, w_I, w_O, w_St, w_Sf, w_Sr, w_Dr, w_Dn, w_Db, w_Di, w_Ds, w_Dt, w_Df, w_Tn, w_Tb, w_Ti, w_Ts, w_Tt, w_Tf, w_Tr, w_Ni, w_Nb, w_Lf, w_Lr, w_Lt, w_Xt, w_Xf, w_Xr, w_1, w_isi, w_n0, w_n1, w_n2, w_n3, w_n4, w_vt, w_vc, w_vn, w_r1, w_r1', w_r2, w_r2', w_ap, w_ex, w_po, cif_t, cif_f,
  List.map_cons, List.map_nil, List.length_cons, List.length_nil, Nat.reduceAdd, Nat.reduceSub, Nat.add_sub_cancel, Nat.sub_self, Nat.zero_add, List.replicate_succ, List.replicate_zero, List.cons_append, List.nil_append, List.append_nil, List.getElem?_cons_zero, List.getElem?_cons_succ, List.set_cons_zero, List.set_cons_succ,
  atI2_0, atI2_1, List.all_cons, List.all_nil, Bool.and_self, Bool.and_true, Bool.true_and, Bool.not_true, Bool.not_false, true_and, and_true, put_same, Option.some.injEq, PO.lst.injEq, exists_eq_left', Int.zero_add , e_divisor, e_number, e_gdiv, e_fraction, e_cell, e_whole, e_isfrac, e_kinds, e_low0, e_lowest, e_plus, e_minus, e_times, e_over, e_lover, e_is, e_right])

theorem G_law_kinds (T : Tx K mg t) : FnOk' P w K mg base CX0 1 t.a_law_kinds t.d_law_kinds ["_law_e"] (sp_kinds t) := by
  refine okU (k := 0) T.F_law_kinds sc_law_kinds (fun vs H Q E h => by
    unfold sp_kinds at h
    split at h
    · rfl
    · exact h.elim) (fun cdv A outer s H E B hr => ⟨_, (qss_cons (qs_set (i := 1) sc_law_kinds.nd rfl (by first | exact Or.inl rfl | exact Or.inr rfl) (qe_lst qa_nil))
    (qss_cons (qs_set (i := 2) sc_law_kinds.nd rfl (by first | exact Or.inl rfl | exact Or.inr rfl) (qe_lst (qa_cons (qe_tup (qa_cons qe_str (qa_cons (qe_isx T.g_NoFraction rfl rfl T.b_isinstance (qv 0)) qa_nil))) (qa_cons (qe_tup (qa_cons qe_str (qa_cons (qe_isx T.g_NoCount rfl rfl T.b_isinstance (qv 0)) qa_nil))) qa_nil))))
    (qss_cons (qs_expr (qe_bm PySem.F.slot_list_extend PySem.F.type_list_extend mt_extend vm_extend (qv 2) (qa_cons (qe_lst (qa_cons (qe_tup (qa_cons qe_str (qa_cons (qe_isx T.g_NoTie rfl rfl T.b_isinstance (qv 0)) qa_nil))) (qa_cons (qe_tup (qa_cons qe_str (qa_cons (qe_isx T.g_NoBow rfl rfl T.b_isinstance (qv 0)) qa_nil))) (qa_cons (qe_tup (qa_cons qe_str (qa_cons (qe_isx T.g_NoName rfl rfl T.b_isinstance (qv 0)) qa_nil))) qa_nil)))) qa_nil)))
    (qss_cons (qs_expr (qe_bm PySem.F.slot_list_extend PySem.F.type_list_extend mt_extend vm_extend (qv 2) (qa_cons (qe_lst (qa_cons (qe_tup (qa_cons qe_str (qa_cons (qe_isx T.g_NoSets rfl rfl T.b_isinstance (qv 0)) qa_nil))) (qa_cons (qe_tup (qa_cons qe_str (qa_cons (qe_isx T.g_NoWorld rfl rfl T.b_isinstance (qv 0)) qa_nil))) qa_nil))) qa_nil)))
    (qss_cons (qs_expr (qe_bm PySem.F.slot_list_extend PySem.F.type_list_extend mt_extend vm_extend (qv 2) (qa_cons (qe_lst (qa_cons (qe_tup (qa_cons qe_str (qa_cons (qe_isx T.g_NoValue rfl rfl T.b_isinstance (qv 0)) qa_nil))) (qa_cons (qe_tup (qa_cons qe_str (qa_cons (qe_isx T.g_NoShare rfl rfl T.b_isinstance (qv 0)) qa_nil))) qa_nil))) qa_nil)))
    (qss_cons (qs_expr (qe_bm PySem.F.slot_list_extend PySem.F.type_list_extend mt_extend vm_extend (qv 2) (qa_cons (qe_lst (qa_cons (qe_tup (qa_cons qe_str (qa_cons (qe_isx T.g_NoRoad rfl rfl T.b_isinstance (qv 0)) qa_nil))) (qa_cons (qe_tup (qa_cons qe_str (qa_cons (qe_isx T.g_NoRule rfl rfl T.b_isinstance (qv 0)) qa_nil))) qa_nil))) qa_nil)))
    (qss_cons (qs_expr (qe_bm PySem.F.slot_list_extend PySem.F.type_list_extend mt_extend vm_extend (qv 2) (qa_cons (qe_lst (qa_cons (qe_tup (qa_cons qe_str (qa_cons (qe_isx T.g_BadPaper rfl rfl T.b_isinstance (qv 0)) qa_nil))) (qa_cons (qe_tup (qa_cons qe_str (qa_cons (qe_isx T.g_NoNest rfl rfl T.b_isinstance (qv 0)) qa_nil))) qa_nil))) qa_nil)))
    (qss_cons (qs_expr (qe_bm PySem.F.slot_list_extend PySem.F.type_list_extend mt_extend vm_extend (qv 2) (qa_cons (qe_lst (qa_cons (qe_tup (qa_cons qe_str (qa_cons (qe_isx T.g_NoDoor rfl rfl T.b_isinstance (qv 0)) qa_nil))) (qa_cons (qe_tup (qa_cons qe_str (qa_cons (qe_isx T.g_NoThinning rfl rfl T.b_isinstance (qv 0)) qa_nil))) qa_nil))) qa_nil)))
    (qss_cons (qs_expr (qe_bm PySem.F.slot_list_extend PySem.F.type_list_extend mt_extend vm_extend (qv 2) (qa_cons (qe_lst (qa_cons (qe_tup (qa_cons qe_str (qa_cons (qe_isx T.g_NoAnswer rfl rfl T.b_isinstance (qv 0)) qa_nil))) (qa_cons (qe_tup (qa_cons qe_str (qa_cons (qe_isx T.g_NoQuestion rfl rfl T.b_isinstance (qv 0)) qa_nil))) qa_nil))) qa_nil)))
    (qss_cons (qs_expr (qe_bm PySem.F.slot_list_extend PySem.F.type_list_extend mt_extend vm_extend (qv 2) (qa_cons (qe_lst (qa_cons (qe_tup (qa_cons qe_str (qa_cons (qe_isx T.g_NoFormula rfl rfl T.b_isinstance (qv 0)) qa_nil))) (qa_cons (qe_tup (qa_cons qe_str (qa_cons (qe_isx T.g_BadStep rfl rfl T.b_isinstance (qv 0)) qa_nil))) qa_nil))) qa_nil)))
    (qss_cons (qs_expr (qe_bm PySem.F.slot_list_extend PySem.F.type_list_extend mt_extend vm_extend (qv 2) (qa_cons (qe_lst (qa_cons (qe_tup (qa_cons qe_str (qa_cons (qe_isx T.g_NoText rfl rfl T.b_isinstance (qv 0)) qa_nil))) (qa_cons (qe_tup (qa_cons qe_str (qa_cons (qe_not (qe_isxT T.b_ValueError boot_ValueError rfl rfl T.b_isinstance (qv 0))) qa_nil))) qa_nil))) qa_nil)))
    (qss_cons (qs_for PassesOwn.never rfl (qi_seq (qv 2)) (qg_tup (n := 2) rfl (qgs_cons (qg_name (i := 3) sc_law_kinds.nd rfl (by first | exact Or.inl rfl | exact Or.inr rfl)) (qgs_cons (qg_name (i := 4) sc_law_kinds.nd rfl (by first | exact Or.inl rfl | exact Or.inr rfl)) qgs_nil)))
    (qss_one (qs_if (qt_val (qv 4))
      (qss_one (qs_expr (qe_bm PySem.F.slot_list_append PySem.F.type_list_append mt_append vm_append (qv 1) (qa_cons (qv 3) qa_nil))))
      qss_nil)))
    (qss_one (qs_ret (qv 1))))))))))))))), ?_⟩)
  intro vs H Q E h
  unfold sp_kinds at h
  split at h
  · rename_i a
    obtain ⟨C, nm, ha, hk, h⟩ := h
    obtain ⟨rfl, rfl⟩ := hk
    have hx : ∀ (H' : PHp) (D : Value) (b : Bool) (Q : VK'), H' a = some (.exc t.a_NoFraction) → PySem.W.kitOne K (.ref t.a_NoFraction) D = some b → Q (.bl b) H' → isxOf K D (.ref a) H' Q := fun H' D b Q h1 h2 h3 => ⟨_, b, h1, T.x_NoFraction, h2, h3⟩
    have s2 : (2 : Nat) ≤ sizeLine := small_size (by decide)
    have s3 : (3 : Nat) ≤ sizeLine := small_size (by decide)
    refine seq_abs fun R0 hR => ?_
    walk_at "rd"
    refine ⟨small_size (by decide), fun r hr => ?_⟩
    have har := ne_none ha hr
    have a0 : put H r (.lst []) a = some (.exc t.a_NoFraction) := by rw [put_ne har]; exact ha
    have r0 : put H r (.lst []) r = some (.lst []) := put_same
    have b0 : Sub H (put H r (.lst [])) := Sub.put (Sub.refl _) hr
    generalize put H r (.lst []) = H0 at a0 r0 b0 ⊢
    subst hR
    refine seq_abs fun R1 hR => ?_
    walk_at "rd"
    refine hx _ _ _ _ a0 T.k_NoFraction_NoFraction ⟨s2, hx _ _ _ _ a0 T.k_NoFraction_NoCount ⟨s2, s2, fun q hq => ?_⟩⟩
    have haq := ne_none a0 hq
    have hrq := ne_none r0 hq
    have nq := b0.free hq
    generalize hL1 : ([.tup [.str "NoFraction", .bl true], .tup [.str "NoCount", .bl false]] : List PV) = L1
    have a1 := (put_ne (H := H0) (o := .lst L1) haq).trans a0
    have r1 := (put_ne (H := H0) (o := .lst L1) hrq).trans r0
    have q1 : put H0 q (.lst L1) q = some (.lst L1) := put_same
    have b1 : Sub H (put H0 q (.lst L1)) := b0.put (b0.free hq)
    generalize put H0 q (.lst L1) = H1 at a1 r1 q1 b1 ⊢
    have l1 : L1.length = 2 := by rw [← hL1]; rfl
    subst hR
    refine seq_abs fun R2 hR => ?_
    walk_at "rd"
    refine ⟨⟨_, q1⟩, ?_⟩
    refine hx _ _ _ _ a1 T.k_NoFraction_NoTie ⟨s2, hx _ _ _ _ a1 T.k_NoFraction_NoBow ⟨s2, hx _ _ _ _ a1 T.k_NoFraction_NoName ⟨s2, s3, fun p1 hp1 => ?_⟩⟩⟩
    have hq1 := ne_none q1 hp1
    have ha1 := ne_none a1 hp1
    have hr1 := ne_none r1 hp1
    generalize hM1 : ([.tup [.str "NoTie", .bl false], .tup [.str "NoBow", .bl false], .tup [.str "NoName", .bl false]] : List PV) = M1
    have m1 : M1.length = 3 := by rw [← hM1]; rfl
    refine ⟨L1, M1, (put_ne hq1).trans q1, rfl, small_size (by omega), ?_⟩
    have a2 : (put (put H1 p1 (.lst M1)) q (.lst (L1 ++ M1))) a = some (.exc t.a_NoFraction) := by rw [put_ne haq, put_ne ha1]; exact a1
    have r2 : (put (put H1 p1 (.lst M1)) q (.lst (L1 ++ M1))) r = some (.lst []) := by rw [put_ne hrq, put_ne hr1]; exact r1
    have q2 : (put (put H1 p1 (.lst M1)) q (.lst (L1 ++ M1))) q = some (.lst (L1 ++ M1)) := put_same
    have b2 : Sub H (put (put H1 p1 (.lst M1)) q (.lst (L1 ++ M1))) := (b1.put (b1.free hp1)).put nq
    generalize put (put H1 p1 (.lst M1)) q (.lst (L1 ++ M1)) = H2 at a2 r2 q2 b2 ⊢
    generalize hL2 : L1 ++ M1 = L2 at q2
    have l2 : L2.length = 5 := by rw [← hL2, List.length_append, l1, m1]
    subst hR
    refine seq_abs fun R3 hR => ?_
    walk_at "rd"
    refine ⟨⟨_, q2⟩, ?_⟩
    refine hx _ _ _ _ a2 T.k_NoFraction_NoSets ⟨s2, hx _ _ _ _ a2 T.k_NoFraction_NoWorld ⟨s2, s2, fun p2 hp2 => ?_⟩⟩
    have hq2 := ne_none q2 hp2
    have ha2 := ne_none a2 hp2
    have hr2 := ne_none r2 hp2
    generalize hM2 : ([.tup [.str "NoSets", .bl false], .tup [.str "NoWorld", .bl false]] : List PV) = M2
    have m2 : M2.length = 2 := by rw [← hM2]; rfl
    refine ⟨L2, M2, (put_ne hq2).trans q2, rfl, small_size (by omega), ?_⟩
    have a3 : (put (put H2 p2 (.lst M2)) q (.lst (L2 ++ M2))) a = some (.exc t.a_NoFraction) := by rw [put_ne haq, put_ne ha2]; exact a2
    have r3 : (put (put H2 p2 (.lst M2)) q (.lst (L2 ++ M2))) r = some (.lst []) := by rw [put_ne hrq, put_ne hr2]; exact r2
    have q3 : (put (put H2 p2 (.lst M2)) q (.lst (L2 ++ M2))) q = some (.lst (L2 ++ M2)) := put_same
    have b3 : Sub H (put (put H2 p2 (.lst M2)) q (.lst (L2 ++ M2))) := (b2.put (b2.free hp2)).put nq
    generalize put (put H2 p2 (.lst M2)) q (.lst (L2 ++ M2)) = H3 at a3 r3 q3 b3 ⊢
    generalize hL3 : L2 ++ M2 = L3 at q3
    have l3 : L3.length = 7 := by rw [← hL3, List.length_append, l2, m2]
    subst hR
    refine seq_abs fun R4 hR => ?_
    walk_at "rd"
    refine ⟨⟨_, q3⟩, ?_⟩
    refine hx _ _ _ _ a3 T.k_NoFraction_NoValue ⟨s2, hx _ _ _ _ a3 T.k_NoFraction_NoShare ⟨s2, s2, fun p3 hp3 => ?_⟩⟩
    have hq3 := ne_none q3 hp3
    have ha3 := ne_none a3 hp3
    have hr3 := ne_none r3 hp3
    generalize hM3 : ([.tup [.str "NoValue", .bl false], .tup [.str "NoShare", .bl false]] : List PV) = M3
    have m3 : M3.length = 2 := by rw [← hM3]; rfl
    refine ⟨L3, M3, (put_ne hq3).trans q3, rfl, small_size (by omega), ?_⟩
    have a4 : (put (put H3 p3 (.lst M3)) q (.lst (L3 ++ M3))) a = some (.exc t.a_NoFraction) := by rw [put_ne haq, put_ne ha3]; exact a3
    have r4 : (put (put H3 p3 (.lst M3)) q (.lst (L3 ++ M3))) r = some (.lst []) := by rw [put_ne hrq, put_ne hr3]; exact r3
    have q4 : (put (put H3 p3 (.lst M3)) q (.lst (L3 ++ M3))) q = some (.lst (L3 ++ M3)) := put_same
    have b4 : Sub H (put (put H3 p3 (.lst M3)) q (.lst (L3 ++ M3))) := (b3.put (b3.free hp3)).put nq
    generalize put (put H3 p3 (.lst M3)) q (.lst (L3 ++ M3)) = H4 at a4 r4 q4 b4 ⊢
    generalize hL4 : L3 ++ M3 = L4 at q4
    have l4 : L4.length = 9 := by rw [← hL4, List.length_append, l3, m3]
    subst hR
    refine seq_abs fun R5 hR => ?_
    walk_at "rd"
    refine ⟨⟨_, q4⟩, ?_⟩
    refine hx _ _ _ _ a4 T.k_NoFraction_NoRoad ⟨s2, hx _ _ _ _ a4 T.k_NoFraction_NoRule ⟨s2, s2, fun p4 hp4 => ?_⟩⟩
    have hq4 := ne_none q4 hp4
    have ha4 := ne_none a4 hp4
    have hr4 := ne_none r4 hp4
    generalize hM4 : ([.tup [.str "NoRoad", .bl false], .tup [.str "NoRule", .bl false]] : List PV) = M4
    have m4 : M4.length = 2 := by rw [← hM4]; rfl
    refine ⟨L4, M4, (put_ne hq4).trans q4, rfl, small_size (by omega), ?_⟩
    have a5 : (put (put H4 p4 (.lst M4)) q (.lst (L4 ++ M4))) a = some (.exc t.a_NoFraction) := by rw [put_ne haq, put_ne ha4]; exact a4
    have r5 : (put (put H4 p4 (.lst M4)) q (.lst (L4 ++ M4))) r = some (.lst []) := by rw [put_ne hrq, put_ne hr4]; exact r4
    have q5 : (put (put H4 p4 (.lst M4)) q (.lst (L4 ++ M4))) q = some (.lst (L4 ++ M4)) := put_same
    have b5 : Sub H (put (put H4 p4 (.lst M4)) q (.lst (L4 ++ M4))) := (b4.put (b4.free hp4)).put nq
    generalize put (put H4 p4 (.lst M4)) q (.lst (L4 ++ M4)) = H5 at a5 r5 q5 b5 ⊢
    generalize hL5 : L4 ++ M4 = L5 at q5
    have l5 : L5.length = 11 := by rw [← hL5, List.length_append, l4, m4]
    subst hR
    refine seq_abs fun R6 hR => ?_
    walk_at "rd"
    refine ⟨⟨_, q5⟩, ?_⟩
    refine hx _ _ _ _ a5 T.k_NoFraction_BadPaper ⟨s2, hx _ _ _ _ a5 T.k_NoFraction_NoNest ⟨s2, s2, fun p5 hp5 => ?_⟩⟩
    have hq5 := ne_none q5 hp5
    have ha5 := ne_none a5 hp5
    have hr5 := ne_none r5 hp5
    generalize hM5 : ([.tup [.str "BadPaper", .bl false], .tup [.str "NoNest", .bl false]] : List PV) = M5
    have m5 : M5.length = 2 := by rw [← hM5]; rfl
    refine ⟨L5, M5, (put_ne hq5).trans q5, rfl, small_size (by omega), ?_⟩
    have a6 : (put (put H5 p5 (.lst M5)) q (.lst (L5 ++ M5))) a = some (.exc t.a_NoFraction) := by rw [put_ne haq, put_ne ha5]; exact a5
    have r6 : (put (put H5 p5 (.lst M5)) q (.lst (L5 ++ M5))) r = some (.lst []) := by rw [put_ne hrq, put_ne hr5]; exact r5
    have q6 : (put (put H5 p5 (.lst M5)) q (.lst (L5 ++ M5))) q = some (.lst (L5 ++ M5)) := put_same
    have b6 : Sub H (put (put H5 p5 (.lst M5)) q (.lst (L5 ++ M5))) := (b5.put (b5.free hp5)).put nq
    generalize put (put H5 p5 (.lst M5)) q (.lst (L5 ++ M5)) = H6 at a6 r6 q6 b6 ⊢
    generalize hL6 : L5 ++ M5 = L6 at q6
    have l6 : L6.length = 13 := by rw [← hL6, List.length_append, l5, m5]
    subst hR
    refine seq_abs fun R7 hR => ?_
    walk_at "rd"
    refine ⟨⟨_, q6⟩, ?_⟩
    refine hx _ _ _ _ a6 T.k_NoFraction_NoDoor ⟨s2, hx _ _ _ _ a6 T.k_NoFraction_NoThinning ⟨s2, s2, fun p6 hp6 => ?_⟩⟩
    have hq6 := ne_none q6 hp6
    have ha6 := ne_none a6 hp6
    have hr6 := ne_none r6 hp6
    generalize hM6 : ([.tup [.str "NoDoor", .bl false], .tup [.str "NoThinning", .bl false]] : List PV) = M6
    have m6 : M6.length = 2 := by rw [← hM6]; rfl
    refine ⟨L6, M6, (put_ne hq6).trans q6, rfl, small_size (by omega), ?_⟩
    have a7 : (put (put H6 p6 (.lst M6)) q (.lst (L6 ++ M6))) a = some (.exc t.a_NoFraction) := by rw [put_ne haq, put_ne ha6]; exact a6
    have r7 : (put (put H6 p6 (.lst M6)) q (.lst (L6 ++ M6))) r = some (.lst []) := by rw [put_ne hrq, put_ne hr6]; exact r6
    have q7 : (put (put H6 p6 (.lst M6)) q (.lst (L6 ++ M6))) q = some (.lst (L6 ++ M6)) := put_same
    have b7 : Sub H (put (put H6 p6 (.lst M6)) q (.lst (L6 ++ M6))) := (b6.put (b6.free hp6)).put nq
    generalize put (put H6 p6 (.lst M6)) q (.lst (L6 ++ M6)) = H7 at a7 r7 q7 b7 ⊢
    generalize hL7 : L6 ++ M6 = L7 at q7
    have l7 : L7.length = 15 := by rw [← hL7, List.length_append, l6, m6]
    subst hR
    refine seq_abs fun R8 hR => ?_
    walk_at "rd"
    refine ⟨⟨_, q7⟩, ?_⟩
    refine hx _ _ _ _ a7 T.k_NoFraction_NoAnswer ⟨s2, hx _ _ _ _ a7 T.k_NoFraction_NoQuestion ⟨s2, s2, fun p7 hp7 => ?_⟩⟩
    have hq7 := ne_none q7 hp7
    have ha7 := ne_none a7 hp7
    have hr7 := ne_none r7 hp7
    generalize hM7 : ([.tup [.str "NoAnswer", .bl false], .tup [.str "NoQuestion", .bl false]] : List PV) = M7
    have m7 : M7.length = 2 := by rw [← hM7]; rfl
    refine ⟨L7, M7, (put_ne hq7).trans q7, rfl, small_size (by omega), ?_⟩
    have a8 : (put (put H7 p7 (.lst M7)) q (.lst (L7 ++ M7))) a = some (.exc t.a_NoFraction) := by rw [put_ne haq, put_ne ha7]; exact a7
    have r8 : (put (put H7 p7 (.lst M7)) q (.lst (L7 ++ M7))) r = some (.lst []) := by rw [put_ne hrq, put_ne hr7]; exact r7
    have q8 : (put (put H7 p7 (.lst M7)) q (.lst (L7 ++ M7))) q = some (.lst (L7 ++ M7)) := put_same
    have b8 : Sub H (put (put H7 p7 (.lst M7)) q (.lst (L7 ++ M7))) := (b7.put (b7.free hp7)).put nq
    generalize put (put H7 p7 (.lst M7)) q (.lst (L7 ++ M7)) = H8 at a8 r8 q8 b8 ⊢
    generalize hL8 : L7 ++ M7 = L8 at q8
    have l8 : L8.length = 17 := by rw [← hL8, List.length_append, l7, m7]
    subst hR
    refine seq_abs fun R9 hR => ?_
    walk_at "rd"
    refine ⟨⟨_, q8⟩, ?_⟩
    refine hx _ _ _ _ a8 T.k_NoFraction_NoFormula ⟨s2, hx _ _ _ _ a8 T.k_NoFraction_BadStep ⟨s2, s2, fun p8 hp8 => ?_⟩⟩
    have hq8 := ne_none q8 hp8
    have ha8 := ne_none a8 hp8
    have hr8 := ne_none r8 hp8
    generalize hM8 : ([.tup [.str "NoFormula", .bl false], .tup [.str "BadStep", .bl false]] : List PV) = M8
    have m8 : M8.length = 2 := by rw [← hM8]; rfl
    refine ⟨L8, M8, (put_ne hq8).trans q8, rfl, small_size (by omega), ?_⟩
    have a9 : (put (put H8 p8 (.lst M8)) q (.lst (L8 ++ M8))) a = some (.exc t.a_NoFraction) := by rw [put_ne haq, put_ne ha8]; exact a8
    have r9 : (put (put H8 p8 (.lst M8)) q (.lst (L8 ++ M8))) r = some (.lst []) := by rw [put_ne hrq, put_ne hr8]; exact r8
    have q9 : (put (put H8 p8 (.lst M8)) q (.lst (L8 ++ M8))) q = some (.lst (L8 ++ M8)) := put_same
    have b9 : Sub H (put (put H8 p8 (.lst M8)) q (.lst (L8 ++ M8))) := (b8.put (b8.free hp8)).put nq
    generalize put (put H8 p8 (.lst M8)) q (.lst (L8 ++ M8)) = H9 at a9 r9 q9 b9 ⊢
    generalize hL9 : L8 ++ M8 = L9 at q9
    have l9 : L9.length = 19 := by rw [← hL9, List.length_append, l8, m8]
    subst hR
    refine seq_abs fun R10 hR => ?_
    walk_at "rd"
    refine ⟨⟨_, q9⟩, ?_⟩
    refine hx _ _ _ _ a9 T.k_NoFraction_NoText ⟨s2, hx _ _ _ _ a9 T.k_NoFraction_ValueError ⟨s2, s2, fun p9 hp9 => ?_⟩⟩
    have hq9 := ne_none q9 hp9
    have ha9 := ne_none a9 hp9
    have hr9 := ne_none r9 hp9
    generalize hM9 : ([.tup [.str "NoText", .bl false], .tup [.str "other", .bl (!true)]] : List PV) = M9
    have m9 : M9.length = 2 := by rw [← hM9]; rfl
    refine ⟨L9, M9, (put_ne hq9).trans q9, rfl, small_size (by omega), ?_⟩
    have a10 : (put (put H9 p9 (.lst M9)) q (.lst (L9 ++ M9))) a = some (.exc t.a_NoFraction) := by rw [put_ne haq, put_ne ha9]; exact a9
    have r10 : (put (put H9 p9 (.lst M9)) q (.lst (L9 ++ M9))) r = some (.lst []) := by rw [put_ne hrq, put_ne hr9]; exact r9
    have q10 : (put (put H9 p9 (.lst M9)) q (.lst (L9 ++ M9))) q = some (.lst (L9 ++ M9)) := put_same
    have b10 : Sub H (put (put H9 p9 (.lst M9)) q (.lst (L9 ++ M9))) := (b9.put (b9.free hp9)).put nq
    generalize put (put H9 p9 (.lst M9)) q (.lst (L9 ++ M9)) = H10 at a10 r10 q10 b10 ⊢
    generalize hL10 : L9 ++ M9 = L10 at q10
    have l10 : L10.length = 21 := by rw [← hL10, List.length_append, l9, m9]
    subst hR
    subst hL10 hL9 hL8 hL7 hL6 hL5 hL4 hL3 hL2
    subst hL1
    subst hM1 hM2 hM3 hM4 hM5 hM6 hM7 hM8 hM9
    simp only [List.cons_append, List.nil_append] at q10
    refine seq_abs fun RR hR => ?_
    walk_at "rd"
    simp only [q10, Option.some.injEq, PO.lst.injEq, exists_eq_left']
    subst hR
    refine kinds_loop (xs := [("NoFraction", true), ("NoCount", false), ("NoTie", false), ("NoBow", false), ("NoName", false), ("NoSets", false), ("NoWorld", false), ("NoValue", false), ("NoShare", false), ("NoRoad", false), ("NoRule", false), ("BadPaper", false), ("NoNest", false), ("NoDoor", false), ("NoThinning", false), ("NoAnswer", false), ("NoQuestion", false), ("NoFormula", false), ("BadStep", false), ("NoText", false), ("other", (!true))]) hrq (fun H hb => (hb q (Ne.symm hrq)).trans q10) r10 (by decide) (fun H1 u v e1 e2 => ?_)
    walk_at "rd"
    refine ⟨put H r (.lst [.str "NoFraction"]), fun b o e => ?_, h r hr⟩
    by_cases hb : b = r
    · subst hb; rw [put_same] at e; rw [e1, ← e]; rfl
    · rw [put_ne hb] at e; rw [e2 b hb]; exact b10 b o e
  · exact h.elim

theorem G_greatest_divisor (T : Tx K mg t) : FnOk' P w K mg base CX0 1 t.a_greatest_divisor t.d_greatest_divisor ["a", "b"] sp_gdiv := by
  refine okU (k := 0) T.F_greatest_divisor sc_greatest_divisor (fun vs H Q E h => by
    unfold sp_gdiv at h
    split at h
    · rfl
    · exact h.elim) (fun cdv A outer s H E B hr => ⟨_, (qss_cons (qs_while PassesOwn.never (qt_cmp (op_neU hr.units) vr_eq (qv 1) qe_int (nomark _))
    (qss_cons (qs_set (i := 2) sc_greatest_divisor.nd rfl (by first | exact Or.inl rfl | exact Or.inr rfl) (qe_mod (qv 0) (qv 1)))
      (qss_cons (qs_set (i := 0) sc_greatest_divisor.nd rfl (by first | exact Or.inl rfl | exact Or.inr rfl) (qv 1))
      (qss_one (qs_set (i := 1) sc_greatest_divisor.nd rfl (by first | exact Or.inl rfl | exact Or.inr rfl) (qv 2))))))
    (qss_one (qs_ret (qv 0)))), ?_⟩)
  intro vs H Q E h
  unfold sp_gdiv at h
  split at h
  · rename_i a b
    obtain ⟨⟨ha, hb⟩, h⟩ := h
    walk_at "rd"
    refine while_by (fun m σ H' => ∃ x y r, σ = [some (.int x), some (.int y), r] ∧ H' = H ∧ (0 ≤ x ∧ 0 ≤ y ∧ My.gd x y = My.gd a b) ∧ m = y.natAbs) b.natAbs ⟨a, b, none, rfl, rfl, ⟨ha, hb, rfl⟩, rfl⟩ ?_
    rintro m σ H' ⟨x, y, r, rfl, rfl, ⟨hx, hy0, hg⟩, rfl⟩
    walk_at "rd"
    by_cases hy : y = 0
    · refine cif_neg (by simp [hy]) ⟨H', Sub.refl _, ?_⟩
      rw [← hg, hy, My.gd_zero, if_neg (by omega)] at h
      exact h
    · refine cif_pos (by simp [hy]) ?_
      exact ⟨_, fun σ' H' z => z, hy, _, My.fmod_abs x y hy, _, _, _, rfl, rfl, My.v_turn hg hy0 hy, rfl⟩
  · exact h.elim

theorem G_fraction (T : Tx K mg t) : FnOk' P w K mg base (CXU P w) 2 t.a_fraction t.d_fraction ["top", "bottom"] (sp_fraction t) := by
  refine okX (k := 1) T.F_fraction sc_fraction (fun vs H Q E h => by
    unfold sp_fraction at h
    split at h
    · rfl
    · exact h.elim) (fun cdv A outer s H0 E0 vs H Q E hr hE h => ⟨_, (qss_cons (qs_if (qt_cmp (op_eqU hr.units) vr_eq (qv 1) qe_int (nomark _))
    (qss_one (qs_raise rfl plain_cx hE rfl T.x_NoFraction rfl T.g_NoFraction))
    qss_nil)
    (qss_cons (qs_set (i := 2) sc_fraction.nd rfl (by first | exact Or.inl rfl | exact Or.inr rfl) (qe_call (G_greatest_divisor T) (hr.mono (by decide)) rfl T.g_greatest_divisor T.F_greatest_divisor.kp T.B_greatest_divisor (qa_cons (qe_callB call_abs vc_abs rfl T.b_abs boot_abs (qa_cons (qv 0) qa_nil)) (qa_cons (qe_callB call_abs vc_abs rfl T.b_abs boot_abs (qa_cons (qv 1) qa_nil)) qa_nil))))
    (qss_cons (qs_if (qt_cmp op_lt vr_lt (qv 1) qe_int (nomark _))
    (qss_one (qs_set (i := 2) sc_fraction.nd rfl (by first | exact Or.inl rfl | exact Or.inr rfl) (qe_neg (qv 2))))
    qss_nil)
    (qss_one (qs_ret (qe_tup (qa_cons (qe_fdiv (qv 0) (qv 2)) (qa_cons (qe_fdiv (qv 1) (qv 2)) qa_nil)))))))), ?_⟩)
  unfold sp_fraction at h
  split at h
  · rename_i a b
    obtain ⟨hb, h0, h1⟩ := h
    walk_at "rd"
    by_cases e : b = 0
    · exact cif_pos (by simp [e]) (h0 e)
    · refine cif_neg (by simp [e]) ?_
      have h1 := h1 e
      have g := My.gd_pos a b e
      have gf := gd_fit7 (a := a) hb e
      rw [My.gd_abs]
      refine ⟨⟨by split <;> omega, by split <;> omega⟩, ?_⟩
      unfold fg at h1
      by_cases lt : b < 0
      · refine cif_pos (by simpa using lt) ?_
        rw [if_pos lt] at h1
        have gf' : Fit (-My.gd a b) := by unfold Fit at gf ⊢; rw [Int.natAbs_neg]; exact gf
        try walk_at "rd"
        exact ⟨⟨by omega, gf'⟩, ⟨by omega, gf'⟩, small_size (by decide), H, Sub.refl _, h1⟩
      · refine cif_neg (by simpa using lt) ?_
        rw [if_neg lt] at h1
        try walk_at "rd"
        exact ⟨⟨by omega, gf⟩, ⟨by omega, gf⟩, small_size (by decide), H, Sub.refl _, h1⟩
  · exact h.elim

theorem G_plus (T : Tx K mg t) : FnOk' P w K mg base (CXU P w) 3 t.a_plus t.d_plus ["a", "b"] (sp_plus t) := by
  refine okX (k := 2) T.F_plus sc_plus (fun vs H Q E h => by
    unfold sp_plus at h
    split at h
    · rfl
    · exact h.elim) (fun cdv A outer s H0 E0 vs H Q E hr hE h => ⟨_, (qss_one (qs_ret (qe_callX rfl plain_cx hE (G_fraction T) (hr.mono (by decide)) rfl T.g_fraction T.F_fraction.kp T.B_fraction (qa_cons (qe_add (qe_mul (qe_ix (qv 0) qe_int (fun _ _ => rfl)) (qe_ix (qv 1) qe_int (fun _ _ => rfl))) (qe_mul (qe_ix (qv 1) qe_int (fun _ _ => rfl)) (qe_ix (qv 0) qe_int (fun _ _ => rfl)))) (qa_cons (qe_mul (qe_ix (qv 0) qe_int (fun _ _ => rfl)) (qe_ix (qv 1) qe_int (fun _ _ => rfl))) qa_nil))))), ?_⟩)
  unfold sp_plus at h
  split at h
  · rename_i a b c d
    obtain ⟨⟨h1, h2, h3, h4⟩, z0, z1⟩ := h
    have f1 := h1.fit (by decide)
    have f2 := h2.fit (by decide)
    have f3 := h3.fit (by decide)
    have f4 := h4.fit (by decide)
    walk_at "rd"
    exact ⟨.inr ⟨f1, f4⟩, .inr ⟨f3, f2⟩, .inr ⟨f2, f4⟩, (h2.mul h4).mono (by decide), z0, fun e => ⟨H, Sub.refl _, z1 e⟩⟩
  · exact h.elim

theorem G_minus (T : Tx K mg t) : FnOk' P w K mg base (CXU P w) 3 t.a_minus t.d_minus ["a", "b"] (sp_minus t) := by
  refine okX (k := 2) T.F_minus sc_minus (fun vs H Q E h => by
    unfold sp_minus at h
    split at h
    · rfl
    · exact h.elim) (fun cdv A outer s H0 E0 vs H Q E hr hE h => ⟨_, (qss_one (qs_ret (qe_callX rfl plain_cx hE (G_fraction T) (hr.mono (by decide)) rfl T.g_fraction T.F_fraction.kp T.B_fraction (qa_cons (qe_sub (qe_mul (qe_ix (qv 0) qe_int (fun _ _ => rfl)) (qe_ix (qv 1) qe_int (fun _ _ => rfl))) (qe_mul (qe_ix (qv 1) qe_int (fun _ _ => rfl)) (qe_ix (qv 0) qe_int (fun _ _ => rfl)))) (qa_cons (qe_mul (qe_ix (qv 0) qe_int (fun _ _ => rfl)) (qe_ix (qv 1) qe_int (fun _ _ => rfl))) qa_nil))))), ?_⟩)
  unfold sp_minus at h
  split at h
  · rename_i a b c d
    obtain ⟨⟨h1, h2, h3, h4⟩, z0, z1⟩ := h
    have f1 := h1.fit (by decide)
    have f2 := h2.fit (by decide)
    have f3 := h3.fit (by decide)
    have f4 := h4.fit (by decide)
    walk_at "rd"
    exact ⟨.inr ⟨f1, f4⟩, .inr ⟨f3, f2⟩, .inr ⟨f2, f4⟩, (h2.mul h4).mono (by decide), z0, fun e => ⟨H, Sub.refl _, z1 e⟩⟩
  · exact h.elim

theorem G_times (T : Tx K mg t) : FnOk' P w K mg base (CXU P w) 3 t.a_times t.d_times ["a", "b"] (sp_times t) := by
  refine okX (k := 2) T.F_times sc_times (fun vs H Q E h => by
    unfold sp_times at h
    split at h
    · rfl
    · exact h.elim) (fun cdv A outer s H0 E0 vs H Q E hr hE h => ⟨_, (qss_one (qs_ret (qe_callX rfl plain_cx hE (G_fraction T) (hr.mono (by decide)) rfl T.g_fraction T.F_fraction.kp T.B_fraction (qa_cons (qe_mul (qe_ix (qv 0) qe_int (fun _ _ => rfl)) (qe_ix (qv 1) qe_int (fun _ _ => rfl))) (qa_cons (qe_mul (qe_ix (qv 0) qe_int (fun _ _ => rfl)) (qe_ix (qv 1) qe_int (fun _ _ => rfl))) qa_nil))))), ?_⟩)
  unfold sp_times at h
  split at h
  · rename_i a b c d
    obtain ⟨⟨h1, h2, h3, h4⟩, z0, z1⟩ := h
    have f1 := h1.fit (by decide)
    have f2 := h2.fit (by decide)
    have f3 := h3.fit (by decide)
    have f4 := h4.fit (by decide)
    walk_at "rd"
    exact ⟨.inr ⟨f1, f3⟩, .inr ⟨f2, f4⟩, (h2.mul h4).mono (by decide), z0, fun e => ⟨H, Sub.refl _, z1 e⟩⟩
  · exact h.elim

theorem G_over (T : Tx K mg t) : FnOk' P w K mg base (CXU P w) 3 t.a_over t.d_over ["a", "b"] (sp_over t) := by
  refine okX (k := 2) T.F_over sc_over (fun vs H Q E h => by
    unfold sp_over at h
    split at h
    · rfl
    · exact h.elim) (fun cdv A outer s H0 E0 vs H Q E hr hE h => ⟨_, (qss_one (qs_ret (qe_callX rfl plain_cx hE (G_fraction T) (hr.mono (by decide)) rfl T.g_fraction T.F_fraction.kp T.B_fraction (qa_cons (qe_mul (qe_ix (qv 0) qe_int (fun _ _ => rfl)) (qe_ix (qv 1) qe_int (fun _ _ => rfl))) (qa_cons (qe_mul (qe_ix (qv 0) qe_int (fun _ _ => rfl)) (qe_ix (qv 1) qe_int (fun _ _ => rfl))) qa_nil))))), ?_⟩)
  unfold sp_over at h
  split at h
  · rename_i a b c d
    obtain ⟨⟨h1, h2, h3, h4⟩, z0, z1⟩ := h
    have f1 := h1.fit (by decide)
    have f2 := h2.fit (by decide)
    have f3 := h3.fit (by decide)
    have f4 := h4.fit (by decide)
    walk_at "rd"
    exact ⟨.inr ⟨f1, f4⟩, .inr ⟨f2, f3⟩, (h2.mul h3).mono (by decide), z0, fun e => ⟨H, Sub.refl _, z1 e⟩⟩
  · exact h.elim

theorem G_law_cell_at (T : Tx K mg t) : FnOk' P w K mg base CX0 1 t.a_law_cell_at t.d_law_cell_at ["_law_script", "_law_k"] sp_cell := by
  refine okU (k := 0) T.F_law_cell_at sc_law_cell_at (fun vs H Q E h => by
    unfold sp_cell at h
    split at h
    · rfl
    · exact h.elim) (fun cdv A outer s H E B hr => ⟨_, (qss_cons (qs_if (qt_cmp op_lt vr_lt (qv 1) (qe_callB call_len_seq vc_len rfl T.b_len PySem.boot_len (qa_cons (qv 0) qa_nil)) (nomark _))
    (qss_one (qs_ret (qe_ix (qv 0) (qv 1) (fun _ _ => rfl))))
    qss_nil)
    (qss_one (qs_ret qe_int))), ?_⟩)
  intro vs H Q E h
  unfold sp_cell at h
  split at h
  · rename_i l k
    obtain ⟨hk, h⟩ := h
    walk_at "rd"
    rw [List.getD_eq_getElem?_getD] at h
    by_cases lt : k < l.length
    · refine cif_pos (by simpa using lt) ?_
      have : k.toNat < l.length := by omega
      have e1 : atI l k = some l[k.toNat] := by
        unfold atI ixN
        rw [if_pos hk, if_pos lt]
        exact List.getElem?_eq_getElem this
      rw [List.getElem?_eq_getElem this] at h
      rw [e1]
      exact ⟨H, Sub.refl _, h⟩
    · refine cif_neg (by simpa using lt) ?_
      rw [List.getElem?_eq_none (by omega)] at h
      exact ⟨H, Sub.refl _, h⟩
  · exact h.elim

theorem G_law_whole (T : Tx K mg t) : FnOk' P w K mg base CX0 1 t.a_law_whole t.d_law_whole ["_law_found"] sp_whole := by
  refine okU (k := 0) T.F_law_whole sc_law_whole (fun vs H Q E h => by
    unfold sp_whole at h
    split at h
    · rfl
    · exact h.elim) (fun cdv A outer s H E B hr => ⟨_, (qss_one (qs_ret (qe_and (qe_callB (call_isiB .int) (vc_isi .int) rfl T.b_isinstance boot_isinstance (qa_cons (qv 0) (qa_cons (qe_bty rfl T.b_int boot_int) qa_nil))) (qe_one (qe_not (qe_callB (call_isiB .bool) (vc_isi .bool) rfl T.b_isinstance boot_isinstance (qa_cons (qv 0) (qa_cons (qe_bty rfl T.b_bool boot_bool) qa_nil)))))))), ?_⟩)
  intro vs H Q E h
  unfold sp_whole at h
  split at h
  · rename_i k
    walk_at "rd"
    exact ⟨H, Sub.refl _, h⟩
  · exact h.elim

theorem G_law_divisor (T : Tx K mg t) : FnOk' P w K mg base CX0 1 t.a_law_divisor t.d_law_divisor ["_law_one", "_law_other"] sp_divisor := by
  refine okU (k := 0) T.F_law_divisor sc_law_divisor (fun vs H Q E h => by
    unfold sp_divisor at h
    split at h
    · rfl
    · exact h.elim) (fun cdv A outer s H E B hr => ⟨_, (qss_cons (qs_while PassesOwn.never (qt_cmp (op_neU hr.units) vr_eq (qv 1) qe_int (nomark _))
    (qss_cons (qs_set (i := 2) sc_law_divisor.nd rfl (by first | exact Or.inl rfl | exact Or.inr rfl) (qe_mod (qv 0) (qv 1)))
      (qss_cons (qs_set (i := 0) sc_law_divisor.nd rfl (by first | exact Or.inl rfl | exact Or.inr rfl) (qv 1))
      (qss_one (qs_set (i := 1) sc_law_divisor.nd rfl (by first | exact Or.inl rfl | exact Or.inr rfl) (qv 2))))))
    (qss_one (qs_ret (qe_callB call_abs vc_abs rfl T.b_abs boot_abs (qa_cons (qv 0) qa_nil))))), ?_⟩)
  intro vs H Q E h
  unfold sp_divisor at h
  split at h
  · rename_i a b
    walk_at "rd"
    refine while_by (fun m σ H' => ∃ x y r, σ = [some (.int x), some (.int y), r] ∧ H' = H ∧ My.gd x y = My.gd a b ∧ m = y.natAbs) b.natAbs ⟨a, b, none, rfl, rfl, rfl, rfl⟩ ?_
    rintro m σ H' ⟨x, y, r, rfl, rfl, hg, rfl⟩
    walk_at "rd"
    by_cases hy : y = 0
    · refine cif_neg (by simp [hy]) ⟨H', Sub.refl _, ?_⟩
      rw [← hg, hy, My.gd_zero] at h
      exact h
    · refine cif_pos (by simp [hy]) ?_
      exact ⟨_, fun σ' H' z => z, hy, _, My.fmod_abs x y hy, _, _, _, rfl, rfl, (My.gd_turn x y).trans hg, rfl⟩
  · exact h.elim

theorem G_law_number (T : Tx K mg t) : FnOk' P w K mg base CX0 1 t.a_law_number t.d_law_number ["_law_cell"] sp_number := by
  refine okU (k := 0) T.F_law_number sc_law_number (fun vs H Q E h => by
    unfold sp_number at h
    split at h
    · rfl
    · exact h.elim) (fun cdv A outer s H E B hr => ⟨_, (qss_cons (qs_if (qt_cmp (op_eqU hr.units) vr_eq (qe_mod (qv 0) qe_int) qe_int (nomark _))
    (qss_one (qs_ret (qe_add (qe_sub (qe_mod (qe_mul (qe_fdiv (qv 0) qe_int) qe_int) (qe_sub (qe_mul qe_int (qe_pow qe_int qe_int)) qe_int)) (qe_pow qe_int qe_int)) qe_int)))
    qss_nil)
    (qss_cons (qs_if (qt_cmp (op_eqU hr.units) vr_eq (qe_mod (qv 0) qe_int) qe_int (nomark _))
    (qss_one (qs_ret (qe_sub (qe_mod (qe_fdiv (qv 0) qe_int) qe_int) qe_int)))
    qss_nil)
    (qss_one (qs_ret (qe_sub (qe_mod (qe_fdiv (qv 0) qe_int) qe_int) qe_int))))), ?_⟩)
  intro vs H Q E h
  unfold sp_number at h
  split at h
  · rename_i c
    walk_at "rd"
    refine ⟨by decide, ?_⟩
    unfold My.num at h
    by_cases e : c.fmod 4 = 0
    · rw [if_pos e] at h
      refine cif_pos (by simpa using e) ?_
      exact ⟨cdiv (by decide) (by decide +kernel), .inl (.inr ⟨by decide, by decide⟩), ⟨by decide, by decide, by decide⟩, .inl (.inl ⟨by decide, by decide⟩), by decide, ⟨by decide, by decide, by decide⟩, H, Sub.refl _, h⟩
    · rw [if_neg e] at h
      refine cif_neg (by simpa using e) ?_
      refine ⟨by decide, ?_⟩
      by_cases e2 : c.fmod 4 = 1
      · rw [if_pos e2] at h
        refine cif_pos (by simpa using e2) ?_
        exact ⟨cdiv (by decide) (by decide +kernel), by decide, H, Sub.refl _, h⟩
      · rw [if_neg e2] at h
        refine cif_neg (by simpa using e2) ?_
        exact ⟨cdiv (by decide) (by decide +kernel), by decide, H, Sub.refl _, h⟩
  · exact h.elim

theorem G_law_is_fraction (T : Tx K mg t) : FnOk' P w K mg base CX0 2 t.a_law_is_fraction t.d_law_is_fraction ["_law_found"] sp_isfrac := by
  refine okU (k := 1) T.F_law_is_fraction sc_law_is_fraction (fun vs H Q E h => by
    unfold sp_isfrac at h
    split at h
    · rfl
    · exact h.elim) (fun cdv A outer s H E B hr => ⟨_, (qss_cons (qs_if (qt_bool (qw_or (qt_not (qt_val (qe_callB (call_isiB .tuple) (vc_isi .tuple) rfl T.b_isinstance boot_isinstance (qa_cons (qv 0) (qa_cons (qe_bty rfl T.b_tuple boot_tuple) qa_nil))))) (qw_or (qt_cmp (op_neU hr.units) vr_eq (qe_callB call_len_seq vc_len rfl T.b_len PySem.boot_len (qa_cons (qv 0) qa_nil)) qe_int (nomark _)) (qw_or (qt_not (qt_val (qe_call (G_law_whole T) (hr.mono (by decide)) rfl T.g_law_whole T.F_law_whole.kp T.B_law_whole (qa_cons (qe_ix (qv 0) qe_int (fun _ _ => rfl)) qa_nil)))) (qw_or1 (qt_not (qt_val (qe_call (G_law_whole T) (hr.mono (by decide)) rfl T.g_law_whole T.F_law_whole.kp T.B_law_whole (qa_cons (qe_ix (qv 0) qe_int (fun _ _ => rfl)) qa_nil)))))))))
    (qss_one (qs_ret qe_bl))
    qss_nil)
    (qss_one (qs_ret (qe_and (qe_cmp op_gt vr_gt (qe_ix (qv 0) qe_int (fun _ _ => rfl)) qe_int (nomark _)) (qe_one (qe_cmp (op_eqU hr.units) vr_eq (qe_call (G_law_divisor T) (hr.mono (by decide)) rfl T.g_law_divisor T.F_law_divisor.kp T.B_law_divisor (qa_cons (qe_ix (qv 0) qe_int (fun _ _ => rfl)) (qa_cons (qe_ix (qv 0) qe_int (fun _ _ => rfl)) qa_nil))) qe_int (nomark _))))))), ?_⟩)
  intro vs H Q E h
  unfold sp_isfrac at h
  split at h
  · rename_i a b
    obtain ⟨⟨hb, hg⟩, h⟩ := h
    walk_at "rd"
    refine cif_neg (by decide) (cif_pos (by simpa using hb) ⟨H, Sub.refl _, ?_⟩)
    rw [hg]
    exact h
  · exact h.elim

theorem G_low0 (T : Tx K mg t) : FnOk' P w K mg base CX0 2 t.a_law_lowest t.d_law_lowest ["_law_top", "_law_bottom"] sp_low0 := by
  refine okU (k := 1) T.F_law_lowest sc_law_lowest (fun vs H Q E h => by
    unfold sp_low0 at h
    split at h
    · rfl
    · exact h.elim) (fun cdv A outer s H E B hr => ⟨_, (qss_cons (qs_if (qt_cmp op_lt vr_lt (qv 1) qe_int (nomark _))
    qss_never
    qss_nil)
    (qss_cons (qs_if (qt_cmp (op_eqU hr.units) vr_eq (qv 1) qe_int (nomark _))
    (qss_one (qs_set (i := 1) sc_law_lowest.nd rfl (by first | exact Or.inl rfl | exact Or.inr rfl) qe_int))
    qss_nil)
    (qss_cons (qs_set (i := 2) sc_law_lowest.nd rfl (by first | exact Or.inl rfl | exact Or.inr rfl) (qe_call (G_law_divisor T) (hr.mono (by decide)) rfl T.g_law_divisor T.F_law_divisor.kp T.B_law_divisor (qa_cons (qv 0) (qa_cons (qv 1) qa_nil))))
    (qss_one (qs_ret (qe_tup (qa_cons (qe_fdiv (qv 0) (qv 2)) (qa_cons (qe_fdiv (qv 1) (qv 2)) qa_nil)))))))), ?_⟩)
  intro vs H Q E h
  unfold sp_low0 at h
  split at h
  · rename_i a b
    obtain ⟨⟨h0, hb⟩, h⟩ := h
    walk_at "rd"
    refine cif_neg (by simp; omega) ?_
    unfold My.low0 frac at h
    by_cases e : b = 0
    · refine cif_pos (by simp [e]) ?_
      rw [if_pos e] at h
      have g := My.gd_pos a 1 (by decide)
      try walk_at "rd"
      exact ⟨⟨by omega, gd_fit one_bn (by decide)⟩, ⟨by omega, gd_fit one_bn (by decide)⟩, by decide, H, Sub.refl _, h⟩
    · refine cif_neg (by simp [e]) ?_
      rw [if_neg e] at h
      have g := My.gd_pos a b e
      try walk_at "rd"
      exact ⟨⟨by omega, gd_fit hb e⟩, ⟨by omega, gd_fit hb e⟩, by decide, H, Sub.refl _, h⟩
  · exact h.elim

theorem G_law_lowest (T : Tx K mg t) : FnOk' P w K mg base CX0 3 t.a_law_lowest t.d_law_lowest ["_law_top", "_law_bottom"] sp_lowest := by
  refine okU (k := 2) T.F_law_lowest sc_law_lowest (fun vs H Q E h => by
    unfold sp_lowest at h
    split at h
    · rfl
    · exact h.elim) (fun cdv A outer s H E B hr => ⟨_, (qss_cons (qs_if (qt_cmp op_lt vr_lt (qv 1) qe_int (nomark _))
    (qss_one (qs_ret (qe_call (G_low0 T) (hr.mono (by decide)) rfl T.g_law_lowest T.F_law_lowest.kp T.B_law_lowest (qa_cons (qe_sub qe_int (qv 0)) (qa_cons (qe_sub qe_int (qv 1)) qa_nil)))))
    qss_nil)
    (qss_cons (qs_if (qt_cmp (op_eqU hr.units) vr_eq (qv 1) qe_int (nomark _))
    (qss_one (qs_set (i := 1) sc_law_lowest.nd rfl (by first | exact Or.inl rfl | exact Or.inr rfl) qe_int))
    qss_nil)
    (qss_cons (qs_set (i := 2) sc_law_lowest.nd rfl (by first | exact Or.inl rfl | exact Or.inr rfl) (qe_call (G_law_divisor T) (hr.mono (by decide)) rfl T.g_law_divisor T.F_law_divisor.kp T.B_law_divisor (qa_cons (qv 0) (qa_cons (qv 1) qa_nil))))
    (qss_one (qs_ret (qe_tup (qa_cons (qe_fdiv (qv 0) (qv 2)) (qa_cons (qe_fdiv (qv 1) (qv 2)) qa_nil)))))))), ?_⟩)
  intro vs H Q E h
  unfold sp_lowest at h
  split at h
  · rename_i a b
    obtain ⟨hb, h⟩ := h
    walk_at "rd"
    unfold My.lowest at h
    by_cases lt : b < 0
    · refine cif_pos (by simpa using lt) ?_
      rw [if_pos lt] at h
      exact ⟨⟨by omega, hb.of_le (by omega)⟩, H, Sub.refl _, by rw [Int.zero_sub, Int.zero_sub]; exact h⟩
    · refine cif_neg (by simpa using lt) ?_
      rw [if_neg lt] at h
      unfold My.low0 frac at h
      by_cases e : b = 0
      · refine cif_pos (by simp [e]) ?_
        rw [if_pos e] at h
        have g := My.gd_pos a 1 (by decide)
        try walk_at "rd"
        exact ⟨⟨by omega, gd_fit one_bn (by decide)⟩, ⟨by omega, gd_fit one_bn (by decide)⟩, by decide, H, Sub.refl _, h⟩
      · refine cif_neg (by simp [e]) ?_
        rw [if_neg e] at h
        have g := My.gd_pos a b e
        try walk_at "rd"
        exact ⟨⟨by omega, gd_fit hb e⟩, ⟨by omega, gd_fit hb e⟩, by decide, H, Sub.refl _, h⟩
  · exact h.elim

theorem G_law_over (T : Tx K mg t) : FnOk' P w K mg base CX0 4 t.a_law_over t.d_law_over ["_law_one", "_law_two"] sp_lover := by
  refine okU (k := 3) T.F_law_over sc_law_over (fun vs H Q E h => by
    unfold sp_lover at h
    split at h
    · rfl
    · exact h.elim) (fun cdv A outer s H E B hr => ⟨_, (qss_cons (qs_set (i := 2) sc_law_over.nd rfl (by first | exact Or.inl rfl | exact Or.inr rfl) qe_non)
    (qss_cons (qs_set (i := 3) sc_law_over.nd rfl (by first | exact Or.inl rfl | exact Or.inr rfl) qe_non)
    (qss_cons (qs_try (i := 4) (j := 2) ⟨rfl, rfl, rfl⟩ sc_law_over.nd rfl rfl rfl rfl T.x_DoingError rfl T.g_DoingError
    (qxs_one (qx_set (i := 3) sc_law_over.nd rfl (Or.inl rfl) (px_call ⟨rfl, rfl, rfl⟩ (G_over T) (hr.mono (by decide)) rfl T.g_over T.F_over.kp T.B_over (qa_cons (qv 0) (qa_cons (qv 1) qa_nil))))))
    (qss_cons (qs_if (qt_cmp op_isN vr_isN (qv 2) qe_non (nomark _))
    (qss_one (qs_ret (qv 3)))
    qss_nil)
    (qss_one (qs_ret (qe_call (G_law_kinds T) (hr.mono (by decide)) rfl T.g_law_kinds T.F_law_kinds.kp T.B_law_kinds (qa_cons (qv 2) qa_nil)))))))), ?_⟩)
  intro vs H Q E h
  unfold sp_lover at h
  split at h
  · rename_i a b c d
    obtain ⟨hb, h0, h1⟩ := h
    walk_at "rd"
    refine ⟨hb, fun e => ⟨_, rfl, ⟨T.x_NoFraction, T.s_NoFraction⟩, fun x hx => ⟨_, "NoFraction", rfl, ⟨rfl, rfl⟩, fun r hr => ⟨_, Sub.refl _, h0 e r _ ?_ put_same⟩⟩⟩, fun e => ⟨H, Sub.refl _, h1 e⟩⟩
    have s1 : Sub H (put H x (.exc t.a_NoFraction)) := Sub.put (Sub.refl _) hx
    exact s1.put (s1.free hr)
  · exact h.elim

theorem G_law_is (T : Tx K mg t) : FnOk' P w K mg base CX0 3 t.a_law_is t.d_law_is ["_law_found", "_law_top", "_law_bottom"] sp_is := by
  refine okU (k := 2) T.F_law_is sc_law_is (fun vs H Q E h => by
    unfold sp_is at h
    split at h
    · rfl
    · exact h.elim) (fun cdv A outer s H E B hr => ⟨_, (qss_one (qs_ret (qe_and (qe_call (G_law_is_fraction T) (hr.mono (by decide)) rfl T.g_law_is_fraction T.F_law_is_fraction.kp T.B_law_is_fraction (qa_cons (qv 0) qa_nil)) (qe_one (qe_cmp (op_eqU hr.units) vr_eq (qe_mul (qe_ix (qv 0) qe_int (fun _ _ => rfl)) (qv 2)) (qe_mul (qv 1) (qe_ix (qv 0) qe_int (fun _ _ => rfl))) (nomark _)))))), ?_⟩)
  intro vs H Q E h
  unfold sp_is at h
  split at h
  · rename_i x y a b
    obtain ⟨⟨hb, he⟩, ⟨f1, f2, f3, f4⟩, h⟩ := h
    walk_at "rd"
    refine ⟨hb, .inr ⟨f1, f4⟩, .inr ⟨f3, f2⟩, H, Sub.refl _, ?_⟩
    rw [he, beq_self_eq_true]
    exact h
  · exact h.elim

theorem fr_is {a b : Int} (h1 : My.BN 700 a) (h2 : My.BN 700 b) (e : b ≠ 0) : ((0 < b.fdiv (fg a b) ∧ My.gd (a.fdiv (fg a b)) (b.fdiv (fg a b)) = 1) ∧ (a.fdiv (fg a b)) * b = a * b.fdiv (fg a b)) ∧ (Fit (a.fdiv (fg a b)) ∧ Fit (b.fdiv (fg a b)) ∧ Fit a ∧ Fit b) := by
  obtain ⟨lo, po⟩ := My.frac_ok (a := a) (b := b) (g := fg a b) e (by unfold fg; split <;> omega)
  exact ⟨⟨⟨po, lo.one⟩, lo.cross⟩, (h1.of_le (Low.le1 lo e)).fit (by decide), (h2.of_le (Low.le2 lo e)).fit (by decide), h1.fit (by decide), h2.fit (by decide)⟩

theorem G_law_right (T : Tx K mg t) : FnOk' P w K mg base CX0 5 t.a_law_right t.d_law_right ["_law_one", "_law_two"] sp_right := by
  refine okU (k := 4) T.F_law_right sc_law_right (fun vs H Q E h => by
    unfold sp_right at h
    split at h
    · rfl
    · exact h.elim) (fun cdv A outer s H E B hr => ⟨_, (qss_cons (qs_set (i := 2) sc_law_right.nd rfl (by first | exact Or.inl rfl | exact Or.inr rfl) (qe_mul (qe_ix (qv 0) qe_int (fun _ _ => rfl)) (qe_ix (qv 1) qe_int (fun _ _ => rfl))))
    (qss_cons (qs_if (qt_not (qt_val (qe_call (G_law_is T) (hr.mono (by decide)) rfl T.g_law_is T.F_law_is.kp T.B_law_is (qa_cons (qe_call (cx_no (G_plus T)) (hr.mono (by decide)) rfl T.g_plus T.F_plus.kp T.B_plus (qa_cons (qv 0) (qa_cons (qv 1) qa_nil))) (qa_cons (qe_add (qe_mul (qe_ix (qv 0) qe_int (fun _ _ => rfl)) (qe_ix (qv 1) qe_int (fun _ _ => rfl))) (qe_mul (qe_ix (qv 1) qe_int (fun _ _ => rfl)) (qe_ix (qv 0) qe_int (fun _ _ => rfl)))) (qa_cons (qv 2) qa_nil))))))
    (qss_one (qs_ret qe_bl))
    qss_nil)
    (qss_cons (qs_if (qt_not (qt_val (qe_call (G_law_is T) (hr.mono (by decide)) rfl T.g_law_is T.F_law_is.kp T.B_law_is (qa_cons (qe_call (cx_no (G_minus T)) (hr.mono (by decide)) rfl T.g_minus T.F_minus.kp T.B_minus (qa_cons (qv 0) (qa_cons (qv 1) qa_nil))) (qa_cons (qe_sub (qe_mul (qe_ix (qv 0) qe_int (fun _ _ => rfl)) (qe_ix (qv 1) qe_int (fun _ _ => rfl))) (qe_mul (qe_ix (qv 1) qe_int (fun _ _ => rfl)) (qe_ix (qv 0) qe_int (fun _ _ => rfl)))) (qa_cons (qv 2) qa_nil))))))
    (qss_one (qs_ret qe_bl))
    qss_nil)
    (qss_cons (qs_if (qt_not (qt_val (qe_call (G_law_is T) (hr.mono (by decide)) rfl T.g_law_is T.F_law_is.kp T.B_law_is (qa_cons (qe_call (cx_no (G_times T)) (hr.mono (by decide)) rfl T.g_times T.F_times.kp T.B_times (qa_cons (qv 0) (qa_cons (qv 1) qa_nil))) (qa_cons (qe_mul (qe_ix (qv 0) qe_int (fun _ _ => rfl)) (qe_ix (qv 1) qe_int (fun _ _ => rfl))) (qa_cons (qv 2) qa_nil))))))
    (qss_one (qs_ret qe_bl))
    qss_nil)
    (qss_cons (qs_set (i := 3) sc_law_right.nd rfl (by first | exact Or.inl rfl | exact Or.inr rfl) (qe_call (G_law_over T) (hr.mono (by decide)) rfl T.g_law_over T.F_law_over.kp T.B_law_over (qa_cons (qv 0) (qa_cons (qv 1) qa_nil))))
    (qss_cons (qs_if (qt_cmp (op_eqU hr.units) vr_eq (qe_ix (qv 1) qe_int (fun _ _ => rfl)) qe_int (nomark _))
    (qss_one (qs_ret (qe_cmp (op_eqU hr.units) vr_eq (qv 3) (qe_lst (qa_cons qe_str qa_nil)) (nomark _))))
    qss_nil)
    (qss_one (qs_ret (qe_call (G_law_is T) (hr.mono (by decide)) rfl T.g_law_is T.F_law_is.kp T.B_law_is (qa_cons (qv 3) (qa_cons (qe_mul (qe_ix (qv 0) qe_int (fun _ _ => rfl)) (qe_ix (qv 1) qe_int (fun _ _ => rfl))) (qa_cons (qe_mul (qe_ix (qv 0) qe_int (fun _ _ => rfl)) (qe_ix (qv 1) qe_int (fun _ _ => rfl))) qa_nil)))))))))))), ?_⟩)
  intro vs H Q E h
  unfold sp_right at h
  split at h
  · rename_i a b c d
    obtain ⟨hh, ⟨b0, d0⟩, h⟩ := h
    obtain ⟨h1, h2, h3, h4⟩ := id hh
    have f1 := h1.fit (by decide)
    have f2 := h2.fit (by decide)
    have f3 := h3.fit (by decide)
    have f4 := h4.fit (by decide)
    have bd : b * d ≠ 0 := Int.mul_ne_zero (by omega) (by omega)
    have t1 := (h1.mul h4).add (h3.mul h2)
    have t2 := (h1.mul h4).sub (h3.mul h2)
    have t3 := h1.mul h3
    have t4 := h2.mul h4
    have t5 := h1.mul h4
    have t6 := h2.mul h3
    obtain ⟨p1, p2⟩ := fr_is (t1.mono (by decide)) (t4.mono (by decide)) bd
    obtain ⟨q1, q2⟩ := fr_is (t2.mono (by decide)) (t4.mono (by decide)) bd
    obtain ⟨r1, r2⟩ := fr_is (t3.mono (by decide)) (t4.mono (by decide)) bd
    refine seq_abs fun R hR => ?_
    walk_at "rd"
    refine ⟨.inr ⟨f2, f4⟩, ?_⟩; subst hR
    refine seq_abs fun R hR => ?_
    walk_at "rd"
    refine ⟨hh, fun z => absurd z bd, fun _ => ⟨.inr ⟨f1, f4⟩, .inr ⟨f3, f2⟩, p1, p2, ?_⟩⟩
    subst hR
    refine seq_abs fun R hR => ?_
    walk_at "rd"
    refine ⟨hh, fun z => absurd z bd, fun _ => ⟨.inr ⟨f1, f4⟩, .inr ⟨f3, f2⟩, q1, q2, ?_⟩⟩
    subst hR
    refine seq_abs fun R hR => ?_
    walk_at "rd"
    refine ⟨hh, fun z => absurd z bd, fun _ => ⟨.inr ⟨f1, f3⟩, r1, r2, ?_⟩⟩
    subst hR
    refine seq_abs fun R hR => ?_
    walk_at "rd"
    refine ⟨hh, fun e r H1 s1 hr => ?_, fun e => ?_⟩
    · subst hR
      have c0 : c = 0 := (Int.mul_eq_zero.mp e).resolve_left (by omega)
      walk_at "rd"
      refine cif_pos (by simpa using c0) ⟨small_size (by decide), fun p hp => ⟨_, (put_ne (ne_none hr hp)).trans hr, by decide, H, ?_, h⟩⟩
      exact s1.put (s1.free hp)
    · subst hR
      have c0 : c ≠ 0 := by rintro rfl; exact e (Int.mul_zero b)
      obtain ⟨u1, u2⟩ := fr_is (t5.mono (by decide)) (t6.mono (by decide)) e
      walk_at "rd"
      refine cif_neg (by simpa using c0) ?_
      exact ⟨.inr ⟨f1, f4⟩, .inr ⟨f2, f3⟩, u1, u2, H, Sub.refl _, h⟩
  · exact h.elim

theorem cell_num {ns : List Int} {i : Nat} : (ns.map PV.int).getD i (.int 0) = .int (ns.getD i 0) := by
  rw [List.getD_eq_getElem?_getD, List.getD_eq_getElem?_getD, List.getElem?_map]
  cases ns[i]? <;> rfl

theorem at4_0 {x y z w : PV} : atI [x, y, z, w] 0 = some x := rfl
theorem at4_1 {x y z w : PV} : atI [x, y, z, w] 1 = some y := rfl
theorem at4_2 {x y z w : PV} : atI [x, y, z, w] 2 = some z := rfl
theorem at4_3 {x y z w : PV} : atI [x, y, z, w] 3 = some w := rfl

theorem G_law (T : Tx K mg t) : FnOk' P w K mg base CX0 6 t.a_law t.d_law ["_law_script"] spL := by
  refine okU (k := 5) T.F_law sc_law (fun vs H Q E h => by
    unfold spL at h
    split at h
    · rfl
    · exact h.elim) (fun cdv A outer s H E B hr => ⟨_, (qss_cons (qs_for PassesOwn.never rfl (qi_range1 rfl T.b_range (qa_cons qe_int qa_nil)) (qg_name (i := 1) sc_law.nd rfl (by first | exact Or.inl rfl | exact Or.inr rfl))
    (qss_cons (qs_setC (i := 2) sc_law.nd rfl (by first | exact Or.inl rfl | exact Or.inr rfl) (N2 := ["_law_j", "_law_script", "_law_k"]) (nt := 1) (js := [0, 1]) (cok (sc := defScope s_law) (by exact rfl) (by repeat (first | exact trivial | refine ⟨rfl, ?_⟩)) rfl (by rfl) (by decide +kernel) (by decide +kernel) (by rfl) (by decide +kernel) (by rfl) (by rfl)) rfl (qi_range1 rfl T.b_range (qa_cons qe_int qa_nil)) (fun s0 H0 fp ps => ⟨(qg_name (i := 0) (show List.Nodup (["_law_j", "_law_script", "_law_k"] : List Str) by decide +kernel) rfl (by first | exact Or.inl rfl | exact Or.inr rfl)), qif_nil, (qe_call (G_law_number T) (hr.mono (by decide)) rfl T.g_law_number T.F_law_number.kp T.B_law_number (qa_cons (qe_call (G_law_cell_at T) (hr.mono (by decide)) rfl T.g_law_cell_at T.F_law_cell_at.kp T.B_law_cell_at (qa_cons (qv 1) (qa_cons (qe_add (qe_mul qe_int (qv 2)) (qv 0)) qa_nil))) qa_nil))⟩))
      (qss_one (qs_if (qt_not (qt_val (qe_call (G_law_right T) (hr.mono (by decide)) rfl T.g_law_right T.F_law_right.kp T.B_law_right (qa_cons (qe_call (G_law_lowest T) (hr.mono (by decide)) rfl T.g_law_lowest T.F_law_lowest.kp T.B_law_lowest (qa_cons (qe_ix (qv 2) qe_int (fun _ _ => rfl)) (qa_cons (qe_ix (qv 2) qe_int (fun _ _ => rfl)) qa_nil))) (qa_cons (qe_call (G_law_lowest T) (hr.mono (by decide)) rfl T.g_law_lowest T.F_law_lowest.kp T.B_law_lowest (qa_cons (qe_ix (qv 2) qe_int (fun _ _ => rfl)) (qa_cons (qe_ix (qv 2) qe_int (fun _ _ => rfl)) qa_nil))) qa_nil)))))
      (qss_one (qs_ret qe_bl))
      qss_nil))))
    (qss_one (qs_ret qe_bl))), ?_⟩)
  intro vs H Q E h
  unfold spL at h
  split at h
  · rename_i l
    obtain ⟨ns, rfl, hl, h⟩ := h
    walk_at "rd"
    refine ⟨by decide, ?_⟩
    refine for_rng (fun i σ H2 => ∃ a b, σ = [some (.fls (ns.map PV.int)), a, b] ∧ Sub H H2) ?_ ?_ ⟨none, none, rfl, Sub.refl _⟩
    · rintro σ H2 ⟨a, b, rfl, sb⟩
      exact ⟨trivial, H, sb, h⟩
    · rintro G i σ H2 hi ⟨a, b, rfl, sb⟩ k
      refine ⟨trivial, ?_⟩
      have m2 : CMulN 4 (i : Int) := .inl (.inl ⟨by decide, by decide⟩)
      simp only [vName, List.set_cons_zero, List.set_cons_succ, Int.zero_add]
      refine seq_abs fun R hR => ?_
      walk_at "rd"
      refine ⟨by decide, fun p hp => ?_⟩
      have hq : put H2 p (.lst []) p = some (.lst []) := put_same
      have s0 : Sub H (put H2 p (.lst [])) := sb.put (sb.free hp)
      generalize put H2 p (.lst []) = H3 at hq s0 ⊢
      have step : ∀ (x : Int) (r l : List PV) (o : Option PV) (H4 : PHp) (Q : VK') , 0 ≤ x → H4 p = some (.lst l) → l.length < 100 → (∀ (o : Option PV) (H5 : PHp), H5 p = some (.lst (l ++ [.int (My.num (ns.getD (4 * (i : Int) + x).toNat 0))])) → (∀ b, b ≠ p → H5 b = H4 b) → uCompL (fun _ => True) (vName 0) uYes (uCall sp_number X0 (uCons (uCall sp_cell X0 (uCons (uVar 1) (uCons (uOp uAdd (uOp uMul (uC (PV.int 4)) (uVar 2)) (uVar 0)) uNil))) uNil)) p Q r [o, some (.fls (ns.map PV.int)), some (.int (i : Int))] H5) →
          uCompL (fun _ => True) (vName 0) uYes (uCall sp_number X0 (uCons (uCall sp_cell X0 (uCons (uVar 1) (uCons (uOp uAdd (uOp uMul (uC (PV.int 4)) (uVar 2)) (uVar 0)) uNil))) uNil)) p Q (.int x :: r) [o, some (.fls (ns.map PV.int)), some (.int (i : Int))] H4 := by
        intro x r l o H4 Q hx he hl hk
        simp only [w_cc]
        walk_at "rd"; simp only [cell_num]; walk_at "rd"
        refine ⟨m2, by omega, l, he, small1000 (by omega), ?_⟩
        exact hk _ _ put_same (fun b hb => put_ne hb)
      rw [rng4]
      refine step 0 _ [] none H3 _ (by decide) hq (by decide) fun o1 H4 e1 g1 => ?_
      refine step 1 _ _ o1 H4 _ (by decide) e1 (by simp) fun o2 H5 e2 g2 => ?_
      refine step 2 _ _ o2 H5 _ (by decide) e2 (by simp) fun o3 H6 e3 g3 => ?_
      refine step 3 _ _ o3 H6 _ (by decide) e3 (by simp) fun o4 H7 e4 g4 => ?_
      simp only [w_co]
      refine ⟨trivial, ?_⟩
      have s7 : Sub H H7 := fun b o e => by
        have hb : b ≠ p := by rintro rfl; exact absurd e (by rw [sb.free hp]; simp)
        rw [g4 b hb, g3 b hb, g2 b hb, g1 b hb]
        exact s0 b o e
      simp only [List.nil_append, List.cons_append] at e4
      have b1 := num_bn3 (ns.getD (4 * (i : Int) + 0).toNat 0)
      have b2 := num_bn3 (ns.getD (4 * (i : Int) + 1).toNat 0)
      have b3 := num_bn3 (ns.getD (4 * (i : Int) + 2).toNat 0)
      have b4 := num_bn3 (ns.getD (4 * (i : Int) + 3).toNat 0)
      generalize My.num (ns.getD (4 * (i : Int) + 0).toNat 0) = n1 at *
      generalize My.num (ns.getD (4 * (i : Int) + 1).toNat 0) = n2 at *
      generalize My.num (ns.getD (4 * (i : Int) + 2).toNat 0) = n3 at *
      generalize My.num (ns.getD (4 * (i : Int) + 3).toNat 0) = n4 at *
      subst hR
      have c1 := My.lowest_bn b1 b2 (by decide)
      have c2 := My.lowest_bn b3 b4 (by decide)
      have d1 := My.lowest_ok n1 n2
      have d2 := My.lowest_ok n3 n4
      repeat (first | (simp only [e4, at4_0, at4_1, at4_2, at4_3]) | walk_at "rd")
      refine ⟨b2, b4, ⟨c1.1, c1.2, c2.1, c2.2⟩, ⟨d1.1, d2.1⟩, ?_⟩
      exact k _ _ ⟨_, _, rfl, s7⟩
  · exact h.elim

end

theorem txt_mk {K : PySem.W.Frag} {h : Heap} {mg : Str → Option Value} {f_greatest_divisor f_fraction f_plus f_minus f_times f_over f_law_cell_at f_law_whole f_law_divisor f_law_is_fraction f_law_number f_law_lowest f_law_kinds f_law_over f_law_is f_law_right f_law k_BadPaper k_BadStep k_DoingError k_NoAnswer k_NoBow k_NoCount k_NoDoor k_NoFormula k_NoFraction k_NoName k_NoNest k_NoQuestion k_NoRoad k_NoRule k_NoSets k_NoShare k_NoText k_NoThinning k_NoTie k_NoValue k_NoWorld : Addr} (X : K.In h) (G : h.Ns mainGlobals mg)
    {od_greatest_divisor an_greatest_divisor od_fraction an_fraction od_plus an_plus od_minus an_minus od_times an_times od_over an_over od_law_cell_at an_law_cell_at od_law_whole an_law_whole od_law_divisor an_law_divisor od_law_is_fraction an_law_is_fraction od_law_number an_law_number od_law_lowest an_law_lowest od_law_kinds an_law_kinds od_law_over an_law_over od_law_is an_law_is od_law_right an_law_right od_law an_law : Option Addr} {sl_greatest_divisor sl_fraction sl_plus sl_minus sl_times sl_over sl_law_cell_at sl_law_whole sl_law_divisor sl_law_is_fraction sl_law_number sl_law_lowest sl_law_kinds sl_law_over sl_law_is sl_law_right sl_law : Array (Option Value)} {oc_greatest_divisor kV_greatest_divisor dc_greatest_divisor pm_greatest_divisor cd_greatest_divisor ct_greatest_divisor oc_fraction kV_fraction dc_fraction pm_fraction cd_fraction ct_fraction oc_plus kV_plus dc_plus pm_plus cd_plus ct_plus oc_minus kV_minus dc_minus pm_minus cd_minus ct_minus oc_times kV_times dc_times pm_times cd_times ct_times oc_over kV_over dc_over pm_over cd_over ct_over oc_law_cell_at kV_law_cell_at dc_law_cell_at pm_law_cell_at cd_law_cell_at ct_law_cell_at oc_law_whole kV_law_whole dc_law_whole pm_law_whole cd_law_whole ct_law_whole oc_law_divisor kV_law_divisor dc_law_divisor pm_law_divisor cd_law_divisor ct_law_divisor oc_law_is_fraction kV_law_is_fraction dc_law_is_fraction pm_law_is_fraction cd_law_is_fraction ct_law_is_fraction oc_law_number kV_law_number dc_law_number pm_law_number cd_law_number ct_law_number oc_law_lowest kV_law_lowest dc_law_lowest pm_law_lowest cd_law_lowest ct_law_lowest oc_law_kinds kV_law_kinds dc_law_kinds pm_law_kinds cd_law_kinds ct_law_kinds oc_law_over kV_law_over dc_law_over pm_law_over cd_law_over ct_law_over oc_law_is kV_law_is dc_law_is pm_law_is cd_law_is ct_law_is oc_law_right kV_law_right dc_law_right pm_law_right cd_law_right ct_law_right oc_law kV_law dc_law pm_law cd_law ct_law : Value}
    (C_BadPaper : PySem.W.nsIn K mainGlobals "BadPaper" = some (some (.ref k_BadPaper)))
    (C_BadStep : PySem.W.nsIn K mainGlobals "BadStep" = some (some (.ref k_BadStep)))
    (C_DoingError : PySem.W.nsIn K mainGlobals "DoingError" = some (some (.ref k_DoingError)))
    (C_NoAnswer : PySem.W.nsIn K mainGlobals "NoAnswer" = some (some (.ref k_NoAnswer)))
    (C_NoBow : PySem.W.nsIn K mainGlobals "NoBow" = some (some (.ref k_NoBow)))
    (C_NoCount : PySem.W.nsIn K mainGlobals "NoCount" = some (some (.ref k_NoCount)))
    (C_NoDoor : PySem.W.nsIn K mainGlobals "NoDoor" = some (some (.ref k_NoDoor)))
    (C_NoFormula : PySem.W.nsIn K mainGlobals "NoFormula" = some (some (.ref k_NoFormula)))
    (C_NoFraction : PySem.W.nsIn K mainGlobals "NoFraction" = some (some (.ref k_NoFraction)))
    (C_NoName : PySem.W.nsIn K mainGlobals "NoName" = some (some (.ref k_NoName)))
    (C_NoNest : PySem.W.nsIn K mainGlobals "NoNest" = some (some (.ref k_NoNest)))
    (C_NoQuestion : PySem.W.nsIn K mainGlobals "NoQuestion" = some (some (.ref k_NoQuestion)))
    (C_NoRoad : PySem.W.nsIn K mainGlobals "NoRoad" = some (some (.ref k_NoRoad)))
    (C_NoRule : PySem.W.nsIn K mainGlobals "NoRule" = some (some (.ref k_NoRule)))
    (C_NoSets : PySem.W.nsIn K mainGlobals "NoSets" = some (some (.ref k_NoSets)))
    (C_NoShare : PySem.W.nsIn K mainGlobals "NoShare" = some (some (.ref k_NoShare)))
    (C_NoText : PySem.W.nsIn K mainGlobals "NoText" = some (some (.ref k_NoText)))
    (C_NoThinning : PySem.W.nsIn K mainGlobals "NoThinning" = some (some (.ref k_NoThinning)))
    (C_NoTie : PySem.W.nsIn K mainGlobals "NoTie" = some (some (.ref k_NoTie)))
    (C_NoValue : PySem.W.nsIn K mainGlobals "NoValue" = some (some (.ref k_NoValue)))
    (C_NoWorld : PySem.W.nsIn K mainGlobals "NoWorld" = some (some (.ref k_NoWorld)))
    (a_greatest_divisor : PySem.W.nsIn K mainGlobals "greatest_divisor" = some (some (.ref f_greatest_divisor)))
    (l_greatest_divisor : K.lookup f_greatest_divisor = some ⟨oc_greatest_divisor, od_greatest_divisor, .func (PySem.W.fnOf "greatest_divisor" "greatest_divisor" (defArgs s_greatest_divisor) (defBody s_greatest_divisor) (defScope s_greatest_divisor) .none kV_greatest_divisor dc_greatest_divisor pm_greatest_divisor an_greatest_divisor cd_greatest_divisor ct_greatest_divisor), sl_greatest_divisor⟩)
    (c_greatest_divisor : PySem.W.codeIn K cd_greatest_divisor "greatest_divisor" = true)
    (k_greatest_divisor : PySem.W.keepIn K (.ref f_greatest_divisor) = true)
    (a_fraction : PySem.W.nsIn K mainGlobals "fraction" = some (some (.ref f_fraction)))
    (l_fraction : K.lookup f_fraction = some ⟨oc_fraction, od_fraction, .func (PySem.W.fnOf "fraction" "fraction" (defArgs s_fraction) (defBody s_fraction) (defScope s_fraction) .none kV_fraction dc_fraction pm_fraction an_fraction cd_fraction ct_fraction), sl_fraction⟩)
    (c_fraction : PySem.W.codeIn K cd_fraction "fraction" = true)
    (k_fraction : PySem.W.keepIn K (.ref f_fraction) = true)
    (a_plus : PySem.W.nsIn K mainGlobals "plus" = some (some (.ref f_plus)))
    (l_plus : K.lookup f_plus = some ⟨oc_plus, od_plus, .func (PySem.W.fnOf "plus" "plus" (defArgs s_plus) (defBody s_plus) (defScope s_plus) .none kV_plus dc_plus pm_plus an_plus cd_plus ct_plus), sl_plus⟩)
    (c_plus : PySem.W.codeIn K cd_plus "plus" = true)
    (k_plus : PySem.W.keepIn K (.ref f_plus) = true)
    (a_minus : PySem.W.nsIn K mainGlobals "minus" = some (some (.ref f_minus)))
    (l_minus : K.lookup f_minus = some ⟨oc_minus, od_minus, .func (PySem.W.fnOf "minus" "minus" (defArgs s_minus) (defBody s_minus) (defScope s_minus) .none kV_minus dc_minus pm_minus an_minus cd_minus ct_minus), sl_minus⟩)
    (c_minus : PySem.W.codeIn K cd_minus "minus" = true)
    (k_minus : PySem.W.keepIn K (.ref f_minus) = true)
    (a_times : PySem.W.nsIn K mainGlobals "times" = some (some (.ref f_times)))
    (l_times : K.lookup f_times = some ⟨oc_times, od_times, .func (PySem.W.fnOf "times" "times" (defArgs s_times) (defBody s_times) (defScope s_times) .none kV_times dc_times pm_times an_times cd_times ct_times), sl_times⟩)
    (c_times : PySem.W.codeIn K cd_times "times" = true)
    (k_times : PySem.W.keepIn K (.ref f_times) = true)
    (a_over : PySem.W.nsIn K mainGlobals "over" = some (some (.ref f_over)))
    (l_over : K.lookup f_over = some ⟨oc_over, od_over, .func (PySem.W.fnOf "over" "over" (defArgs s_over) (defBody s_over) (defScope s_over) .none kV_over dc_over pm_over an_over cd_over ct_over), sl_over⟩)
    (c_over : PySem.W.codeIn K cd_over "over" = true)
    (k_over : PySem.W.keepIn K (.ref f_over) = true)
    (a_law_cell_at : PySem.W.nsIn K mainGlobals "_law_cell_at" = some (some (.ref f_law_cell_at)))
    (l_law_cell_at : K.lookup f_law_cell_at = some ⟨oc_law_cell_at, od_law_cell_at, .func (PySem.W.fnOf "_law_cell_at" "_law_cell_at" (defArgs s_law_cell_at) (defBody s_law_cell_at) (defScope s_law_cell_at) .none kV_law_cell_at dc_law_cell_at pm_law_cell_at an_law_cell_at cd_law_cell_at ct_law_cell_at), sl_law_cell_at⟩)
    (c_law_cell_at : PySem.W.codeIn K cd_law_cell_at "_law_cell_at" = true)
    (k_law_cell_at : PySem.W.keepIn K (.ref f_law_cell_at) = true)
    (a_law_whole : PySem.W.nsIn K mainGlobals "_law_whole" = some (some (.ref f_law_whole)))
    (l_law_whole : K.lookup f_law_whole = some ⟨oc_law_whole, od_law_whole, .func (PySem.W.fnOf "_law_whole" "_law_whole" (defArgs s_law_whole) (defBody s_law_whole) (defScope s_law_whole) .none kV_law_whole dc_law_whole pm_law_whole an_law_whole cd_law_whole ct_law_whole), sl_law_whole⟩)
    (c_law_whole : PySem.W.codeIn K cd_law_whole "_law_whole" = true)
    (k_law_whole : PySem.W.keepIn K (.ref f_law_whole) = true)
    (a_law_divisor : PySem.W.nsIn K mainGlobals "_law_divisor" = some (some (.ref f_law_divisor)))
    (l_law_divisor : K.lookup f_law_divisor = some ⟨oc_law_divisor, od_law_divisor, .func (PySem.W.fnOf "_law_divisor" "_law_divisor" (defArgs s_law_divisor) (defBody s_law_divisor) (defScope s_law_divisor) .none kV_law_divisor dc_law_divisor pm_law_divisor an_law_divisor cd_law_divisor ct_law_divisor), sl_law_divisor⟩)
    (c_law_divisor : PySem.W.codeIn K cd_law_divisor "_law_divisor" = true)
    (k_law_divisor : PySem.W.keepIn K (.ref f_law_divisor) = true)
    (a_law_is_fraction : PySem.W.nsIn K mainGlobals "_law_is_fraction" = some (some (.ref f_law_is_fraction)))
    (l_law_is_fraction : K.lookup f_law_is_fraction = some ⟨oc_law_is_fraction, od_law_is_fraction, .func (PySem.W.fnOf "_law_is_fraction" "_law_is_fraction" (defArgs s_law_is_fraction) (defBody s_law_is_fraction) (defScope s_law_is_fraction) .none kV_law_is_fraction dc_law_is_fraction pm_law_is_fraction an_law_is_fraction cd_law_is_fraction ct_law_is_fraction), sl_law_is_fraction⟩)
    (c_law_is_fraction : PySem.W.codeIn K cd_law_is_fraction "_law_is_fraction" = true)
    (k_law_is_fraction : PySem.W.keepIn K (.ref f_law_is_fraction) = true)
    (a_law_number : PySem.W.nsIn K mainGlobals "_law_number" = some (some (.ref f_law_number)))
    (l_law_number : K.lookup f_law_number = some ⟨oc_law_number, od_law_number, .func (PySem.W.fnOf "_law_number" "_law_number" (defArgs s_law_number) (defBody s_law_number) (defScope s_law_number) .none kV_law_number dc_law_number pm_law_number an_law_number cd_law_number ct_law_number), sl_law_number⟩)
    (c_law_number : PySem.W.codeIn K cd_law_number "_law_number" = true)
    (k_law_number : PySem.W.keepIn K (.ref f_law_number) = true)
    (a_law_lowest : PySem.W.nsIn K mainGlobals "_law_lowest" = some (some (.ref f_law_lowest)))
    (l_law_lowest : K.lookup f_law_lowest = some ⟨oc_law_lowest, od_law_lowest, .func (PySem.W.fnOf "_law_lowest" "_law_lowest" (defArgs s_law_lowest) (defBody s_law_lowest) (defScope s_law_lowest) .none kV_law_lowest dc_law_lowest pm_law_lowest an_law_lowest cd_law_lowest ct_law_lowest), sl_law_lowest⟩)
    (c_law_lowest : PySem.W.codeIn K cd_law_lowest "_law_lowest" = true)
    (k_law_lowest : PySem.W.keepIn K (.ref f_law_lowest) = true)
    (a_law_kinds : PySem.W.nsIn K mainGlobals "_law_kinds" = some (some (.ref f_law_kinds)))
    (l_law_kinds : K.lookup f_law_kinds = some ⟨oc_law_kinds, od_law_kinds, .func (PySem.W.fnOf "_law_kinds" "_law_kinds" (defArgs s_law_kinds) (defBody s_law_kinds) (defScope s_law_kinds) .none kV_law_kinds dc_law_kinds pm_law_kinds an_law_kinds cd_law_kinds ct_law_kinds), sl_law_kinds⟩)
    (c_law_kinds : PySem.W.codeIn K cd_law_kinds "_law_kinds" = true)
    (k_law_kinds : PySem.W.keepIn K (.ref f_law_kinds) = true)
    (a_law_over : PySem.W.nsIn K mainGlobals "_law_over" = some (some (.ref f_law_over)))
    (l_law_over : K.lookup f_law_over = some ⟨oc_law_over, od_law_over, .func (PySem.W.fnOf "_law_over" "_law_over" (defArgs s_law_over) (defBody s_law_over) (defScope s_law_over) .none kV_law_over dc_law_over pm_law_over an_law_over cd_law_over ct_law_over), sl_law_over⟩)
    (c_law_over : PySem.W.codeIn K cd_law_over "_law_over" = true)
    (k_law_over : PySem.W.keepIn K (.ref f_law_over) = true)
    (a_law_is : PySem.W.nsIn K mainGlobals "_law_is" = some (some (.ref f_law_is)))
    (l_law_is : K.lookup f_law_is = some ⟨oc_law_is, od_law_is, .func (PySem.W.fnOf "_law_is" "_law_is" (defArgs s_law_is) (defBody s_law_is) (defScope s_law_is) .none kV_law_is dc_law_is pm_law_is an_law_is cd_law_is ct_law_is), sl_law_is⟩)
    (c_law_is : PySem.W.codeIn K cd_law_is "_law_is" = true)
    (k_law_is : PySem.W.keepIn K (.ref f_law_is) = true)
    (a_law_right : PySem.W.nsIn K mainGlobals "_law_right" = some (some (.ref f_law_right)))
    (l_law_right : K.lookup f_law_right = some ⟨oc_law_right, od_law_right, .func (PySem.W.fnOf "_law_right" "_law_right" (defArgs s_law_right) (defBody s_law_right) (defScope s_law_right) .none kV_law_right dc_law_right pm_law_right an_law_right cd_law_right ct_law_right), sl_law_right⟩)
    (c_law_right : PySem.W.codeIn K cd_law_right "_law_right" = true)
    (k_law_right : PySem.W.keepIn K (.ref f_law_right) = true)
    (a_law : PySem.W.nsIn K mainGlobals "law" = some (some (.ref f_law)))
    (l_law : K.lookup f_law = some ⟨oc_law, od_law, .func (PySem.W.fnOf "law" "law" (defArgs s_law) (defBody s_law) (defScope s_law) .none kV_law dc_law pm_law an_law cd_law ct_law), sl_law⟩)
    (c_law : PySem.W.codeIn K cd_law "law" = true)
    (k_law : PySem.W.keepIn K (.ref f_law) = true)
    (xe_DoingError : PySem.W.excIn K k_DoingError [.type "ValueError", .type "Exception", .type "BaseException", .type "object"] "ValueError.__new__" = true)
    (xo_DoingError : PySem.W.mroIn K k_DoingError (.type "object") = some true)
    (xb_DoingError : PySem.W.mroIn K k_DoingError (.type "BaseException") = some true)
    (xg_DoingError : PySem.W.findIn K (.ref k_DoingError) "__getattribute__" = some (some (.builtin "BaseException.__getattribute__")))
    (xt_DoingError : PySem.W.findIn K (.ref k_DoingError) "__getattr__" = some none)
    (xc_DoingError : PySem.W.findIn K (.ref k_DoingError) "__class__" = some (some (.builtin "object.__class__")))
    (xe_NoFraction : PySem.W.excIn K k_NoFraction [.type "ValueError", .type "Exception", .type "BaseException", .type "object"] "ValueError.__new__" = true)
    (xo_NoFraction : PySem.W.mroIn K k_NoFraction (.type "object") = some true)
    (xb_NoFraction : PySem.W.mroIn K k_NoFraction (.type "BaseException") = some true)
    (xg_NoFraction : PySem.W.findIn K (.ref k_NoFraction) "__getattribute__" = some (some (.builtin "BaseException.__getattribute__")))
    (xt_NoFraction : PySem.W.findIn K (.ref k_NoFraction) "__getattr__" = some none)
    (xc_NoFraction : PySem.W.findIn K (.ref k_NoFraction) "__class__" = some (some (.builtin "object.__class__")))
    (s_NoFraction : PySem.W.mroIn K k_NoFraction (.ref k_DoingError) = some true)
    (kk_NoFraction_ValueError : PySem.W.kitOne K (.ref k_NoFraction) (.type "ValueError") = some true)
    (kk_NoFraction_NoText : PySem.W.kitOne K (.ref k_NoFraction) (.ref k_NoText) = some false)
    (kk_NoFraction_BadStep : PySem.W.kitOne K (.ref k_NoFraction) (.ref k_BadStep) = some false)
    (kk_NoFraction_NoFormula : PySem.W.kitOne K (.ref k_NoFraction) (.ref k_NoFormula) = some false)
    (kk_NoFraction_NoQuestion : PySem.W.kitOne K (.ref k_NoFraction) (.ref k_NoQuestion) = some false)
    (kk_NoFraction_NoAnswer : PySem.W.kitOne K (.ref k_NoFraction) (.ref k_NoAnswer) = some false)
    (kk_NoFraction_NoThinning : PySem.W.kitOne K (.ref k_NoFraction) (.ref k_NoThinning) = some false)
    (kk_NoFraction_NoDoor : PySem.W.kitOne K (.ref k_NoFraction) (.ref k_NoDoor) = some false)
    (kk_NoFraction_NoNest : PySem.W.kitOne K (.ref k_NoFraction) (.ref k_NoNest) = some false)
    (kk_NoFraction_BadPaper : PySem.W.kitOne K (.ref k_NoFraction) (.ref k_BadPaper) = some false)
    (kk_NoFraction_NoRule : PySem.W.kitOne K (.ref k_NoFraction) (.ref k_NoRule) = some false)
    (kk_NoFraction_NoRoad : PySem.W.kitOne K (.ref k_NoFraction) (.ref k_NoRoad) = some false)
    (kk_NoFraction_NoShare : PySem.W.kitOne K (.ref k_NoFraction) (.ref k_NoShare) = some false)
    (kk_NoFraction_NoValue : PySem.W.kitOne K (.ref k_NoFraction) (.ref k_NoValue) = some false)
    (kk_NoFraction_NoWorld : PySem.W.kitOne K (.ref k_NoFraction) (.ref k_NoWorld) = some false)
    (kk_NoFraction_NoSets : PySem.W.kitOne K (.ref k_NoFraction) (.ref k_NoSets) = some false)
    (kk_NoFraction_NoName : PySem.W.kitOne K (.ref k_NoFraction) (.ref k_NoName) = some false)
    (kk_NoFraction_NoBow : PySem.W.kitOne K (.ref k_NoFraction) (.ref k_NoBow) = some false)
    (kk_NoFraction_NoTie : PySem.W.kitOne K (.ref k_NoFraction) (.ref k_NoTie) = some false)
    (kk_NoFraction_NoCount : PySem.W.kitOne K (.ref k_NoFraction) (.ref k_NoCount) = some false)
    (kk_NoFraction_NoFraction : PySem.W.kitOne K (.ref k_NoFraction) (.ref k_NoFraction) = some true)
    (z_ValueError : PySem.W.nsIn K mainGlobals "ValueError" = some none)
    (z_abs : PySem.W.nsIn K mainGlobals "abs" = some none)
    (z_bool : PySem.W.nsIn K mainGlobals "bool" = some none)
    (z_int : PySem.W.nsIn K mainGlobals "int" = some none)
    (z_isinstance : PySem.W.nsIn K mainGlobals "isinstance" = some none)
    (z_len : PySem.W.nsIn K mainGlobals "len" = some none)
    (z_range : PySem.W.nsIn K mainGlobals "range" = some none)
    (z_tuple : PySem.W.nsIn K mainGlobals "tuple" = some none) :
    ∃ t : Ad, Tx K mg t ∧ t.a_law = f_law ∧ ∀ (s : Shared) (v : Value), BindsTo s t.d_law ⟨[v], []⟩ [("_law_script", v)] := by
  have F_greatest_divisor := fun_mk (st := s_greatest_divisor) l_greatest_divisor c_greatest_divisor k_greatest_divisor
  have B_greatest_divisor := F_greatest_divisor.binds (ps := ["a", "b"]) fun _ _ _ _ _ _ us hl => match us, hl with | [_, _], _ => rfl
  have F_fraction := fun_mk (st := s_fraction) l_fraction c_fraction k_fraction
  have B_fraction := F_fraction.binds (ps := ["top", "bottom"]) fun _ _ _ _ _ _ us hl => match us, hl with | [_, _], _ => rfl
  have F_plus := fun_mk (st := s_plus) l_plus c_plus k_plus
  have B_plus := F_plus.binds (ps := ["a", "b"]) fun _ _ _ _ _ _ us hl => match us, hl with | [_, _], _ => rfl
  have F_minus := fun_mk (st := s_minus) l_minus c_minus k_minus
  have B_minus := F_minus.binds (ps := ["a", "b"]) fun _ _ _ _ _ _ us hl => match us, hl with | [_, _], _ => rfl
  have F_times := fun_mk (st := s_times) l_times c_times k_times
  have B_times := F_times.binds (ps := ["a", "b"]) fun _ _ _ _ _ _ us hl => match us, hl with | [_, _], _ => rfl
  have F_over := fun_mk (st := s_over) l_over c_over k_over
  have B_over := F_over.binds (ps := ["a", "b"]) fun _ _ _ _ _ _ us hl => match us, hl with | [_, _], _ => rfl
  have F_law_cell_at := fun_mk (st := s_law_cell_at) l_law_cell_at c_law_cell_at k_law_cell_at
  have B_law_cell_at := F_law_cell_at.binds (ps := ["_law_script", "_law_k"]) fun _ _ _ _ _ _ us hl => match us, hl with | [_, _], _ => rfl
  have F_law_whole := fun_mk (st := s_law_whole) l_law_whole c_law_whole k_law_whole
  have B_law_whole := F_law_whole.binds (ps := ["_law_found"]) fun _ _ _ _ _ _ us hl => match us, hl with | [_], _ => rfl
  have F_law_divisor := fun_mk (st := s_law_divisor) l_law_divisor c_law_divisor k_law_divisor
  have B_law_divisor := F_law_divisor.binds (ps := ["_law_one", "_law_other"]) fun _ _ _ _ _ _ us hl => match us, hl with | [_, _], _ => rfl
  have F_law_is_fraction := fun_mk (st := s_law_is_fraction) l_law_is_fraction c_law_is_fraction k_law_is_fraction
  have B_law_is_fraction := F_law_is_fraction.binds (ps := ["_law_found"]) fun _ _ _ _ _ _ us hl => match us, hl with | [_], _ => rfl
  have F_law_number := fun_mk (st := s_law_number) l_law_number c_law_number k_law_number
  have B_law_number := F_law_number.binds (ps := ["_law_cell"]) fun _ _ _ _ _ _ us hl => match us, hl with | [_], _ => rfl
  have F_law_lowest := fun_mk (st := s_law_lowest) l_law_lowest c_law_lowest k_law_lowest
  have B_law_lowest := F_law_lowest.binds (ps := ["_law_top", "_law_bottom"]) fun _ _ _ _ _ _ us hl => match us, hl with | [_, _], _ => rfl
  have F_law_kinds := fun_mk (st := s_law_kinds) l_law_kinds c_law_kinds k_law_kinds
  have B_law_kinds := F_law_kinds.binds (ps := ["_law_e"]) fun _ _ _ _ _ _ us hl => match us, hl with | [_], _ => rfl
  have F_law_over := fun_mk (st := s_law_over) l_law_over c_law_over k_law_over
  have B_law_over := F_law_over.binds (ps := ["_law_one", "_law_two"]) fun _ _ _ _ _ _ us hl => match us, hl with | [_, _], _ => rfl
  have F_law_is := fun_mk (st := s_law_is) l_law_is c_law_is k_law_is
  have B_law_is := F_law_is.binds (ps := ["_law_found", "_law_top", "_law_bottom"]) fun _ _ _ _ _ _ us hl => match us, hl with | [_, _, _], _ => rfl
  have F_law_right := fun_mk (st := s_law_right) l_law_right c_law_right k_law_right
  have B_law_right := F_law_right.binds (ps := ["_law_one", "_law_two"]) fun _ _ _ _ _ _ us hl => match us, hl with | [_, _], _ => rfl
  have F_law := fun_mk (st := s_law) l_law c_law k_law
  have B_law := F_law.binds (ps := ["_law_script"]) fun _ _ _ _ _ _ us hl => match us, hl with | [_], _ => rfl
  exact ⟨⟨f_greatest_divisor, _, f_fraction, _, f_plus, _, f_minus, _, f_times, _, f_over, _, f_law_cell_at, _, f_law_whole, _, f_law_divisor, _, f_law_is_fraction, _, f_law_number, _, f_law_lowest, _, f_law_kinds, _, f_law_over, _, f_law_is, _, f_law_right, _, f_law, _, k_BadPaper, k_BadStep, k_DoingError, k_NoAnswer, k_NoBow, k_NoCount, k_NoDoor, k_NoFormula, k_NoFraction, k_NoName, k_NoNest, k_NoQuestion, k_NoRoad, k_NoRule, k_NoSets, k_NoShare, k_NoText, k_NoThinning, k_NoTie, k_NoValue, k_NoWorld⟩, ⟨F_greatest_divisor,
    B_greatest_divisor,
    PySem.W.mg_of X G a_greatest_divisor,
    F_fraction,
    B_fraction,
    PySem.W.mg_of X G a_fraction,
    F_plus,
    B_plus,
    PySem.W.mg_of X G a_plus,
    F_minus,
    B_minus,
    PySem.W.mg_of X G a_minus,
    F_times,
    B_times,
    PySem.W.mg_of X G a_times,
    F_over,
    B_over,
    PySem.W.mg_of X G a_over,
    F_law_cell_at,
    B_law_cell_at,
    PySem.W.mg_of X G a_law_cell_at,
    F_law_whole,
    B_law_whole,
    PySem.W.mg_of X G a_law_whole,
    F_law_divisor,
    B_law_divisor,
    PySem.W.mg_of X G a_law_divisor,
    F_law_is_fraction,
    B_law_is_fraction,
    PySem.W.mg_of X G a_law_is_fraction,
    F_law_number,
    B_law_number,
    PySem.W.mg_of X G a_law_number,
    F_law_lowest,
    B_law_lowest,
    PySem.W.mg_of X G a_law_lowest,
    F_law_kinds,
    B_law_kinds,
    PySem.W.mg_of X G a_law_kinds,
    F_law_over,
    B_law_over,
    PySem.W.mg_of X G a_law_over,
    F_law_is,
    B_law_is,
    PySem.W.mg_of X G a_law_is,
    F_law_right,
    B_law_right,
    PySem.W.mg_of X G a_law_right,
    F_law,
    B_law,
    PySem.W.mg_of X G a_law,
    PySem.W.mg_of X G C_BadPaper,
    PySem.W.mg_of X G C_BadStep,
    PySem.W.mg_of X G C_DoingError,
    PySem.W.mg_of X G C_NoAnswer,
    PySem.W.mg_of X G C_NoBow,
    PySem.W.mg_of X G C_NoCount,
    PySem.W.mg_of X G C_NoDoor,
    PySem.W.mg_of X G C_NoFormula,
    PySem.W.mg_of X G C_NoFraction,
    PySem.W.mg_of X G C_NoName,
    PySem.W.mg_of X G C_NoNest,
    PySem.W.mg_of X G C_NoQuestion,
    PySem.W.mg_of X G C_NoRoad,
    PySem.W.mg_of X G C_NoRule,
    PySem.W.mg_of X G C_NoSets,
    PySem.W.mg_of X G C_NoShare,
    PySem.W.mg_of X G C_NoText,
    PySem.W.mg_of X G C_NoThinning,
    PySem.W.mg_of X G C_NoTie,
    PySem.W.mg_of X G C_NoValue,
    PySem.W.mg_of X G C_NoWorld,
    ⟨xe_DoingError, xo_DoingError, xb_DoingError, xg_DoingError, xt_DoingError, xc_DoingError⟩,
    ⟨xe_NoFraction, xo_NoFraction, xb_NoFraction, xg_NoFraction, xt_NoFraction, xc_NoFraction⟩,
    s_NoFraction,
    kk_NoFraction_ValueError,
    kk_NoFraction_NoText,
    kk_NoFraction_BadStep,
    kk_NoFraction_NoFormula,
    kk_NoFraction_NoQuestion,
    kk_NoFraction_NoAnswer,
    kk_NoFraction_NoThinning,
    kk_NoFraction_NoDoor,
    kk_NoFraction_NoNest,
    kk_NoFraction_BadPaper,
    kk_NoFraction_NoRule,
    kk_NoFraction_NoRoad,
    kk_NoFraction_NoShare,
    kk_NoFraction_NoValue,
    kk_NoFraction_NoWorld,
    kk_NoFraction_NoSets,
    kk_NoFraction_NoName,
    kk_NoFraction_NoBow,
    kk_NoFraction_NoTie,
    kk_NoFraction_NoCount,
    kk_NoFraction_NoFraction,
    PySem.W.mg_none_of X G z_ValueError,
    PySem.W.mg_none_of X G z_abs,
    PySem.W.mg_none_of X G z_bool,
    PySem.W.mg_none_of X G z_int,
    PySem.W.mg_none_of X G z_isinstance,
    PySem.W.mg_none_of X G z_len,
    PySem.W.mg_none_of X G z_range,
    PySem.W.mg_none_of X G z_tuple⟩, rfl, fun s v => .of_eq rfl⟩
theorem tx_of {K : PySem.W.Frag} {mg : Str → Option Value} {f : Addr} {x : Str} (h : ∃ t : Ad, Tx K mg t ∧ t.a_law = f ∧ ∀ (s : Shared) (v : Value), BindsTo s t.d_law ⟨[v], []⟩ [(x, v)]) (e : mg "law" = some (.ref f)) :
    ∃ t : Ad, Tx K mg t ∧ mg "law" = some (.ref t.a_law) ∧ ∀ (s : Shared) (v : Value), BindsTo s t.d_law ⟨[v], []⟩ [(x, v)] := by
  obtain ⟨t, T, rfl, b⟩ := h
  exact ⟨t, T, e, b⟩
end Lw
open PySem PySem.W PyProof.Rows
set_option maxRecDepth 100000 in
set_option maxHeartbeats 0 in
theorem PySem.Challenge.cw_doingbook_k02_sums_and_quotients_holds : PySem.Challenge.rw_doingbook_k02_sums_and_quotients.Holds := by
  w_on; o_law; k_head; (case hw => w_witness2)
  k_fill
  refine L2.walk_ofK (l := PySem.Challenge.rw_doingbook_k02_sums_and_quotients) (n := 63) (k := 6) (x := "_law_script") (CX := L2.CX0) (sp := fun K => U.lowSp K U.spL) rfl (by decide) rfl ⟨rfl, by decide, by decide⟩ (fun w h Y => PySem.W.kIn_of Y) ?F (fun K H a ns hl hO hS => U.spL_start hl hO hS) (fun _ _ _ _ z => z)
  case F =>
    intro w mg fa h KX G hmg
    have T : ∃ t : Lw.Ad, Lw.Tx (L2.KOf KX) mg t ∧ mg "law" = some (.ref t.a_law) ∧ ∀ (s : Shared) (v : Value), BindsTo s t.d_law ⟨[v], []⟩ [("_law_script", v)] := by
      dsimp only [L2.KOf]
      refine' Lw.tx_of (Lw.txt_mk KX G ?C_BadPaper ?C_BadStep ?C_DoingError ?C_NoAnswer ?C_NoBow ?C_NoCount ?C_NoDoor ?C_NoFormula ?C_NoFraction ?C_NoName ?C_NoNest ?C_NoQuestion ?C_NoRoad ?C_NoRule ?C_NoSets ?C_NoShare ?C_NoText ?C_NoThinning ?C_NoTie ?C_NoValue ?C_NoWorld ?a_greatest_divisor ?l_greatest_divisor ?c_greatest_divisor ?k_greatest_divisor ?a_fraction ?l_fraction ?c_fraction ?k_fraction ?a_plus ?l_plus ?c_plus ?k_plus ?a_minus ?l_minus ?c_minus ?k_minus ?a_times ?l_times ?c_times ?k_times ?a_over ?l_over ?c_over ?k_over ?a_law_cell_at ?l_law_cell_at ?c_law_cell_at ?k_law_cell_at ?a_law_whole ?l_law_whole ?c_law_whole ?k_law_whole ?a_law_divisor ?l_law_divisor ?c_law_divisor ?k_law_divisor ?a_law_is_fraction ?l_law_is_fraction ?c_law_is_fraction ?k_law_is_fraction ?a_law_number ?l_law_number ?c_law_number ?k_law_number ?a_law_lowest ?l_law_lowest ?c_law_lowest ?k_law_lowest ?a_law_kinds ?l_law_kinds ?c_law_kinds ?k_law_kinds ?a_law_over ?l_law_over ?c_law_over ?k_law_over ?a_law_is ?l_law_is ?c_law_is ?k_law_is ?a_law_right ?l_law_right ?c_law_right ?k_law_right ?a_law ?l_law ?c_law ?k_law ?xe_DoingError ?xo_DoingError ?xb_DoingError ?xg_DoingError ?xt_DoingError ?xc_DoingError ?xe_NoFraction ?xo_NoFraction ?xb_NoFraction ?xg_NoFraction ?xt_NoFraction ?xc_NoFraction ?s_NoFraction ?kk_NoFraction_ValueError ?kk_NoFraction_NoText ?kk_NoFraction_BadStep ?kk_NoFraction_NoFormula ?kk_NoFraction_NoQuestion ?kk_NoFraction_NoAnswer ?kk_NoFraction_NoThinning ?kk_NoFraction_NoDoor ?kk_NoFraction_NoNest ?kk_NoFraction_BadPaper ?kk_NoFraction_NoRule ?kk_NoFraction_NoRoad ?kk_NoFraction_NoShare ?kk_NoFraction_NoValue ?kk_NoFraction_NoWorld ?kk_NoFraction_NoSets ?kk_NoFraction_NoName ?kk_NoFraction_NoBow ?kk_NoFraction_NoTie ?kk_NoFraction_NoCount ?kk_NoFraction_NoFraction ?z_ValueError ?z_abs ?z_bool ?z_int ?z_isinstance ?z_len ?z_range ?z_tuple) ?tl
      (case C_BadPaper => k_is)
      (case C_BadStep => k_is)
      (case C_DoingError => k_is)
      (case C_NoAnswer => k_is)
      (case C_NoBow => k_is)
      (case C_NoCount => k_is)
      (case C_NoDoor => k_is)
      (case C_NoFormula => k_is)
      (case C_NoFraction => k_is)
      (case C_NoName => k_is)
      (case C_NoNest => k_is)
      (case C_NoQuestion => k_is)
      (case C_NoRoad => k_is)
      (case C_NoRule => k_is)
      (case C_NoSets => k_is)
      (case C_NoShare => k_is)
      (case C_NoText => k_is)
      (case C_NoThinning => k_is)
      (case C_NoTie => k_is)
      (case C_NoValue => k_is)
      (case C_NoWorld => k_is)
      (case a_greatest_divisor => k_is)
      (case l_greatest_divisor => k_is)
      (case c_greatest_divisor => k_is)
      (case k_greatest_divisor => k_is)
      (case a_fraction => k_is)
      (case l_fraction => k_is)
      (case c_fraction => k_is)
      (case k_fraction => k_is)
      (case a_plus => k_is)
      (case l_plus => k_is)
      (case c_plus => k_is)
      (case k_plus => k_is)
      (case a_minus => k_is)
      (case l_minus => k_is)
      (case c_minus => k_is)
      (case k_minus => k_is)
      (case a_times => k_is)
      (case l_times => k_is)
      (case c_times => k_is)
      (case k_times => k_is)
      (case a_over => k_is)
      (case l_over => k_is)
      (case c_over => k_is)
      (case k_over => k_is)
      (case a_law_cell_at => k_is)
      (case l_law_cell_at => k_is)
      (case c_law_cell_at => k_is)
      (case k_law_cell_at => k_is)
      (case a_law_whole => k_is)
      (case l_law_whole => k_is)
      (case c_law_whole => k_is)
      (case k_law_whole => k_is)
      (case a_law_divisor => k_is)
      (case l_law_divisor => k_is)
      (case c_law_divisor => k_is)
      (case k_law_divisor => k_is)
      (case a_law_is_fraction => k_is)
      (case l_law_is_fraction => k_is)
      (case c_law_is_fraction => k_is)
      (case k_law_is_fraction => k_is)
      (case a_law_number => k_is)
      (case l_law_number => k_is)
      (case c_law_number => k_is)
      (case k_law_number => k_is)
      (case a_law_lowest => k_is)
      (case l_law_lowest => k_is)
      (case c_law_lowest => k_is)
      (case k_law_lowest => k_is)
      (case a_law_kinds => k_is)
      (case l_law_kinds => k_is)
      (case c_law_kinds => k_is)
      (case k_law_kinds => k_is)
      (case a_law_over => k_is)
      (case l_law_over => k_is)
      (case c_law_over => k_is)
      (case k_law_over => k_is)
      (case a_law_is => k_is)
      (case l_law_is => k_is)
      (case c_law_is => k_is)
      (case k_law_is => k_is)
      (case a_law_right => k_is)
      (case l_law_right => k_is)
      (case c_law_right => k_is)
      (case k_law_right => k_is)
      (case a_law => k_is)
      (case l_law => k_is)
      (case c_law => k_is)
      (case k_law => k_is)
      (case xe_DoingError => kernel_rfl)
      (case xo_DoingError => k_is)
      (case xb_DoingError => k_is)
      (case xg_DoingError => k_is)
      (case xt_DoingError => k_is)
      (case xc_DoingError => k_is)
      (case xe_NoFraction => kernel_rfl)
      (case xo_NoFraction => k_is)
      (case xb_NoFraction => k_is)
      (case xg_NoFraction => k_is)
      (case xt_NoFraction => k_is)
      (case xc_NoFraction => k_is)
      (case s_NoFraction => k_is)
      (case kk_NoFraction_ValueError => kit_is)
      (case kk_NoFraction_NoText => kit_is)
      (case kk_NoFraction_BadStep => kit_is)
      (case kk_NoFraction_NoFormula => kit_is)
      (case kk_NoFraction_NoQuestion => kit_is)
      (case kk_NoFraction_NoAnswer => kit_is)
      (case kk_NoFraction_NoThinning => kit_is)
      (case kk_NoFraction_NoDoor => kit_is)
      (case kk_NoFraction_NoNest => kit_is)
      (case kk_NoFraction_BadPaper => kit_is)
      (case kk_NoFraction_NoRule => kit_is)
      (case kk_NoFraction_NoRoad => kit_is)
      (case kk_NoFraction_NoShare => kit_is)
      (case kk_NoFraction_NoValue => kit_is)
      (case kk_NoFraction_NoWorld => kit_is)
      (case kk_NoFraction_NoSets => kit_is)
      (case kk_NoFraction_NoName => kit_is)
      (case kk_NoFraction_NoBow => kit_is)
      (case kk_NoFraction_NoTie => kit_is)
      (case kk_NoFraction_NoCount => kit_is)
      (case kk_NoFraction_NoFraction => kit_is)
      (case z_ValueError => k_is)
      (case z_abs => k_is)
      (case z_bool => k_is)
      (case z_int => k_is)
      (case z_isinstance => k_is)
      (case z_len => k_is)
      (case z_range => k_is)
      (case z_tuple => k_is)
      (case tl => exact PySem.W.mg_of KX G (by k_is))
    obtain ⟨t, T, e, hb⟩ := T
    have e0 := hmg.symm.trans e
    cases e0
    exact ⟨t.d_law, hb, fun base kb nb => Lw.G_law T⟩
#print axioms PySem.Challenge.cw_doingbook_k02_sums_and_quotients_holds