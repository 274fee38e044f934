import PyProof.Rows.All
import Wide.All
import OpenK.AllK
import Wide.FinOn
import Lean
import PyProof.EqAt
import PyProof.EqKinds
import PyProof.TupleCall
import PyProof.NeKinds
import PyProof.StationsW
import PyProof.RulesAs
import PyProof.ExcClass2
import PyProof.IsiH_tuple
import PyProof.NsDelKeeps
import PyProof.ConsumeWalk
import PyProof.Rows.SortWalk
import PySem.SetOps
import PySem.Builtin.Tuple.Common
import PyProof.Rows.SetFrom
import PyProof.TupleKey
import PyProof.SetRoads
import KE.KSortTup
import PyProof.DictWalks
import PyProof.FactsAll.set
import PyProof.CollectWalk
import KE.KDictList
import PyProof.Rows.Range3
import PyProof.ListRange
import PyProof.TupleOfStr
import KE.KUnpack
import PyProof.Draws
import PyProof.EnumMake
import PyProof.TupleIter
import PyProof.WalksMore
import KE.KRevIter
import PyProof.CollectIter
import PyProof.Rows.Tup
import PyProof.Rows.SeqMore2
import PyProof.SumAny
import PySem.Challenge.RW_doingbook_k41_wanted
set_option Elab.async false
def PySem.W.Fast.tw2429171619627413558 : Unit := ()
def PySem.W.Fast.tw15028615642869605535 : Unit := ()
def PySem.W.Fast.tw11168442024711526935 : Unit := ()
def PySem.W.Fast.tw2765371167884587736 : Unit := ()
def PySem.W.Fast.tw11746422204134606846 : Unit := ()
def PySem.W.Fast.tw7004455797146833275 : Unit := ()
def PySem.W.Fast.tw4054576622697759975 : Unit := ()
def PySem.W.Fast.tw11198626184997399009 : Unit := ()
def PySem.W.Fast.tw7073512406021113189 : Unit := ()
def PySem.W.Fast.tw1865494463568074893 : Unit := ()
def PySem.W.Fast.tw1946177054293094535 : Unit := ()
def PySem.W.Fast.tw1513703765341811926 : Unit := ()
def PySem.W.Fast.tw7374044022413630995 : Unit := ()
def PySem.W.Fast.tw344945218588427129 : Unit := ()
def PySem.W.Fast.tw11347867007955929139 : Unit := ()
def PySem.W.Fast.tw8814546914970152185 : Unit := ()
def PySem.W.Fast.tw3164214135506200811 : Unit := ()
def PySem.W.Fast.tw17783790419143995567 : Unit := ()
def PySem.W.Fast.tw5234259622684444016 : Unit := ()
def PySem.W.Fast.tw9909227087208925351 : Unit := ()
def PySem.W.Fast.tw4720542496067632893 : Unit := ()
def PySem.W.Fast.tw6051223431367510349 : Unit := ()
def PySem.W.Fast.tw6788734366370506798 : Unit := ()
def PySem.W.Fast.tw16856106133925753083 : Unit := ()
def PySem.W.Fast.tw9237333465515046796 : Unit := ()
def PySem.W.Fast.tw132730789894160046 : Unit := ()
def PySem.W.Fast.tw17226959289774400240 : Unit := ()
def PySem.W.Fast.tw8820651668895978354 : Unit := ()
def PySem.W.Fast.tw15178265289267591702 : Unit := ()
def PySem.W.Fast.tw16719224990977865382 : Unit := ()
def PySem.W.Fast.tw9015224256398555304 : Unit := ()
def PySem.W.Fast.tw10995449497167756895 : Unit := ()
def PySem.W.Fast.tw13931210083204435330 : Unit := ()
def PySem.W.Fast.tw3559930340457803300 : Unit := ()
def PySem.W.Fast.tw17856227180311425477 : Unit := ()
def PySem.W.Fast.tw9654533895667920281 : Unit := ()
def PySem.W.Fast.tw16510203826303135530 : Unit := ()
def PySem.W.Fast.tw12754982828209164396 : Unit := ()
def PySem.W.Fast.tw4005422319265622672 : Unit := ()
def PySem.W.Fast.tw4839188634418365786 : Unit := ()
def PySem.W.Fast.tw797362263073981358 : Unit := ()
def PySem.W.Fast.tw1923424465339112637 : Unit := ()
def PySem.W.Fast.tw970832313015223842 : Unit := ()
def PySem.W.Fast.tw14627616346738067732 : Unit := ()
def PySem.W.Fast.tw6405646906985568446 : Unit := ()
def PySem.W.Fast.tw4973054456454704305 : Unit := ()
def PySem.W.Fast.tw12383208667487829274 : Unit := ()
def PySem.W.Fast.tw14788143876352816997 : Unit := ()
def PySem.W.Fast.tw10895642006610248375 : Unit := ()
def PySem.W.Fast.tw16455245894200718721 : Unit := ()
def PySem.W.Fast.tw10634573952375613674 : Unit := ()
def PySem.W.Fast.tw17953165260171957827 : Unit := ()
def PySem.W.Fast.tw12022082515971362760 : Unit := ()
def PySem.W.Fast.tw12728075991503895273 : Unit := ()
def PySem.W.Fast.tw3144670004626794654 : Unit := ()
def PySem.W.Fast.tw1965686291848481668 : Unit := ()
def PySem.W.Fast.tw15928038989130126030 : Unit := ()
def PySem.W.Fast.tw17452367078382554108 : Unit := ()
def PySem.W.Fast.tw17625451914805220889 : Unit := ()
def PySem.W.Fast.tw2408648806137335517 : Unit := ()
def PySem.W.Fast.tw14833234568827584208 : Unit := ()
def PySem.W.Fast.tw5646176666138863052 : Unit := ()
def PySem.W.Fast.tw6840370907248662909 : Unit := ()
def PySem.W.Fast.tw15126864308704814694 : Unit := ()
def PySem.W.Fast.tw3481939221795165779 : Unit := ()
set_option genSizeOf false
-- CHANGE: your row's module here,as the last of these rows
set_option Elab.async false
set_option linter.all false
set_option maxRecDepth 100000
namespace L2
open PySem PySem.Spec PyProof.Rows
abbrev Key:=Sum Int Str
def keyIs:Key->Value->Bool
 | .inl k,v=>Value.isInt k v
 | .inr x,v=>Value.isStrOf x v
def keyH(w:World):Key->Int
 | .inl k=>hashInt k
 | .inr x=>hashStr w x
theorem keyIs_shape:∀{k:Key} {v:Value},keyIs k v=true->(∃i t,k=Sum.inl i/\v=Value.int i t)∨(∃x t,k=Sum.inr x/\v=Value.str x t)
 | .inl i,v,h=>by
  obtain⟨t,e⟩:=Value.isInt_shape (k:=i) (v:=v) h
  exact .inl ⟨i,t,rfl,e⟩
 | .inr x,v,h=>by
  obtain⟨t,e⟩:=Value.isStrOf_shape (x:=x) (v:=v) h
  exact .inr ⟨x,t,rfl,e⟩
theorem keyIs_int(i:Int)(t:Tok):keyIs (.inl i) (.int i t)=true:=by simp[keyIs,Value.isInt]
theorem keyIs_str(x:Str)(t:Tok):keyIs (.inr x) (.str x t)=true:=by simp[keyIs,Value.isStrOf]
theorem key_ll(a b:Int):decide ((Sum.inl a:Key)=Sum.inl b)=(a==b):=by
 by_cases e:a=b
 ·subst e;simp
 ·have h:¬(Sum.inl a:Key)=Sum.inl b:=fun q=>e (Sum.inl.inj q)
  rw[decide_eq_false h]
  exact(beq_eq_false_iff_ne.mpr e).symm
theorem key_rr(a b:Str):decide ((Sum.inr a:Key)=Sum.inr b)=decide (a=b):=by
 by_cases e:a=b
 ·subst e;simp
 ·have h:¬(Sum.inr a:Key)=Sum.inr b:=fun q=>e (Sum.inr.inj q)
  rw[decide_eq_false h,decide_eq_false e]
theorem key_lr(a:Int)(b:Str):decide ((Sum.inl a:Key)=Sum.inr b)=false:=decide_eq_false (fun q=>nomatch q)
theorem key_rl(a:Str)(b:Int):decide ((Sum.inr a:Key)=Sum.inl b)=false:=decide_eq_false (fun q=>nomatch q)
def mixKind(prog:Program)(w:World):PySem.KeyKind prog w Key where
 is:=keyIs
 hash:=keyH w
 inj:=fun v a b ha hb=>by
  rcases keyIs_shape ha with⟨i,t,rfl,rfl⟩ |⟨x,t,rfl,rfl⟩
  ·rcases keyIs_shape hb with⟨j,u,rfl,e⟩ |⟨y,u,rfl,e⟩
   ·injection e with e1 _;rw[e1]
   ·exact nomatch e
  ·rcases keyIs_shape hb with⟨j,u,rfl,e⟩ |⟨y,u,rfl,e⟩
   ·exact nomatch e
   ·injection e with e1 _;rw[e1]
 byValue:=fun k v h=>by
  rcases keyIs_shape h with⟨i,t,rfl,rfl⟩ |⟨x,t,rfl,rfl⟩<;>rfl
 pyHash:=fun hv h=>by
  rcases keyIs_shape hv with⟨i,t,rfl,rfl⟩ |⟨x,t,rfl,rfl⟩
  ·exact wpAny_pyHash_int h
  ·exact wpAny_pyHash_str h
 eqBool:=fun hu hv h=>by
  rcases keyIs_shape hu with⟨i,t,rfl,rfl⟩ |⟨x,t,rfl,rfl⟩
  ·rcases keyIs_shape hv with⟨j,u,rfl,rfl⟩ |⟨y,u,rfl,rfl⟩
   ·rw[key_ll]at h;exact wpAny_eqBool_int h
   ·rw[key_lr]at h;exact SeqAt.EqAt.int_str i t y u _ _ _ _ h
  ·rcases keyIs_shape hv with⟨j,u,rfl,rfl⟩ |⟨y,u,rfl,rfl⟩
   ·rw[key_rl]at h;exact SeqAt.EqAt.str_int x t j u _ _ _ _ h
   ·rw[key_rr]at h;exact wpAny_eqBool_str h
 «strs»:=fun k x t v h=>by
  rcases keyIs_shape h with⟨i,u,rfl,e⟩ |⟨y,u,rfl,e⟩
  ·exact nomatch e
  ·injection e with e1 _
   subst e1
   cases v<;>rfl
theorem mixKind_int(prog:Program)(w:World)(i:Int)(t:Tok):(mixKind prog w).is (.inl i) (.int i t)=true:=keyIs_int i t
theorem mixKind_str(prog:Program)(w:World)(x:Str)(t:Tok):(mixKind prog w).is (.inr x) (.str x t)=true:=keyIs_str x t
end L2
namespace L2
open PySem PySem.Spec PyProof.Rows
inductive V where
 | non | bl (b:Bool) | int (i:Int) | str (x:Str) | byt (b:Array UInt8) | flt (b:UInt64) | ref (a:Addr) | ty (n:String)
 deriving DecidableEq
def RelV:V->Value->Prop
 | .non,u=>u=Value.none
 | .bl b,u=>u=Value.bool b
 | .int i,u=>∃t,u=Value.int i t
 | .str x,u=>∃t,u=Value.str x t
 | .byt b,u=>∃t,u=Value.bytes b t
 | .flt b,u=>∃t,u=Value.float b t
 | .ref a,u=>u=Value.ref a
 | .ty n,u=>u=Value.type n
abbrev Vals:List V->List Value->Prop:=Paired RelV
theorem Vals.length{xs:List V}{us:List Value}(r:Vals xs us):xs.length=us.length:=Paired.length r
theorem Vals.get:∀{xs:List V} {us:List Value} {i:Nat} {x:V},Vals xs us->xs[i]?=some x->∃u,us[i]?=some u/\RelV x u
 | _,_,_,_,.nil,e=>by simp at e
 | _,_,0,_,.cons r _,e=>by simp at e;subst e;exact⟨_,rfl,r⟩
 | _,_,i+1,x,.cons _ t,e=>by
  obtain⟨u,h1,h2⟩:=Vals.get (i:=i) (x:=x) t (by simpa using e)
  exact⟨u,by simpa using h1,h2⟩
theorem Vals.append:∀{xs ys:List V} {us ws:List Value},Vals xs us->Vals ys ws->Vals (xs++ys) (us++ws)
 | _,_,_,_,.nil,s=>s
 | _,_,_,_,.cons r t,s=>.cons r (Vals.append t s)
theorem Vals.take:∀{xs:List V} {us:List Value} (n:Nat),Vals xs us->Vals (xs.take n) (us.take n)
 | _,_,0,_=>.nil
 | _,_,_+1,.nil=>.nil
 | _,_,n+1,.cons r t=>.cons r (Vals.take n t)
theorem Vals.drop:∀{xs:List V} {us:List Value} (n:Nat),Vals xs us->Vals (xs.drop n) (us.drop n)
 | _,_,0,r=>r
 | _,_,_+1,.nil=>.nil
 | _,_,n+1,.cons _ t=>Vals.drop n t
def RelO:Option V->Option Value->Prop
 | some v,some u=>RelV v u
 | none,none=>True
 | _,_=>False
def KV{κ:Type}:List (κ×V)->List (κ×Value)->Prop:=Paired fun(p:κ×V) (q:κ×Value)=>p.1=q.1/\RelV p.2 q.2
def kV:Key->V
 | .inl i=>.int i
 | .inr x=>.str x
inductive HO where
  | lst (xs:List V)
  | tup (xs:List V)
  | dK (kvs:List (Key×V)) | dT (kvs:List (List Key×V))
  | set (S:Int->Bool) (n:Nat)
  | ins (C dx:Addr) (fs:List (Str×V))
  | own (x:Addr)
  | xd (fs:List (Str×V))
  | met (f x:Addr)
  | rng (lo hi:Int)
  | frz (o:Obj) (u:HO)
  | tbl (ps:Array Value)
  | ext (φ:Heap->Prop)
abbrev Hp:=Addr->Option HO
def upd(H:Hp)(a:Addr)(o:HO):Hp:=fun b=>if b=a then some o else H b
theorem upd_same{H:Hp}{a:Addr}{o:HO}:upd H a o a=some o:=by unfold upd;rw[if_pos rfl]
theorem upd_ne{H:Hp}{a b:Addr}{o:HO}(h:b≠a):upd H a o b=H b:=by unfold upd;rw[if_neg h]
theorem ne_of{H:Hp}{a b:Addr}{o u:HO}(h:H a=some o)(h':H b=some u)(d:o≠u):a≠b:=by
 intro e;subst e;rw[h]at h';exact d (Option.some.inj h')
theorem ne_of_none{H:Hp}{a b:Addr}{o:HO}(h:H a=some o)(h':H b=none):a≠b:=by
 intro e;subst e;rw[h]at h';cases h'
section
variable (P:Program)(w:World)
def ObjOk(H:Hp)(h:Heap)(a:Addr):HO->Prop
 | .lst xs=>xs.length≤sizeLine/\∃(its:List Value) (n:Nat),Vals xs its/\h.get? a=some { cls:=.type "list",data:=.seq its.toArray n }
 | .tup xs=>xs.length≤sizeLine/\∃its:List Value,Vals xs its/\IsTup h a its.toArray
 | .dK kvs=>kvs.length≤sizeLine/\(a==sysModules)=false/\∃vs,KV kvs vs/\h.DictOf (mixKind P w) a vs
 | .dT kvs=>kvs.length≤sizeLine/\(a==sysModules)=false/\∃xs:List (List Key×Addr×Value),
   Paired (fun(p:List Key×V) (q:List Key×Addr×Value)=>p.1=q.1/\H q.2.1=some (.tup (p.1.map kV))/\RelV p.2 q.2.2) kvs xs /\
   ∃o es ep,h.get? a=some o/\o.ExactDict/\o.data=.dict es ep/\es.toList=xs.map (entryOfKey (tupleKind (mixKind P w)))/\(xs.map (·.1)).Nodup
 | .set S n=>h.SetOf (intKind P w) a S n
 | .ins C dx fs=>H dx=some (.own a)/\fs.length≤1000/\dx≠a/\h.get? a=some (PySem.W.instObj C dx) /\
   ∃mA,h.Ns1 dx mA/\(∀f,RelO (fs.lookup f) (mA f))/\PySem.Within mA (fs.map (·.1))
 | .own _=>∃o,h.get? a=some o
 | .xd fs=>∃mA,h.Ns1 a mA/\∀f,RelO (fs.lookup f) (mA f)
 | .rng lo hi=>∃t u v,h.get? a=some { cls:=.type "range",data:=.fields #[.int lo t,.int hi u,.int 1 v] }
 | .frz o u=>h.get? a=some o/\ObjOk H h a u
 | .tbl ps=>h.get? a=some { cls:=.none,data:=.fields ps }
 | .met f x=>h.get? a=some (PySem.W.methodObj (.ref f) (.ref x))
 | .ext φ=>φ h/\(∃o,h.get? a=some o)/\∀h1 h2:Heap,φ h1->(∀o,h1.get? a=some o->h2.get? a=some o)->φ h2
def HOk(H:Hp)(h:Heap):Prop:=∀a o,H a=some o->ObjOk P w H h a o
end
section
variable {P:Program}{w:World}{H H':Hp}{h h':Heap}{a:Addr}{o:HO}
theorem ObjOk.lt(x:ObjOk P w H h a o):a<h.objs.size:=by
 cases o with
 | lst xs=>obtain⟨_,_,_,_,e⟩:=x;exact Heap.lt_size e
 | tup xs=>obtain⟨_,_,_,p⟩:=x;exact p.lt
 | dK kvs=>obtain⟨_,_,_,_,o,_,_,e,_⟩:=x;exact Heap.lt_size e
 | dT kvs=>obtain⟨_,_,_,_,o,_,_,e,_⟩:=x;exact Heap.lt_size e
 | set S n=>obtain⟨o,_,_,_,e,_⟩:=x;exact Heap.lt_size e
 | ins C dx fs=>obtain⟨_,_,_,e,_⟩:=x;exact Heap.lt_size e
 | own y=>obtain⟨_,e⟩:=x;exact Heap.lt_size e
 | xd fs=>obtain⟨_,⟨_,_,_,e,_⟩,_⟩:=x;exact Heap.lt_size e
 | rng lo hi=>obtain⟨_,_,_,e⟩:=x;exact Heap.lt_size e
 | frz ob u=>obtain⟨e,_⟩:=x;exact Heap.lt_size e
 | tbl ps=>exact Heap.lt_size (show h.get? a=some _ from x)
 | met f y=>exact Heap.lt_size (show h.get? a=some _ from x)
 | ext φ=>obtain⟨_,⟨_,e⟩,_⟩:=x;exact Heap.lt_size e
theorem Paired.mapP{α β:Type}{F G:α->β->Prop}:∀{l₁:List α} {l₂:List β},Paired F l₁ l₂->(∀a b,F a b->G a b)->Paired G l₁ l₂
 | _,_,.nil,_=>.nil
 | _,_,.cons r t,f=>.cons (f _ _ r) (Paired.mapP t f)
theorem ObjOk.stay(x:ObjOk P w H h a o)(k:∀b u,(b=a∨H b=some (.own a))->h.get? b=some u->h'.get? b=some u)
  (ho:∀b,H b=some (.own a)->H' b=some (.own a)) (ht:∀b xs,H b=some (.tup xs)->H' b=some (.tup xs)):ObjOk P w H' h' a o:=by
 induction o with
 | lst xs=>obtain⟨z,its,n,r,e⟩:=x;exact⟨z,its,n,r,k _ _ (.inl rfl) e⟩
 | tup xs=>obtain⟨z,its,r,ob,e,c⟩:=x;exact⟨z,its,r,ob,k _ _ (.inl rfl) e,c⟩
 | dK kvs=>obtain⟨z,y,vs,r,ob,es,ep,e,c⟩:=x;exact⟨z,y,vs,r,ob,es,ep,k _ _ (.inl rfl) e,c⟩
 | dT kvs =>
  obtain⟨z,y,xs,r,ob,es,ep,e,c⟩:=x
  exact⟨z,y,xs,Paired.mapP r fun p q z=>⟨z.1,ht _ _ z.2.1,z.2.2⟩,ob,es,ep,k _ _ (.inl rfl) e,c⟩
 | set S n=>obtain⟨ob,es,ep,t,e,c⟩:=x;exact⟨ob,es,ep,t,k _ _ (.inl rfl) e,c⟩
 | ins C dx fs =>
  obtain⟨d,z,ne,e,mA,⟨od,es,ep,e2,c⟩,r⟩:=x
  exact⟨ho _ d,z,ne,k _ _ (.inl rfl) e,mA,⟨od,es,ep,k _ _ (.inr d) e2,c⟩,r⟩
 | own y=>obtain⟨ob,e⟩:=x;exact⟨ob,k _ _ (.inl rfl) e⟩
 | xd fs=>obtain⟨mA,⟨od,es,ep,e,c⟩,r⟩:=x;exact⟨mA,⟨od,es,ep,k _ _ (.inl rfl) e,c⟩,r⟩
 | rng lo hi=>obtain⟨t,u,v,e⟩:=x;exact⟨t,u,v,k _ _ (.inl rfl) e⟩
 | frz ob u ih=>obtain⟨e,q⟩:=x;exact⟨k _ _ (.inl rfl) e,ih q⟩
 | tbl ps =>
  have e:h.get? a=some { cls:=.none,data:=.fields ps }:=x
  show h'.get? a=some { cls:=.none,data:=.fields ps }
  exact k a _ (.inl rfl) e
 | met f y =>
  have e:h.get? a=some (PySem.W.methodObj (.ref f) (.ref y)):=x
  show h'.get? a=some (PySem.W.methodObj (.ref f) (.ref y))
  exact k a _ (.inl rfl) e
 | ext φ=>obtain⟨p,⟨o,e⟩,st⟩:=x;exact⟨st _ _ p fun o q=>k _ _ (.inl rfl) q,⟨o,k _ _ (.inl rfl) e⟩,st⟩
theorem HOk.lt(x:HOk P w H h)(e:H a=some o):a<h.objs.size:=(x a o e).lt
theorem HOk.fresh(x:HOk P w H h)(e:h.objs.size≤a):H a=none:=by
 cases q:H a with
 | none=>rfl
 | some u=>exact absurd (Nat.lt_of_lt_of_le (x.lt q) e) (Nat.lt_irrefl _)
theorem HOk.kept(x:HOk P w H h)(k:∀b u,h.get? b=some u->h'.get? b=some u):HOk P w H h':=fun a o e =>
 (x a o e).stay (fun b u _ q=>k b u q) (fun _ q=>q) fun _ _ q=>q
theorem HOk.laid(x:HOk P w H h)(k:∀b u,h.get? b=some u->h'.get? b=some u)(hp:h.objs.size≤a)(new:ObjOk P w (upd H a o) h' a o):HOk P w (upd H a o) h':=fun b u e=>by
 have hn:=x.fresh hp
 by_cases hb:b=a
 ·subst hb;rw[upd_same]at e;cases e;exact new
 ·rw[upd_ne hb]at e
  exact(x b u e).stay (fun c v _ q=>k c v q) (fun c q=>by rw[upd_ne (ne_of_none q hn)];exact q) fun c xs q=>by rw[upd_ne (ne_of_none q hn)];exact q
end
def Rd(H:Hp)(a:Addr)(u:HO):Prop:=H a=some u∨∃o,H a=some (.frz o u)
theorem Rd.ok{P:Program}{w:World}{H:Hp}{h:Heap}{a:Addr}{u:HO}(r:Rd H a u)(x:HOk P w H h):ObjOk P w H h a u:=by
 rcases r with r |⟨o,r⟩
 ·exact x a u r
 ·obtain⟨_,q⟩:=x a _ r
  exact q
def Mut:Option HO->Prop
 | some (.lst _)=>True
 | some (.dK _)=>True
 | some (.dT _)=>True
 | some (.set _ _)=>True
 | some (.ins _ _ _)=>True
 | some (.ext _)=>True
 | _=>False
section
variable {P:Program}{w:World}{H:Hp}{h h':Heap}{x e:Addr}{o':HO}
theorem HOk.write(ok:HOk P w H h)(mu:Mut (H x))(he:e=x∨H e=some (.own x))(k:∀b u,b≠e->h.get? b=some u->h'.get? b=some u)(heo:∃u,h'.get? e=some u)
  (new:ObjOk P w (upd H x o') h' x o'):HOk P w (upd H x o') h':=fun b u q=>by
 have nown:∀c y,H c=some (.own y)->c≠x:=fun c y r z=>by subst z;rw[r]at mu;exact mu
 have ntup:∀c xs,H c=some (.tup xs)->c≠x:=fun c xs r z=>by subst z;rw[r]at mu;exact mu
 by_cases hb:b=x
 ·subst hb;rw[upd_same]at q;cases q;exact new
 ·rw[upd_ne hb]at q
  by_cases hbe:b=e
  ·have q':H b=some (.own x):=by
    rcases he with z | z
    ·exact absurd (hbe.trans z) hb
    ·rw[hbe];exact z
   rw[q]at q';cases q'
   obtain⟨v,hv⟩:=heo
   exact⟨v,by rw[hbe];exact hv⟩
  ·refine(ok b u q).stay (fun c v hc r=>k c v ?_ r) (fun c r=>by rw[upd_ne (nown c b r)];exact r) fun c xs r=>by rw[upd_ne (ntup c xs r)];exact r
   rcases hc with rfl | hc
   ·exact hbe
   ·rintro rfl
    rcases he with z | z
    ·exact nown c b hc z
    ·rw[hc]at z;cases z;exact hb rfl
end
structure Un (fs ex:List Addr) (H H':Hp) (h h':Heap):Prop where
 keep:∀b o,h.get? b=some o->H b=none->b∉fs->b∉ex->h'.get? b=some o
 slot:∀b o,h.get? b=some o->H b=none->b∈fs->b∉ex->∃sl,h'.get? b=some { o with slots:=sl }
 free:∀b o,h.get? b=some o->H b=none->b∉ex->H' b=none
 there:∀b o,h.get? b=some o->b∉ex->∃o',h'.get? b=some o'
 tups:∀b xs,H b=some (.tup xs)->H' b=some (.tup xs)
 frzs:∀b o u,H b=some (.frz o u)->H' b=some (.frz o u)
 tbls:∀b ps,H b=some (.tbl ps)->∃more,H' b=some (.tbl (ps++more))
section
variable {fs fs' ex ex':List Addr}{H H1 H2:Hp}{h h1 h2 h':Heap}{a x e:Addr}{o:HO}
theorem Un.any(u:Un fs ex H H1 h h1){b:Addr}{ob:Obj}(q:h.get? b=some ob)(n:H b=none)(hx:b∉ex):∃sl,h1.get? b=some { ob with slots:=sl }:=by
 by_cases hb:b∈fs
 ·exact u.slot b ob q n hb hx
 ·exact⟨ob.slots,u.keep b ob q n hb hx⟩
theorem Un.kept(k:∀b u,h.get? b=some u->h'.get? b=some u):Un fs ex H H h h' :=
 ⟨fun b ob q _ _ _=>k b ob q,fun b ob q _ _ _=>⟨ob.slots,k b ob q⟩,fun _ _ _ n _=>n,fun b ob q _=>⟨ob,k b ob q⟩,fun _ _ q=>q,fun _ _ _ q=>q,fun _ ps q=>⟨#[],by rw[q];simp⟩⟩
theorem Un.refl:Un fs ex H H h h:=Un.kept fun _ _ q=>q
theorem Un.laid(k:∀b u,h.get? b=some u->h'.get? b=some u)(hp:h.objs.size≤a)(hn:H a=none):Un fs ex H (upd H a o) h h' where
 keep:=fun b u q _ _ _=>k b u q
 slot:=fun b u q _ _ _=>⟨u.slots,k b u q⟩
 free:=fun b u q n _=>by rw[upd_ne (Nat.ne_of_lt (Nat.lt_of_lt_of_le (Heap.lt_size q) hp))];exact n
 there:=fun b u q _=>⟨u,k b u q⟩
 tups:=fun b xs q=>by rw[upd_ne (ne_of_none q hn)];exact q
 frzs:=fun b u xs q=>by rw[upd_ne (ne_of_none q hn)];exact q
 tbls:=fun b ps q=>⟨#[],by rw[upd_ne (ne_of_none q hn),q];simp⟩
theorem Un.write(mu:Mut (H x))(he:e=x∨H e=some (.own x))(k:∀b u,b≠e->h.get? b=some u->h'.get? b=some u)(heo:∃u,h'.get? e=some u):Un fs ex H (upd H x o) h h':=by
 have hx:∀b,H b=none->b≠x:=fun b n z=>by subst z;rw[n]at mu;exact mu
 have hb:∀b,H b=none->b≠e:=fun b n z=>by
  subst z
  rcases he with r | r
  ·exact hx b n r
  ·rw[n]at r;cases r
 have hm:∀b u,H b=some u->¬Mut (some u)->b≠x:=fun b u q nm z=>by subst z;rw[q]at mu;exact nm mu
 refine⟨fun b u q n _ _=>k b u (hb b n) q,fun b u q n _ _=>⟨u.slots,k b u (hb b n) q⟩,fun b u q n _=>by rw[upd_ne (hx b n)];exact n,fun b u q _=>?_,
  fun b xs q=>by rw[upd_ne (hm b _ q fun z=>z)];exact q,fun b u xs q=>by rw[upd_ne (hm b _ q fun z=>z)];exact q,fun b ps q=>⟨#[],by rw[upd_ne (hm b _ q fun z=>z),q];simp⟩⟩
 by_cases hbe:b=e
 ·subst hbe;exact heo
 ·exact⟨u,k b u hbe q⟩
end
def trk(h:Heap)(H:Hp):List Addr:=(List.range h.objs.size).filter fun a=>(H a).isSome
def hidT(h:Heap)(H:Hp):Heap:=PySem.W.hideAll h (trk h H)
theorem hidT_size(h:Heap)(H:Hp):(hidT h H).objs.size=h.objs.size:=PySem.W.hideAll_size _ _
theorem hidT_get{h:Heap}{H:Hp}{b:Addr}{o:Obj}(e:h.get? b=some o)(n:H b=none):(hidT h H).get? b=some o :=
 PySem.W.hideAll_get _ e fun hm=>by
  have q:(H b).isSome=true:=(List.mem_filter.mp hm).2
  rw[n]at q;simp at q
theorem of_hidT{h:Heap}{H:Hp}{b:Addr}{o:Obj}(e:(hidT h H).get? b=some o):h.get? b=some o/\H b=none:=by
 have e':h.get? b=some o:=PySem.W.of_hideAll (trk h H) e
 refine⟨e',?_⟩
 cases q:H b with
 | none=>rfl
 | some x =>
  have hm:b∈trk h H:=List.mem_filter.mpr ⟨List.mem_range.mpr (Heap.lt_size e'),by simp[q]⟩
  have z:(hidT h H).get? b=none:=PySem.W.hideAll_none (trk h H) hm
  rw[z]at e;cases e
def allNews(g h:Heap)(L:Addr):List (Addr×Obj):=(List.range h.objs.size).filterMap fun a=>if a=L∨(g.get? a).isSome=true then none else(h.get? a).map fun o=>(a,o)
def rest(g h:Heap)(L d:Addr):List (Addr×Obj):=(allNews g h L).filter fun p=>decide (p.1≠d)
end L2
namespace L2
open PySem PySem.Spec PyProof.Rows
structure Mod (K:PySem.W.Frag) (mg:Str→Option Value) (base:Heap):Prop where
 kin:K.In base
 glob:base.Ns mainGlobals mg
 blt:∃mb,base.Ns builtinsNs mb/\∀x:Str,x≠"__name__"->mb x=bootBuiltins x
 nolimit:base.NoLimit
structure Cx where
 prog:Program
 w:World
 K:PySem.W.Frag
 mg:Str->Option Value
 base:Heap
 A:Around
 N:List Str
 s₀:Shared
 H₀:Hp
 env:Env
 outer:List Env
 stack:List Env
 ex:List Addr
 fn:Str->Bool
 calm:Bool
 pn:List (Addr×Obj)
 xe:Value->Shared->Prop
def frs(l:List Env):List Addr:=l.filterMap (·.frame)
abbrev Cx.fs(X:Cx):List Addr:=frs X.outer
def Vis(sc:Scope)(x:Str):Prop:=sc.names.lookup x=some .local∨sc.names.lookup x=some .cell∨sc.names.lookup x=some .free
def Loc(sc:Scope)(x:Str):Prop:=sc.names.lookup x=some .local∨sc.names.lookup x=some .cell
def Look(env:Env)(h:Heap)(m:Str->Option Value)(x:Str)(u:Value):Prop :=
 (env.kindOf x=some .local/\m x=some u)∨((env.kindOf x=some .cell∨env.kindOf x=some .free)/\∃c,env.cells.lookup x=some c/\h.IsCell c (some u))
structure Cx.Ok (X:Cx):Prop where
 mod:Mod X.K X.mg X.base
 kind:X.env.scope.kind=.function
 glob:X.env.globals=mainGlobals
 blt:X.env.builtins=builtinsNs
 above:X.s₀.heap.objs.size≤X.env.locals
 inj:∀x y c,X.env.cells.lookup x=some c->X.env.cells.lookup y=some c->x=y
 has:∀x,(X.env.kindOf x=some .cell∨X.env.kindOf x=some .free)->∃c,X.env.cells.lookup x=some c
 cab:∀x c,X.fn x=true->X.env.cells.lookup x=some c->X.s₀.heap.objs.size≤c
 hd:X.calm=true->X.A.handled=none
 frames:X.A.frames=some X.stack
 stk:X.stack=X.outer∨(X.stack=X.env::X.outer/\X.env.frame=some X.env.locals)
 exf:∀b∈X.ex,b≠X.env.locals/\∀x c,X.env.cells.lookup x=some c->c≠b
 bs:∀b o,X.base.get? b=some o->X.s₀.heap.get? b=some o/\X.H₀ b=none
 bsz:X.base.objs.size≤X.s₀.heap.objs.size
 noex:∀b o,X.base.get? b=some o->b∉X.ex
 exfs:∀b∈X.ex,b∉X.fs
 funs:X.s₀.heap.FunFrames X.base X.outer
 frf:∀b∈X.fs,X.H₀ b=none
structure Inv (X:Cx) (pins:List (Addr × Obj)) (σ:List (Option V)) (H:Hp) (s:Shared):Prop where
 ok:X.Ok
 os:s.os=X.s₀.os
 bare:AllBare s.gens
 base:Un X.fs X.ex X.H₀ H X.s₀.heap s.heap
 loc:∃m,s.heap.Ns X.env.locals m/\∀(i:Nat) (x:Str) (v:V),X.N[i]?=some x->σ[i]?=some (some v)->Vis X.env.scope x->∃u,RelV v u/\Look X.env s.heap m x u
 cell:∀x c,X.env.cells.lookup x=some c->∃v,s.heap.IsCell c v
 free:H X.env.locals=none
 freeC:∀x c,X.env.cells.lookup x=some c->H c=none
 pin:∀p∈X.pn++pins,s.heap.get? p.1=some p.2/\H p.1=none/\p.1≠X.env.locals/\p.1∉X.fs/\∀v,p.2.data≠.cell v
 hok:HOk X.prog X.w H s.heap
 len:σ.length=X.N.length
section
variable {X:Cx}{pins:List (Addr×Obj)}{σ:List (Option V)}{H H':Hp}{s:Shared}{h':Heap}
theorem Cx.Ok.nofr(ok:X.Ok){b:Addr}{o:Obj}(e:X.base.get? b=some o):b∉X.fs:=fun hb=>by
 have:=(ok.funs.mem hb).1
 rw[e]at this;cases this
theorem Inv.bs(I:Inv X pins σ H s):∀b o,X.base.get? b=some o->s.heap.get? b=some o/\H b=none:=fun b o e =>
 ⟨I.base.keep b o (I.ok.bs b o e).1 (I.ok.bs b o e).2 (I.ok.nofr e) (I.ok.noex b o e),I.base.free b o (I.ok.bs b o e).1 (I.ok.bs b o e).2 (I.ok.noex b o e)⟩
theorem Inv.bk(I:Inv X pins σ H s):∀b o,X.base.get? b=some o->s.heap.get? b=some o:=fun b o e=>(I.bs b o e).1
theorem Inv.mod(I:Inv X pins σ H s):Mod X.K X.mg X.base:=I.ok.mod
theorem Inv.kIn(I:Inv X pins σ H s):X.K.In s.heap:=I.ok.mod.kin.keeps I.bk
theorem Inv.lt(I:Inv X pins σ H s):X.env.locals<s.heap.objs.size:=let ⟨_,hn,_⟩:=I.loc;hn.lt
theorem Inv.sz(I:Inv X pins σ H s):X.s₀.heap.objs.size≤s.heap.objs.size:=Nat.le_trans I.ok.above (Nat.le_of_lt I.lt)
theorem Inv.nofs(I:Inv X pins σ H s){a:Addr}(h:s.heap.objs.size≤a):a∉X.fs:=fun hb=>by
 obtain⟨_,o,ho,_⟩:=I.ok.funs.mem hb
 exact absurd (Nat.lt_of_lt_of_le (Heap.lt_size ho) (Nat.le_trans I.sz h)) (Nat.lt_irrefl _)
theorem Inv.cne(I:Inv X pins σ H s):∀x c,X.env.cells.lookup x=some c->c≠X.env.locals:=fun x c e z=>by
 obtain⟨v,o,ho,hd⟩:=I.cell x c e
 obtain⟨m,⟨o',es,ep,ho',hd',_⟩,_⟩:=I.loc
 rw[z,ho']at ho;cases ho;rw[hd']at hd;cases hd
theorem Inv.funs(I:Inv X pins σ H s):s.heap.FunFrames X.base X.outer:=by
 have all:∀(l:List Env),(∀b∈frs l,b∈X.fs)->X.s₀.heap.FunFrames X.base l->s.heap.FunFrames X.base l:=by
  intro l
  induction l with
  | nil=>intro _ _;trivial
  | cons env r ih =>
   intro hs hl
   obtain⟨hk,⟨L,o,hf,hn,ho,hd⟩,hr⟩:=hl
   have hL:L∈X.fs:=hs L (by unfold frs;rw[List.filterMap_cons,hf];exact List.mem_cons_self)
   obtain⟨sl,e⟩:=I.base.slot L o ho (I.ok.frf L hL) hL fun z=>I.ok.exfs L z hL
   exact⟨hk,⟨L,_,hf,hn,e,hd⟩,ih (fun b hb=>hs b (by unfold frs;rw[List.filterMap_cons,hf];exact List.mem_cons_of_mem _ hb)) hr⟩
 exact all X.outer (fun _ hb=>hb) I.ok.funs
theorem Inv.stack(I:Inv X pins σ H s):s.heap.FunFrames X.base X.stack:=by
 rcases I.ok.stk with e |⟨e,hf⟩
 ·rw[e];exact I.funs
 ·rw[e]
  obtain⟨m,hn,_⟩:=I.loc
  refine .cons (by rw[I.ok.kind];decide) hf hn ?_ I.funs
  exact Heap.get?_none_of_le (Nat.le_trans I.ok.bsz I.ok.above)
theorem Inv.stkSub(I:Inv X pins σ H s):∀b∈frs X.stack,b∈X.env.locals::X.fs:=fun b hb=>by
 rcases I.ok.stk with e |⟨e,hf⟩
 ·rw[e]at hb;exact List.mem_cons_of_mem _ hb
 ·rw[e]at hb
  unfold frs at hb
  rw[List.filterMap_cons,hf]at hb
  exact hb
theorem Inv.stkFree(I:Inv X pins σ H s):∀b∈frs X.stack,H b=none:=fun b hb=>by
 rcases List.mem_cons.mp (I.stkSub b hb)with e | hb
 ·rw[e];exact I.free
 ·obtain⟨_,o,ho,_⟩:=I.ok.funs.mem hb
  exact I.base.free b o ho (I.ok.frf b hb) fun z=>I.ok.exfs b z hb
theorem Inv.step{g':Array GenState}{t':Nat}{d':Drawn}{ch:List Addr}(I:Inv X pins σ H s)
  (hch:∀b∈ch,(b∈X.ex∨X.s₀.heap.objs.size≤b)/\b≠X.env.locals/\(∀x c,X.env.cells.lookup x=some c->c≠b)/\∀p∈X.pn++pins,p.1≠b)
  (keep:∀b o,b≠X.env.locals->b∉X.fs->b∉ch->s.heap.get? b=some o->H b=none->h'.get? b=some o)
  (slot:∀b o,b≠X.env.locals->b∈X.fs->b∉ch->s.heap.get? b=some o->H b=none->∃sl,h'.get? b=some { o with slots:=sl }) (free:∀b o,b∉ch->s.heap.get? b=some o->H b=none->H' b=none)
  (there:∀b o,b∉ch->s.heap.get? b=some o->∃o',h'.get? b=some o')
  (tups:∀b xs,H b=some (.tup xs)->H' b=some (.tup xs)) (frzs:∀b o u,H b=some (.frz o u)->H' b=some (.frz o u)) (tbls:∀b ps,H b=some (.tbl ps)->∃more,H' b=some (.tbl (ps++more)))
  (ns:∀m,s.heap.Ns X.env.locals m->h'.Ns X.env.locals m) (hok:HOk X.prog X.w H' h') (hg:AllBare g') :
  Inv X pins σ H' { s with heap:=h',gens:=g',drawn:=d',toks:=t' }:=by
 have neL:∀b o,X.s₀.heap.get? b=some o->b≠X.env.locals:=fun b o e=>Nat.ne_of_lt (Nat.lt_of_lt_of_le (Heap.lt_size e) I.ok.above)
 have neC:∀b o,X.s₀.heap.get? b=some o->b∉X.ex->b∉ch:=fun b o e hx hb=>by
  rcases (hch b hb).1 with z | z
  ·exact hx z
  ·exact absurd (Nat.lt_of_lt_of_le (Heap.lt_size e) z) (Nat.lt_irrefl _)
 have cellK:∀x c,X.env.cells.lookup x=some c->∀v,s.heap.IsCell c v->h'.IsCell c v:=fun x c e v ⟨o,ho,hd⟩=>by
  have nch:c∉ch:=fun z=>(hch c z).2.2.1 x c e rfl
  by_cases hc:c∈X.fs
  ·obtain⟨sl,q⟩:=slot c o (I.cne x c e) hc nch ho (I.freeC x c e)
   exact⟨_,q,hd⟩
  ·exact⟨o,keep c o (I.cne x c e) hc nch ho (I.freeC x c e),hd⟩
 refine⟨I.ok,I.os,hg,⟨fun b o e n hb hx=>?_,fun b o e n hb hx=>?_,fun b o e n hx=>?_,fun b o e hx=>?_,fun b xs e=>tups b xs (I.base.tups b xs e),fun b o xs e=>frzs b o xs (I.base.frzs b o xs e),fun b ps e=>?_⟩,?_,fun x c e=>?_,?_,fun x c e=>?_,fun p hp=>?_,hok,I.len⟩
 ·exact keep b o (neL b o e) hb (neC b o e hx) (I.base.keep b o e n hb hx) (I.base.free b o e n hx)
 ·obtain⟨sl,e1⟩:=I.base.slot b o e n hb hx
  obtain⟨sl',e2⟩:=slot b _ (neL b o e) hb (neC b o e hx) e1 (I.base.free b o e n hx)
  exact⟨sl',e2⟩
 ·obtain⟨o',e1⟩:=I.base.there b o e hx
  exact free b o' (neC b o e hx) e1 (I.base.free b o e n hx)
 ·obtain⟨o',e1⟩:=I.base.there b o e hx
  exact there b o' (neC b o e hx) e1
 ·obtain⟨m1,e1⟩:=I.base.tbls b ps e
  obtain⟨m2,e2⟩:=tbls b _ e1
  exact⟨m1++m2,by rw[e2,Array.append_assoc]⟩
 ·obtain⟨m,hn,hl⟩:=I.loc
  refine⟨m,ns m hn,fun i x v e1 e2 e3=>?_⟩
  obtain⟨u,r,l⟩:=hl i x v e1 e2 e3
  refine⟨u,r,?_⟩
  rcases l with l |⟨k,c,e,z⟩
  ·exact .inl l
  ·exact .inr ⟨k,c,e,cellK x c e _ z⟩
 ·obtain⟨v,z⟩:=I.cell x c e
  exact⟨v,cellK x c e v z⟩
 ·obtain⟨m,⟨o,_,_,ho,_⟩,_⟩:=I.loc
  exact free _ o (fun z=>(hch _ z).2.1 rfl) ho I.free
 ·obtain⟨v,o,ho,hd⟩:=I.cell x c e
  exact free c o (fun z=>(hch c z).2.2.1 x c e rfl) ho (I.freeC x c e)
 ·obtain⟨e,n,ne,nf,d⟩:=I.pin p hp
  have nch:p.1∉ch:=fun z=>(hch p.1 z).2.2.2 p hp rfl
  exact⟨keep p.1 p.2 ne nf nch e n,free p.1 p.2 nch e n,ne,nf,d⟩
theorem Inv.un{t':Nat}(I:Inv X pins σ H s)(u:Un X.fs [] H H' s.heap h')(hok:HOk X.prog X.w H' h'):Inv X pins σ H' { s with heap:=h',toks:=t' }:=by
 obtain⟨m,⟨o,es,ep,ho,r⟩,_⟩:=id I.loc
 obtain⟨sl,hL⟩:=u.any ho I.free (by simp)
 exact I.step (g':=s.gens) (d':=s.drawn) (ch:=[]) (fun _ z=>nomatch z) (fun b o _ hb _ e n=>u.keep b o e n hb (by simp)) (fun b o _ hb _ e n=>u.slot b o e n hb (by simp)) (fun b o _ e n=>u.free b o e n (by simp)) (fun b o _ e=>u.there b o e (by simp)) u.tups u.frzs u.tbls (fun m' hm=>by
  obtain⟨o',es',ep',ho',r'⟩:=hm
  rw[ho]at ho';cases ho'
  exact⟨_,es',ep',hL,r'⟩) hok I.bare
theorem Inv.call{g':Array GenState}{t':Nat}{d':Drawn}{ch:List Addr}(I:Inv X pins σ H s)(u:Un (frs X.stack) ch H H' s.heap h')(hok:HOk X.prog X.w H' h')(hg:AllBare g')
  (hch:∀b∈ch,(b∈X.ex∨X.s₀.heap.objs.size≤b)/\b≠X.env.locals/\(∀x c,X.env.cells.lookup x=some c->c≠b)/\∀p∈X.pn++pins,p.1≠b) :
  Inv X pins σ H' { s with heap:=h',gens:=g',drawn:=d',toks:=t' }:=by
 obtain⟨m,⟨o,es,ep,ho,r⟩,_⟩:=id I.loc
 obtain⟨sl,hL⟩:=u.any ho I.free fun z=>(hch _ z).2.1 rfl
 exact I.step (ch:=ch) hch (fun b o hL hb hc e n=>u.keep b o e n (fun z=>(List.mem_cons.mp (I.stkSub b z)).elim hL hb) hc) (fun b o _ _ hc e n=>u.any e n hc) (fun b o hc e n=>u.free b o e n hc) (fun b o hc e=>u.there b o e hc) u.tups u.frzs u.tbls (fun m' hm=>by
  obtain⟨o',es',ep',ho',r'⟩:=hm
  rw[ho]at ho';cases ho'
  exact⟨_,es',ep',hL,r'⟩) hok hg
theorem Inv.turned{t':Nat}{it:Addr}(I:Inv X pins σ H s)(k:∀b o,b≠it->s.heap.get? b=some o->h'.get? b=some o)(hn:H it=none)(hL:it≠X.env.locals)
  (h1:it∈X.ex∨X.s₀.heap.objs.size≤it) (h2:∀x c,X.env.cells.lookup x=some c->c≠it) (h3:∀p∈X.pn++pins,p.1≠it):Inv X pins σ H { s with heap:=h',toks:=t' }:=by
 have nit:∀b u,H b=some u->b≠it:=fun b u e z=>by rw[z,hn]at e;cases e
 refine I.step (g':=s.gens) (d':=s.drawn) (ch:=[it]) (fun b hb=>?_) (fun b o _ _ hc e _=>k b o (fun z=>hc (by simp[z])) e) (fun b o _ _ hc e _=>⟨o.slots,k b o (fun z=>hc (by simp[z])) e⟩) (fun _ _ _ _ n=>n)
  (fun b o hc e=>⟨o,k b o (fun z=>hc (by simp[z])) e⟩) (fun _ _ e=>e) (fun _ _ _ e=>e) (fun b ps e=>⟨#[],by rw[e];simp⟩) (fun m hm=>?_) (fun b u e=>?_) I.bare
 ·have e:b=it:=by simpa using hb
  subst e
  exact⟨h1,hL,h2,h3⟩
 ·obtain⟨o,es,ep,ho,r⟩:=hm
  exact⟨o,es,ep,k _ o (Ne.symm hL) ho,r⟩
 ·refine(I.hok b u e).stay (fun c v hc q=>k c v ?_ q) (fun _ q=>q) fun _ _ q=>q
  rcases hc with z | z
  ·rw[z];exact nit b u e
  ·exact nit c _ z
theorem Inv.tok(I:Inv X pins σ H s)(t:Nat):Inv X pins σ H { s with toks:=t }:=I.un (h':=s.heap) (t':=t) Un.refl I.hok
theorem Inv.kept{t':Nat}(I:Inv X pins σ H s)(k:∀b u,s.heap.get? b=some u->h'.get? b=some u):Inv X pins σ H { s with heap:=h',toks:=t' }:=I.un (Un.kept k) (I.hok.kept k)
theorem Inv.laid{a:Addr}{o:HO}{t':Nat}(I:Inv X pins σ H s)(k:∀b u,s.heap.get? b=some u->h'.get? b=some u)(hp:s.heap.objs.size≤a)(new:ObjOk X.prog X.w (upd H a o) h' a o) :
  Inv X pins σ (upd H a o) { s with heap:=h',toks:=t' }:=I.un (Un.laid k hp (I.hok.fresh hp)) (I.hok.laid k hp new)
theorem Inv.write{x e:Addr}{o:HO}{t':Nat}(I:Inv X pins σ H s)(mu:Mut (H x))(he:e=x∨H e=some (.own x))(k:∀b u,b≠e->s.heap.get? b=some u->h'.get? b=some u)(heo:∃u,h'.get? e=some u)
  (new:ObjOk X.prog X.w (upd H x o) h' x o):Inv X pins σ (upd H x o) { s with heap:=h',toks:=t' }:=I.un (Un.write mu he k heo) (I.hok.write mu he k heo new)
theorem Inv.pins_of{pins':List (Addr×Obj)}(I:Inv X pins σ H s)(h:∀p∈pins',s.heap.get? p.1=some p.2/\H p.1=none/\p.1≠X.env.locals/\p.1∉X.fs/\∀v,p.2.data≠.cell v):Inv X pins' σ H s :=
 ⟨I.ok,I.os,I.bare,I.base,I.loc,I.cell,I.free,I.freeC,fun p hp=>(List.mem_append.mp hp).elim (fun z=>I.pin p (List.mem_append_left _ z)) (h p),I.hok,I.len⟩
theorem nodup_ix{N:List Str}(hN:N.Nodup){i j:Nat}{x:Str}(a:N[i]?=some x)(b:N[j]?=some x):i=j:=by
 obtain⟨h1,e1⟩:=List.getElem?_eq_some_iff.mp a
 obtain⟨h2,e2⟩:=List.getElem?_eq_some_iff.mp b
 exact(List.getElem_inj hN).mp (e1.trans e2.symm)
theorem store_ok2{M:Model}{A:Around}{E:Value->Shared->Prop}{i:Nat}{x:Str}{v:V}{u:Value}{Q:Unit->Shared->Prop}(I:Inv X pins σ H s)(hN:X.N.Nodup)(hi:X.N[i]?=some x)(hx:Loc X.env.scope x)(r:RelV v u)
  (h:∀s',Inv X pins (σ.set i (some v)) H s'->(∃a,Heap.SameBut a s.heap s'.heap/\(a=X.env.locals∨X.env.cells.lookup x=some a))->Q () s') (hf:X.fn x=true∨X.env.scope.names.lookup x=some .local:=by first | exact .inl rfl | exact .inr rfl | assumption):wpAny M A (storeName X.env x u) Q E s:=by
 obtain⟨m,hn,hl⟩:=id I.loc
 have hcls:(X.env.scope.kind==.class||(X.env.scope.kind==.module&&X.env.locals !=X.env.globals))=false:=by rw[I.ok.kind];rfl
 have hiσ:i<σ.length:=by rw[I.len];exact(List.getElem?_eq_some_iff.mp hi).1
 have cne:=I.cne
 have tracked:∀{a:Addr} {h':Heap},(∃o,s.heap.get? a=some o/\H a=none)->Heap.SameBut a s.heap h'->HOk X.prog X.w H h':=fun {a h'} ha hs b ob e=>by
  obtain⟨_,_,hfree⟩:=ha
  refine(I.hok b ob e).stay (fun c w' hc q=>(hs.2 c ?_).trans q) (fun _ q=>q) fun _ _ q=>q
  rintro rfl
  rcases hc with rfl | hc
  ·rw[hfree]at e;cases e
  ·rw[hfree]at hc;cases hc
 rcases hx with hk | hk
 ·refine wpAny_storeName_local hk hn (fun h' hn' hs=>?_) hcls
  obtain⟨oL,_,_,hoL,_⟩:=id hn
  refine h _ ⟨I.ok,I.os,I.bare,⟨fun b o e n hb hx=>?_,fun b o e n hb hx=>?_,I.base.free,fun b o e hx=>?_,I.base.tups,I.base.frzs,I.base.tbls⟩,⟨_,hn',fun j y v' e1 e2 e3=>?_⟩,fun y c e=>?_,I.free,I.freeC,fun p hp=>?_,tracked ⟨oL,hoL,I.free⟩ hs,by simpa using I.len⟩ ⟨_,hs,.inl rfl⟩
  ·exact(hs.2 b (Nat.ne_of_lt (Nat.lt_of_lt_of_le (Heap.lt_size e) I.ok.above))).trans (I.base.keep b o e n hb hx)
  ·obtain⟨sl,e1⟩:=I.base.slot b o e n hb hx
   exact⟨sl,(hs.2 b (Nat.ne_of_lt (Nat.lt_of_lt_of_le (Heap.lt_size e) I.ok.above))).trans e1⟩
  ·obtain⟨o',e1⟩:=I.base.there b o e hx
   exact⟨o',(hs.2 b (Nat.ne_of_lt (Nat.lt_of_lt_of_le (Heap.lt_size e) I.ok.above))).trans e1⟩
  ·by_cases hj:j=i
   ·subst hj
    rw[hi]at e1;cases e1
    rw[List.getElem?_set_self hiσ]at e2
    cases e2
    exact⟨u,r,.inl ⟨hk,by simp⟩⟩
   ·rw[List.getElem?_set_ne (Ne.symm hj)]at e2
    obtain⟨u',r',q⟩:=hl j y v' e1 e2 e3
    refine⟨u',r',?_⟩
    rcases q with⟨k,e⟩ |⟨k,c,e,z⟩
    ·refine .inl ⟨k,?_⟩
     have:y≠x:=fun e=>hj (nodup_ix hN e1 (e▸hi))
     simp[this,e]
    ·exact .inr ⟨k,c,e,z.sameBut hs (cne y c e)⟩
  ·obtain⟨w',z⟩:=I.cell y c e
   exact⟨w',z.sameBut hs (cne y c e)⟩
  ·obtain⟨e,n,ne,nf,d⟩:=I.pin p hp
   exact⟨(hs.2 p.1 ne).trans e,n,ne,nf,d⟩
 ·have hfn:X.fn x=true:=by
   rcases hf with z | z
   ·exact z
   ·rw[z]at hk;cases hk
  obtain⟨c,hc⟩:=I.ok.has x (.inl hk)
  obtain⟨w',z⟩:=I.cell x c hc
  refine wpAny_storeName_cell I.ok.kind hk hc z (fun h' hc' hs=>?_)
  obtain⟨oc,hoc,hocd⟩:=id z
  refine h { s with heap:=h' } ⟨I.ok,I.os,I.bare,⟨fun b o e n hb hx=>?_,fun b o e n hb hx=>?_,I.base.free,fun b o e hx=>?_,I.base.tups,I.base.frzs,I.base.tbls⟩,⟨m,hn.sameBut hs (Ne.symm (cne x c hc)),fun j y v' e1 e2 e3=>?_⟩,fun y c' e=>?_,I.free,I.freeC,fun p hp=>?_,tracked ⟨oc,hoc,I.freeC x c hc⟩ hs,by simpa using I.len⟩ ⟨c,hs,.inr hc⟩
  ·exact(hs.2 b (Nat.ne_of_lt (Nat.lt_of_lt_of_le (Heap.lt_size e) (I.ok.cab x c hfn hc)))).trans (I.base.keep b o e n hb hx)
  ·obtain⟨sl,e1⟩:=I.base.slot b o e n hb hx
   exact⟨sl,(hs.2 b (Nat.ne_of_lt (Nat.lt_of_lt_of_le (Heap.lt_size e) (I.ok.cab x c hfn hc)))).trans e1⟩
  ·obtain⟨o',e1⟩:=I.base.there b o e hx
   exact⟨o',(hs.2 b (Nat.ne_of_lt (Nat.lt_of_lt_of_le (Heap.lt_size e) (I.ok.cab x c hfn hc)))).trans e1⟩
  ·by_cases hj:j=i
   ·subst hj
    rw[hi]at e1;cases e1
    rw[List.getElem?_set_self hiσ]at e2
    cases e2
    exact⟨u,r,.inr ⟨.inl hk,c,hc,hc'⟩⟩
   ·rw[List.getElem?_set_ne (Ne.symm hj)]at e2
    obtain⟨u',r',q⟩:=hl j y v' e1 e2 e3
    refine⟨u',r',?_⟩
    rcases q with q |⟨k,c',e,z'⟩
    ·exact .inl q
    ·refine .inr ⟨k,c',e,z'.sameBut hs ?_⟩
     rintro rfl
     exact hj (nodup_ix hN e1 (I.ok.inj _ _ _ e hc▸hi))
  ·by_cases hcc:c'=c
   ·subst hcc;exact⟨_,hc'⟩
   ·obtain⟨w2,z2⟩:=I.cell y c' e
    exact⟨w2,z2.sameBut hs hcc⟩
  ·obtain⟨e,n,ne,nf,d⟩:=I.pin p hp
   refine⟨(hs.2 p.1 ?_).trans e,n,ne,nf,d⟩
   intro q
   rw[q,hoc]at e
   have q':oc=p.2:=Option.some.inj e
   exact d w' (by rw[←q'];exact hocd)
theorem store_ok{M:Model}{A:Around}{E:Value->Shared->Prop}{i:Nat}{x:Str}{v:V}{u:Value}{Q:Unit->Shared->Prop}(I:Inv X pins σ H s)(hN:X.N.Nodup)(hi:X.N[i]?=some x)(hx:Loc X.env.scope x)(r:RelV v u)
  (h:∀s',Inv X pins (σ.set i (some v)) H s'->Q () s') (hf:X.fn x=true∨X.env.scope.names.lookup x=some .local:=by first | exact .inl rfl | exact .inr rfl | assumption):wpAny M A (storeName X.env x u) Q E s :=
 store_ok2 I hN hi hx r (fun s' I' _=>h s' I') hf
theorem Inv.call'{s':Shared}{ch:List Addr}(I:Inv X pins σ H s)(ho:s'.os=s.os)(u:Un (frs X.stack) ch H H' s.heap s'.heap)(hok:HOk X.prog X.w H' s'.heap)(hg:AllBare s'.gens)
  (hch:∀b∈ch,(b∈X.ex∨X.s₀.heap.objs.size≤b)/\b≠X.env.locals/\(∀x c,X.env.cells.lookup x=some c->c≠b)/\∀p∈X.pn++pins,p.1≠b):Inv X pins σ H' s':=by
 obtain⟨h',g',d',t',o'⟩:=s'
 have e:o'=s.os:=ho
 subst e
 exact I.call (g':=g') (t':=t') (d':=d') u hok hg hch
end
abbrev XK:=Value->Option Addr->Hp->Prop
abbrev St:=List (Option V)
abbrev VK:=V->Hp->Prop
abbrev TE:=St->Hp->VK->Prop
abbrev TT:=St->Hp->(Bool->Hp->Prop)->Prop
abbrev TA:=St->Hp->(List V->Hp->Prop)->Prop
structure Ends where
 nx:St->Hp->Prop
 rt:VK
 bk:St->Hp->Prop:=fun _ _=>False
 ct:St->Hp->Prop:=fun _ _=>False
abbrev TS:=Ends->St->Hp->Prop
def EP(X:Cx)(pins:List (Addr×Obj))(σ:St)(Q:VK)(u:Value)(s':Shared):Prop:=∃v H',Inv X pins σ H' s'/\RelV v u/\Q v H'
def TP(X:Cx)(pins:List (Addr×Obj))(σ:St)(Q:Bool->Hp->Prop)(b:Bool)(s':Shared):Prop:=∃H',Inv X pins σ H' s'/\Q b H'
def AP(X:Cx)(pins:List (Addr×Obj))(σ:St)(Q:List V->Hp->Prop)(us:List Value)(s':Shared):Prop:=∃vs H',Inv X pins σ H' s'/\Vals vs us/\Q vs H'
def SP(X:Cx)(pins:List (Addr×Obj))(D:Ends)(f:Flow)(s':Shared):Prop :=
 match f with
 | .next=>∃σ' H',Inv X pins σ' H' s'/\D.nx σ' H'
 | .brk=>∃σ' H',Inv X pins σ' H' s'/\D.bk σ' H'
 | .cont=>∃σ' H',Inv X pins σ' H' s'/\D.ct σ' H'
 | .ret u=>∃v σ' H',Inv X pins σ' H' s'/\RelV v u/\D.rt v H'
def PE(X:Cx)(e:Expr)(t:TE):Prop :=
 ∀(pins:List (Addr×Obj)) (s:Shared) (σ:St) (H:Hp) (Q:VK),Inv X pins σ H s->t σ H Q->wpAny (model X.prog X.w) X.A (eval e X.env) (EP X pins σ Q) X.xe s
def PT(X:Cx)(e:Expr)(t:TT):Prop :=
 ∀(pins:List (Addr×Obj)) (s:Shared) (σ:St) (H:Hp) (Q:Bool->Hp->Prop),Inv X pins σ H s->t σ H Q->wpAny (model X.prog X.w) X.A (isTrue e X.env (eval e X.env)) (TP X pins σ Q) X.xe s
def PW(X:Cx)(e:Expr)(t:TT):Prop :=
 ∀(whole:Sem Value) (pins:List (Addr×Obj)) (s:Shared) (σ:St) (H:Hp) (Q:Bool->Hp->Prop),Inv X pins σ H s->t σ H Q->wpAny (model X.prog X.w) X.A (isTrue e X.env whole) (TP X pins σ Q) X.xe s
theorem PW.pt{X:Cx}{e:Expr}{t:TT}(h:PW X e t):PT X e t:=h _
def PA(X:Cx)(es:List Expr)(t:TA):Prop :=
 ∀(pos:Pos) (pins:List (Addr×Obj)) (s:Shared) (σ:St) (H:Hp) (Q:List V->Hp->Prop),Inv X pins σ H s->t σ H Q->wpAny (model X.prog X.w) X.A (spliced (backTo pos (starEach es X.env))) (AP X pins σ Q) X.xe s
def PS(X:Cx)(st:Stmt)(t:TS):Prop :=
 ∀(pins:List (Addr×Obj)) (s:Shared) (σ:St) (H:Hp) (D:Ends),Inv X pins σ H s->t D σ H->wpAny (model X.prog X.w) X.A (exec st X.env) (SP X pins D) X.xe s
def PSs(X:Cx)(st:List Stmt)(t:TS):Prop :=
 ∀(pins:List (Addr×Obj)) (s:Shared) (σ:St) (H:Hp) (D:Ends),Inv X pins σ H s->t D σ H->wpAny (model X.prog X.w) X.A (execs st X.env) (SP X pins D) X.xe s
theorem thn{α:Type}{t:Sem α}{Q Q':α->Shared->Prop}{M:Model}{A:Around}{E:Value->Shared->Prop}{s:Shared}(h:wpAny M A t Q E s)(hQ:∀a s,Q a s->Q' a s):wpAny M A t Q' E s:=wpAny_mono h hQ fun _ _ x=>x
end L2
namespace L2
open PySem PySem.Spec PyProof.Rows
section
variable {X:Cx}
theorem bin{a b:Expr}{ta tb:TE}(ha:PE X a ta)(hb:PE X b tb){pins:List (Addr×Obj)}{s:Shared}{σ:St}{H:Hp}{R:V->V->Hp->Prop}(I:Inv X pins σ H s)(h:ta σ H fun x H1=>tb σ H1 fun y H2=>R x y H2)
  {α:Type} {Q:α->Shared->Prop} {f:Value->Value->Sem α}
  (hf:∀v u s2 x y H2,Inv X pins σ H2 s2->RelV x v->RelV y u->R x y H2->wpAny (model X.prog X.w) X.A (f v u) Q X.xe s2) :
  wpAny (model X.prog X.w) X.A (eval a X.env) (fun v s₁=>wpAny (model X.prog X.w) X.A (eval b X.env) (fun u s₂=>wpAny (model X.prog X.w) X.A (f v u) Q X.xe s₂) X.xe s₁) X.xe s:=by
 refine thn (ha pins s σ H _ I h) fun v s1 ⟨x,H1,I1,r1,q1⟩=>?_
 refine thn (hb pins s1 σ H1 _ I1 q1) fun u s2 ⟨y,H2,I2,r2,q2⟩=>?_
 exact hf v u s2 x y H2 I2 r1 r2 q2
def tVar(i:Nat):TE:=fun σ H Q=>∃v,σ[i]?=some (some v)/\Q v H
def tC(v:V):TE:=fun _ H Q=>Q v H
theorem pe_var{i:Nat}{x:Str}{pos:Pos}(hN:X.N[i]?=some x)(hv:Vis X.env.scope x)(hd:(x==("__debug__":Str))=false:=by decide)(hcd:(x==("__classdict__":Str))=false:=by decide):PE X (.Name x pos) (tVar i):=by
 intro pins s σ H Q I h
 obtain⟨v,e,h⟩:=h
 obtain⟨m,hn,hl⟩:=I.loc
 obtain⟨u,r,l⟩:=hl i x v hN e hv
 have fin:EP X pins σ Q u s:=⟨v,H,I,r,h⟩
 rcases l with⟨hk,hm⟩ |⟨hk,c,hc,hcell⟩
 ·exact wpAny_Name (wpAny_loadName_local I.ok.kind hk hn hm fin) hd
 ·rcases hk with hk | hk
  ·exact wpAny_Name (wpAny_loadName_cell I.ok.kind hk hc hcell fin) hd
  ·exact wpAny_Name (wpAny_loadName_free I.ok.kind hk hc hcell fin hcd) hd
theorem pe_int{i j pos}:PE X (.Constant (.int i) j pos) (tC (.int i)):=fun _ _ _ H _ I h=>wpAny_Constant_int ⟨.int i,H,I.tok _,⟨_,rfl⟩,h⟩
theorem pe_bl{b j pos}:PE X (.Constant (.bool b) j pos) (tC (.bl b)):=fun _ _ _ H _ I h=>Constant_bool ⟨.bl b,H,I,rfl,h⟩
theorem pe_non{j pos}:PE X (.Constant .none j pos) (tC .non):=fun _ _ _ H _ I h=>Constant_none ⟨.non,H,I,rfl,h⟩
theorem pe_str{x j pos}:PE X (.Constant (.str x) j pos) (tC (.str x)):=fun _ _ _ H _ I h=>Calls.Constant_str ⟨.str x,H,I.tok _,⟨_,rfl⟩,h⟩
def Gl(X:Cx)(x:Str):Prop:=X.env.kindOf x=some .globalImplicit
theorem ld_glob{E:Value->Shared->Prop}{pins:List (Addr×Obj)}{s:Shared}{σ:St}{H:Hp}{x:Str}{u:Value}{pos:Pos}{Q:Value->Shared->Prop}(I:Inv X pins σ H s)(hg:Gl X x)(hm:X.mg x=some u)(h:Q u s)
  (hd:(x==("__debug__":Str))=false:=by decide):wpAny (model X.prog X.w) X.A (eval (.Name x pos) X.env) Q E s :=
 Calls.Name_function_global I.ok.kind hg (Calls.loadGlobal_global (by rw[I.ok.glob];exact I.mod.glob.keeps I.bk) hm h) hd
theorem ld_blt{E:Value->Shared->Prop}{pins:List (Addr×Obj)}{s:Shared}{σ:St}{H:Hp}{x:Str}{u:Value}{pos:Pos}{Q:Value->Shared->Prop}(I:Inv X pins σ H s)(hg:Gl X x)(hm:X.mg x=none)(hv:bootBuiltins x=some u)(h:Q u s)
  (hn:x≠"__name__":=by decide) (hd:(x==("__debug__":Str))=false:=by decide):wpAny (model X.prog X.w) X.A (eval (.Name x pos) X.env) Q E s:=by
 obtain⟨mb,h1,h2⟩:=I.mod.blt
 exact Calls.Name_function_global I.ok.kind hg (Calls.loadGlobal_builtin (by rw[I.ok.glob];exact I.mod.glob.keeps I.bk) hm (by rw[I.ok.blt];exact h1.keeps I.bk) ((h2 x hn).trans hv) h) hd
theorem pe_glob{x:Str}{v:V}{u:Value}{pos:Pos}(hg:Gl X x)(hm:X.mg x=some u)(r:RelV v u)(hd:(x==("__debug__":Str))=false:=by decide):PE X (.Name x pos) (tC v) :=
 fun _ _ _ H _ I h=>ld_glob I hg hm ⟨v,H,I,r,h⟩ hd
theorem pe_bltn{x:Str}{v:V}{u:Value}{pos:Pos}(hg:Gl X x)(hm:X.mg x=none)(hv:bootBuiltins x=some u)(r:RelV v u)(hn:x≠"__name__":=by decide)(hd:(x==("__debug__":Str))=false:=by decide):PE X (.Name x pos) (tC v) :=
 fun _ _ _ H _ I h=>ld_blt I hg hm hv ⟨v,H,I,r,h⟩ hn hd
variable {a b:Expr}{ta tb:TE}{pos:Pos}
def PC(X:Cx)(op:CmpOp)(a b:Expr)(t:TE):Prop :=
 ∀(pins:List (Addr×Obj)) (s:Shared) (σ:St) (H:Hp) (Q:VK),Inv X pins σ H s->t σ H Q ->
  wpAny (model X.prog X.w) X.A (eval a X.env) (fun v s₁=>wpAny (model X.prog X.w) X.A (eval b X.env) (fun u s₂=>wpAny (model X.prog X.w) X.A (compareOp op v u) (EP X pins σ Q) X.xe s₂) X.xe s₁) X.xe s
theorem nobehind(b:Expr){op:CmpOp}(h:op≠.In)(h2:op≠.NotIn):behindInMarks op b=false:=by
 have e1:(op==CmpOp.In)=false:=by cases op<;>first | rfl | exact absurd rfl h
 have e2:(op==CmpOp.NotIn)=false:=by cases op<;>first | rfl | exact absurd rfl h2
 cases b<;>simp[behindInMarks,e1,e2]
def tB(t:TE):TT:=fun σ H Q=>t σ H fun x H1=>∃c,x=.bl c/\Q c H1
theorem pt_cmp{op:CmpOp}{t:TE}(h:PC X op a b t)(h1:behindInMarks op b=false:=by first | exact nobehind _ (by decide) (by decide) | rfl):PT X (.Compare a [op] [b] pos) (tB t):=by
 intro pins s σ H Q I hw
 refine wpAny_isTrue_Compare1 (thn (h pins s σ H _ I hw) fun v s1 h1=>thn h1 fun u s2 h2=>thn h2 fun c s3 ⟨x,H1,I1,r1,q1⟩=>?_) h1
 obtain⟨d,rfl,q⟩:=q1
 cases r1
 exact wpAny_truthy_bool ⟨H1,I1,q⟩
theorem pt_val{e:Expr}{t:TE}(h:PE X e t)(he:∀whole,isTrue e X.env whole=(do let v←whole;standAt e.pos;holding [v] (truthy v)):=by intro _;rfl):PT X e (tB t):=by
 intro pins s σ H Q I hw
 refine isTrue_plain (thn (h pins s σ H _ I hw) fun v s1 ⟨x,H1,I1,r1,q1⟩=>?_) (he _)
 obtain⟨d,rfl,q⟩:=q1
 cases r1
 exact wpAny_truthy_bool ⟨H1,I1,q⟩
variable {tA tB':TT}{rest:List Expr}
def tAnd(t u:TT):TT:=fun σ H Q=>t σ H fun c H1=>if c=true then u σ H1 Q else Q false H1
def tOr(t u:TT):TT:=fun σ H Q=>t σ H fun c H1=>if c=true then Q true H1 else u σ H1 Q
def tNot(t:TT):TT:=fun σ H Q=>t σ H fun c H1=>Q (!c) H1
theorem pw_and1(ha:PT X a tA):PW X (.BoolOp .And [a] pos) tA:=by
 intro wh pins s σ H Q I h
 refine isTrue_and (thn (ha pins s σ H Q I h) fun c s1 e=>?_)
 cases c with
 | true=>exact isTrue_and_nil e
 | false=>exact e
theorem pw_or1(ha:PT X a tA):PW X (.BoolOp .Or [a] pos) tA:=by
 intro wh pins s σ H Q I h
 refine isTrue_or (thn (ha pins s σ H Q I h) fun c s1 e=>?_)
 cases c with
 | false=>exact isTrue_or_nil e
 | true=>exact e
theorem pw_and(ha:PT X a tA)(hb:PW X (.BoolOp .And (b::rest) pos) tB'):PW X (.BoolOp .And (a::b::rest) pos) (tAnd tA tB'):=by
 intro wh pins s σ H Q I h
 refine isTrue_and (thn (ha pins s σ H _ I h) fun c s1 ⟨H1,I1,q1⟩=>?_)
 cases c with
 | true=>exact hb wh pins s1 σ H1 Q I1 q1
 | false=>exact⟨H1,I1,q1⟩
theorem pw_or(ha:PT X a tA)(hb:PW X (.BoolOp .Or (b::rest) pos) tB'):PW X (.BoolOp .Or (a::b::rest) pos) (tOr tA tB'):=by
 intro wh pins s σ H Q I h
 refine isTrue_or (thn (ha pins s σ H _ I h) fun c s1 ⟨H1,I1,q1⟩=>?_)
 cases c with
 | true=>exact⟨H1,I1,q1⟩
 | false=>exact hb wh pins s1 σ H1 Q I1 q1
theorem pt_not(ha:PT X a tA):PT X (.UnaryOp .Not a pos) (tNot tA):=by
 intro pins s σ H Q I h
 exact isTrue_not (ha pins s σ H (fun c H1=>Q (!c) H1) I h)
def tAndV(ta tb:TE):TE:=fun σ H Q=>ta σ H fun x H1=>∃c,x=.bl c/\if c=true then tb σ H1 Q else Q (.bl false) H1
theorem pe_one{op}{t:TE}(h:PE X a t):PE X (.BoolOp op [a] pos) t:=fun pins s σ H Q I hw=>BoolOp_one (h pins s σ H Q I hw)
theorem pe_and(ha:PE X a ta)(hb:PE X (.BoolOp .And (b::rest) pos) tb):PE X (.BoolOp .And (a::b::rest) pos) (tAndV ta tb):=by
 intro pins s σ H Q I h
 refine BoolOp_and (thn (ha pins s σ H _ I h) fun v s1 ⟨x,H1,I1,r1,q1⟩=>?_)
 obtain⟨c,rfl,q1⟩:=q1
 cases r1
 refine wpAny_truthy_bool ?_
 cases c with
 | true=>exact hb pins s1 σ H1 Q I1 q1
 | false=>exact⟨.bl false,H1,I1,rfl,q1⟩
end
end L2
namespace L2
open PySem PySem.Spec PyProof.Rows
def SqL(K:PySem.W.Frag)(H:Hp)(a:Addr)(xs:List V):Prop :=
 Rd H a (.lst xs) ∨
  ∃(o:Obj) (its:Array Value) (n:Nat),K.lookup a=some o/\o.cls=.type "list"/\o.dict=none/\o.data=.seq its n/\its.size≤sizeLine/\Vals xs its.toList
def SqT(K:PySem.W.Frag)(H:Hp)(a:Addr)(xs:List V):Prop :=
 Rd H a (.tup xs) ∨
  ∃(o:Obj) (its:Array Value) (n:Nat),K.lookup a=some o/\o.cls=.type "tuple"/\o.data=.seq its n/\its.size≤sizeLine/\Vals xs its.toList
def absV:Value->Option V
 | .none=>some .non
 | .bool b=>some (.bl b)
 | .int i _=>some (.int i)
 | .str x _=>some (.str x)
 | .bytes b _=>some (.byt b)
 | .float b _=>some (.flt b)
 | .ref a=>some (.ref a)
 | .type n=>some (.ty n)
 | _=>none
theorem RelV.abs{x:V}{u:Value}(r:RelV x u):absV u=some x:=by
 cases x with
 | non=>cases r;rfl
 | bl _=>cases r;rfl
 | int _=>obtain⟨t,rfl⟩:=r;rfl
 | str _=>obtain⟨t,rfl⟩:=r;rfl
 | byt _=>obtain⟨t,rfl⟩:=r;rfl
 | flt _=>obtain⟨t,rfl⟩:=r;rfl
 | ref _=>cases r;rfl
 | ty _=>cases r;rfl
theorem RelV.inj{x y:V}{u:Value}(r:RelV x u)(q:RelV y u):x=y:=Option.some.inj (r.abs.symm.trans q.abs)
theorem Vals.inj:∀{xs ys:List V} {us:List Value},Vals xs us->Vals ys us->xs=ys
 | _,_,_,.nil,.nil=>rfl
 | _,_,_,.cons r t,.cons r' t'=>by rw[r.inj r',Vals.inj t t']
section
variable {X:Cx}{pins:List (Addr×Obj)}{σ:St}{H:Hp}{s:Shared}{a:Addr}{xs ys:List V}
theorem SqL.of{K:PySem.W.Frag}(h:H a=some (.lst xs)):SqL K H a xs:=.inl (.inl h)
theorem SqT.of{K:PySem.W.Frag}(h:H a=some (.tup xs)):SqT K H a xs:=.inl (.inl h)
theorem Inv.list(I:Inv X pins σ H s)(h:SqL X.K H a xs):∃its:List Value,Vals xs its/\PlainL s.heap a its.toArray/\xs.length≤sizeLine:=by
 rcases h with h |⟨o,its,n,hk,hc,hd,hs,hz,r⟩
 ·obtain⟨z,its,n,r,e⟩:=h.ok I.hok
  exact⟨its,r,⟨_,n,e,rfl,rfl,rfl⟩,z⟩
 ·refine⟨its.toList,r,⟨o,n,I.kIn a o hk,hc,hd,by simpa using hs⟩,?_⟩
  have e:=r.length
  simp only[Array.length_toList]at e
  omega
theorem Inv.tuple(I:Inv X pins σ H s)(h:SqT X.K H a xs):∃its:List Value,Vals xs its/\IsTup s.heap a its.toArray/\xs.length≤sizeLine:=by
 rcases h with h |⟨o,its,n,hk,hc,hs,hz,r⟩
 ·obtain⟨z,its,r,p⟩:=h.ok I.hok
  exact⟨its,r,p,z⟩
 ·refine⟨its.toList,r,⟨o,I.kIn a o hk,hc,n,by simpa using hs⟩,?_⟩
  have e:=r.length
  simp only[Array.length_toList]at e
  omega
theorem Inv.list_inj(I:Inv X pins σ H s)(h:SqL X.K H a xs)(h':SqL X.K H a ys):xs=ys:=by
 obtain⟨its,r,⟨o,n,e,_,_,d⟩,_⟩:=I.list h
 obtain⟨its',r',⟨o',n',e',_,_,d'⟩,_⟩:=I.list h'
 rw[e]at e';cases e'
 rw[d]at d'
 injection d' with d1 _
 have:its=its':=by simpa using congrArg Array.toList d1
 subst this
 exact r.inj r'
theorem Inv.tuple_inj(I:Inv X pins σ H s)(h:SqT X.K H a xs)(h':SqT X.K H a ys):xs=ys:=by
 obtain⟨its,r,⟨o,e,_,n,d⟩,_⟩:=I.tuple h
 obtain⟨its',r',⟨o',e',_,n',d'⟩,_⟩:=I.tuple h'
 rw[e]at e';cases e'
 rw[d]at d'
 injection d' with d1 _
 have:its=its':=by simpa using congrArg Array.toList d1
 subst this
 exact r.inj r'
end
abbrev Cx.wish(X:Cx)(E:Value->Shared->Prop):Cx:={ X with xe:=E }
abbrev Cx.nox(X:Cx):Cx:=X.wish fun _ _=>False
theorem Cx.Ok.wish{X:Cx}(ok:X.Ok)(E:Value->Shared->Prop):(X.wish E).Ok :=
 ⟨ok.mod,ok.kind,ok.glob,ok.blt,ok.above,ok.inj,ok.has,ok.cab,ok.hd,ok.frames,ok.stk,ok.exf,ok.bs,ok.bsz,ok.noex,ok.exfs,ok.funs,ok.frf⟩
theorem Cx.Ok.unwish{X:Cx}{E:Value->Shared->Prop}(ok:(X.wish E).Ok):X.Ok :=
 ⟨ok.mod,ok.kind,ok.glob,ok.blt,ok.above,ok.inj,ok.has,ok.cab,ok.hd,ok.frames,ok.stk,ok.exf,ok.bs,ok.bsz,ok.noex,ok.exfs,ok.funs,ok.frf⟩
section
variable {X:Cx}{pins:List (Addr×Obj)}{σ:St}{H:Hp}{s:Shared}{E:Value->Shared->Prop}
theorem Inv.wish(I:Inv X pins σ H s)(E:Value->Shared->Prop):Inv (X.wish E) pins σ H s:=⟨I.ok.wish E,I.os,I.bare,I.base,I.loc,I.cell,I.free,I.freeC,I.pin,I.hok,I.len⟩
theorem Inv.unwish(I:Inv (X.wish E) pins σ H s):Inv X pins σ H s:=⟨I.ok.unwish,I.os,I.bare,I.base,I.loc,I.cell,I.free,I.freeC,I.pin,I.hok,I.len⟩
theorem SP.unwish{D:Ends}{f:Flow}{s':Shared}(h:SP (X.wish E) pins D f s'):SP X pins D f s':=by
 cases f with
 | next=>obtain⟨σ',H',I,q⟩:=h;exact⟨σ',H',I.unwish,q⟩
 | brk=>obtain⟨σ',H',I,q⟩:=h;exact⟨σ',H',I.unwish,q⟩
 | cont=>obtain⟨σ',H',I,q⟩:=h;exact⟨σ',H',I.unwish,q⟩
 | ret u=>obtain⟨v,σ',H',I,r,q⟩:=h;exact⟨v,σ',H',I.unwish,r,q⟩
theorem PSs.nox{st:List Stmt}{t:TS}(h:PSs X.nox st t):PSs X st t:=fun pins s σ H D I hw =>
 wpAny_mono (h pins s σ H D (I.wish _) hw) (fun _ _ q=>q.unwish) fun _ _ z=>False.elim z
end
section
variable {X:Cx}{st:Stmt}{rest:List Stmt}{t u:TS}{e:Expr}{te:TE}{pos:Pos}
def tNext:TS:=fun D σ H=>D.nx σ H
def tSeq(t u:TS):TS:=fun D σ H=>t { D with nx:=u D } σ H
theorem pss_nil:PSs X [] tNext:=fun _ _ σ H _ I h=>wpAny_execs_nil ⟨σ,H,I,h⟩
theorem pss_cons(h1:PS X st t)(h2:PSs X rest u):PSs X (st::rest) (tSeq t u):=by
 intro pins s σ H D I h
 refine wpAny_execs_cons (thn (h1 pins s σ H { D with nx:=u D } I h) fun f s1 q=>?_)
 cases f with
 | next =>
  obtain⟨σ',H',I',q⟩:=q
  exact h2 pins s1 σ' H' D I' q
 | ret v=>exact q
 | brk=>exact q
 | cont=>exact q
theorem pss_one(h1:PS X st t):PSs X [st] t:=by
 intro pins s σ H D I h
 refine wpAny_execs_cons (thn (h1 pins s σ H D I h) fun f s1 q=>?_)
 cases f with
 | next=>exact wpAny_execs_nil q
 | ret v=>exact q
 | brk=>exact q
 | cont=>exact q
theorem Inv.quiet{pins:List (Addr×Obj)}{σ:St}{H:Hp}{s:Shared}(I:Inv X pins σ H s):interactive X.env=false:=by simp[interactive,I.ok.kind]
def tDrop(te:TE):TS:=fun D σ H=>te σ H fun _ H1=>D.nx σ H1
theorem ps_expr(he:PE X e te)(hs:swapsWith e none pos.line X.env=pure false:=by rfl):PS X (.Expr e pos) (tDrop te):=by
 intro pins s σ H D I h
 exact wpAny_Expr_any (thn (he pins s σ H _ I h) fun v s1 ⟨x,H1,I1,r1,q1⟩=>⟨σ,H1,I1,q1⟩) I.quiet hs
def tRet(te:TE):TS:=fun D σ H=>te σ H D.rt
theorem ps_ret(he:PE X e te):PS X (.Return (some e) pos) (tRet te):=by
 intro pins s σ H D I h
 exact wpAny_Return_some (thn (he pins s σ H _ I h) fun v s1 ⟨x,H1,I1,r1,q1⟩=>⟨x,σ,H1,I1,r1,q1⟩)
def tIfS(c:TT)(t u:TS):TS:=fun D σ H=>c σ H fun b H1=>if b=true then t D σ H1 else u D σ H1
theorem ps_if{c:Expr}{a b:List Stmt}{tc:TT}(hc:PT X c tc)(ha:PSs X a t)(hb:PSs X b u):PS X (.If c a b pos) (tIfS tc t u):=by
 intro pins s σ H D I h
 refine wpAny_If (thn (hc pins s σ H _ I h) fun d s1 ⟨H1,I1,q1⟩=>?_)
 cases d with
 | true=>exact ha pins s1 σ H1 D I1 q1
 | false=>exact hb pins s1 σ H1 D I1 q1
end
abbrev TG:=V->St->Hp->(St->Hp->Prop)->Prop
abbrev TGs:=List V->St->Hp->(St->Hp->Prop)->Prop
def PG(X:Cx)(target:Expr)(t:TG):Prop :=
 ∀(pins:List (Addr×Obj)) (s:Shared) (σ:St) (H:Hp) (v:V) (u:Value) (Q:St->Hp->Prop),Inv X pins σ H s->RelV v u->t v σ H Q ->
  wpAny (model X.prog X.w) X.A (assign target X.env u) (fun _ s'=>∃σ' H',Inv X pins σ' H' s'/\Q σ' H') X.xe s
def PGs(X:Cx)(ts:List Expr)(t:TGs):Prop :=
 ∀(pins:List (Addr×Obj)) (s:Shared) (σ:St) (H:Hp) (vs:List V) (us:List Value) (Q:St->Hp->Prop),Inv X pins σ H s->Vals vs us->t vs σ H Q ->
  wpAny (model X.prog X.w) X.A (assignInOrder ((assignEach ts X.env).map (·.2)) us) (fun _ s'=>∃σ' H',Inv X pins σ' H' s'/\Q σ' H') X.xe s
abbrev TSet:=V->V->V->Hp->(Hp->Prop)->Prop
def PSet(X:Cx)(t:TSet):Prop :=
 ∀(pins:List (Addr×Obj)) (s:Shared) (σ:St) (H:Hp) (o i v:V) (ov iv u:Value) (Q:Hp->Prop),Inv X pins σ H s->RelV o ov->RelV i iv->RelV v u->t o i v H Q ->
  wpAny (model X.prog X.w) X.A (setItem ov iv u) (fun _ s'=>∃H',Inv X pins σ H' s'/\Q H') X.xe s
section
variable {X:Cx}{pos:Pos}
def gName(i:Nat):TG:=fun v σ H Q=>Q (σ.set i (some v)) H
theorem pg_name{i:Nat}{x:Str}(hN:X.N.Nodup)(hi:X.N[i]?=some x)(hx:Loc X.env.scope x)(hf:X.fn x=true∨X.env.scope.names.lookup x=some .local:=by first | exact .inl rfl | exact .inr rfl | assumption):PG X (.Name x pos) (gName i):=by
 intro pins s σ H v u Q I r h
 exact wpAny_assign_Name (store_ok I hN hi hx r (fun s' I'=>⟨_,H,I',h⟩) hf)
def gNil:TGs:=fun vs σ H Q=>vs=[]/\Q σ H
def gCons(t:TG)(u:TGs):TGs:=fun vs σ H Q=>∃v r,vs=v::r/\t v σ H fun σ' H'=>u r σ' H' Q
theorem pgs_nil:PGs X [] gNil:=by
 intro pins s σ H vs us Q I r h
 obtain⟨e,h⟩:=h
 subst e
 cases r
 exact assignInOrder_nil ⟨σ,H,I,h⟩
theorem pgs_cons{e:Expr}{es:List Expr}{t:TG}{u:TGs}(h1:PG X e t)(h2:PGs X es u)
  (hs:(assignEach (e::es) X.env).map (·.2)=assign e X.env::(assignEach es X.env).map (·.2):=by rfl):PGs X (e::es) (gCons t u):=by
 intro pins s σ H vs us Q I r h
 obtain⟨v,vr,e1,h⟩:=h
 subst e1
 cases r with
 | cons r rr =>
  rw[hs]
  refine assignInOrder_cons (thn (h1 pins s σ H _ _ _ I r h) fun _ s1 ⟨σ1,H1,I1,q1⟩=>?_)
  exact h2 pins s1 σ1 H1 _ _ Q I1 rr q1
def gTup(K:PySem.W.Frag)(n:Nat)(t:TGs):TG:=fun v σ H Q=>∃a xs,v=.ref a/\SqT K H a xs/\xs.length=n/\t xs σ H Q
theorem pg_tup{es:List Expr}{k:Nat}{t:TGs}{n:Nat}(hc:X.calm=true)(h:PGs X es t)
  (hn:(assignEach es X.env).length=n:=by rfl) (hst:(assignEach es X.env).findIdx? (·.1)=none:=by rfl):PG X (.Tuple es k pos) (gTup X.K n t):=by
 intro pins s σ H v u Q I r hw
 obtain⟨a,xs,e1,hq,hl,hw⟩:=hw
 subst e1
 cases r
 obtain⟨its,rv,ht,hz⟩:=I.tuple hq
 refine assign_Tuple_tuple (I.ok.hd hc) ht (by simp[hn,← hl,rv.length]) hst fun h' hx=>?_
 have I1:Inv X pins σ H { s with heap:=h' }:=I.kept (t':=s.toks) fun b o e=>hx b o (Nat.ne_of_lt (Heap.lt_size e)) e
 exact h pins _ σ H xs _ Q I1 (by simpa using rv) hw
def tAsg(te:TE)(g:TG):TS:=fun D σ H=>te σ H fun x H1=>g x σ H1 D.nx
theorem ps_asg{tg e:Expr}{te:TE}{g:TG}(he:PE X e te)(hg:PG X tg g)(hs:swapsWithSole [tg] e pos.line X.env=pure false:=by rfl)(hw:swappedStores [tg] e X.env=pure none:=by rfl)
  (h1:(assignEach [tg] X.env).map (·.2)=[assign tg X.env]:=by rfl):PS X (.Assign [tg] e pos) (tAsg te g):=by
 intro pins s σ H D I h
 refine wpAny_Assign_stores (thn (he pins s σ H _ I h) fun v s1 ⟨x,H1,I1,r1,q1⟩=>?_) hs hw
 rw[h1]
 exact thn (hg pins s1 σ H1 x v _ I1 r1 q1) fun _ s2 q=>q
theorem ps_set{i:Nat}{x:Str}{e:Expr}{te:TE}{pos':Pos}(hN:X.N.Nodup)(hi:X.N[i]?=some x)(hx:Loc X.env.scope x)(he:PE X e te)(hs:swapsWith e (some (.Name x pos')) pos.line X.env=pure false:=by rfl)(hf:X.fn x=true∨X.env.scope.names.lookup x=some .local:=by first | exact .inl rfl | exact .inr rfl | assumption) :
  PS X (.Assign [.Name x pos'] e pos) (tAsg te (gName i)):=by
 intro pins s σ H D I h
 refine wpAny_Assign_Name (thn (he pins s σ H _ I h) fun v s1 ⟨y,H1,I1,r1,q1⟩=>?_) hs
 exact store_ok I1 hN hi hx r1 (fun s2 I2=>⟨_,H1,I2,q1⟩) hf
end
section
variable {X:Cx}{pos:Pos}
def tWhile(c:TT)(tb:TS):TS:=fun D σ H=>∃W:Nat->St->Hp->Prop,(∃m,W m σ H)/\∀m σ H,W m σ H ->
 c σ H fun b H1=>if b=true then ∃N:St->Hp->Prop,(∀σ' H',N σ' H'->∃m',m'<m/\W m' σ' H')/\tb { D with nx:=N,ct:=N,bk:=D.nx } σ H1 else D.nx σ H1
theorem ps_while{c:Expr}{body:List Stmt}{tc:TT}{tb:TS}(hp:PassesOwn (model X.prog X.w) X.A X.env X.xe)(hc:PT X c tc)(hb:PSs X body tb):PS X (.While c body [] pos) (tWhile tc tb):=by
 intro pins s σ H D I h
 obtain⟨W,⟨m0,w0⟩,turn⟩:=h
 refine wpAny_While (codeAny_whileLoop (fun n s'=>∃σ' H',Inv X pins σ' H' s'/\W n σ' H') ?_ m0 ⟨σ,H,I,w0⟩)
 rintro n s1 ⟨σ1,H1,I1,w1⟩
 refine wpAny_passesOwn hp (thn (hc pins s1 σ1 H1 _ I1 (turn n σ1 H1 w1)) fun b s2 ⟨H2,I2,q2⟩=>?_)
 cases b with
 | true =>
  obtain⟨N,hN,q2⟩:=q2
  rw[if_pos rfl]
  refine wpAny_passesOwn hp (thn (hb pins s2 σ1 H2 _ I2 q2) fun f s3 q3=>?_)
  cases f with
  | next =>
   obtain⟨σ3,H3,I3,n3⟩:=q3
   obtain⟨m',hm,w3⟩:=hN σ3 H3 n3
   exact⟨m',hm,σ3,H3,I3,w3⟩
  | cont =>
   obtain⟨σ3,H3,I3,n3⟩:=q3
   obtain⟨m',hm,w3⟩:=hN σ3 H3 n3
   exact⟨m',hm,σ3,H3,I3,w3⟩
  | brk=>exact q3
  | ret v=>exact q3
 | false =>
  rw[if_neg Bool.false_ne_true]
  exact wpAny_execs_nil ⟨σ1,H2,I2,q2⟩
end
structure It where
 go:Nat->Hp->Prop
 yld:Nat->Hp->V->Hp->Prop
 stop:Nat->Hp->Prop
def FpOk(X:Cx)(pins:List (Addr×Obj))(H:Hp)(b:Addr):Prop :=
 H b=none/\b≠X.env.locals/\b∉X.fs/\(b∈X.ex∨X.s₀.heap.objs.size≤b)/\(∀x c,X.env.cells.lookup x=some c->c≠b)/\∀p∈X.pn++pins,p.1≠b
theorem Inv.fpOk{X:Cx}{pins:List (Addr×Obj)}{σ:St}{H H':Hp}{s:Shared}{b:Addr}(I:Inv X pins σ H s)(hb:s.heap.objs.size≤b)(hn:H' b=none):FpOk X pins H' b:=by
 refine⟨hn,Nat.ne_of_gt (Nat.lt_of_lt_of_le I.lt hb),I.nofs hb,.inr (Nat.le_trans I.sz hb),fun x c e z=>?_,fun p hp z=>?_⟩
 ·obtain⟨v,q⟩:=I.cell x c e
  exact absurd (Nat.lt_of_lt_of_le q.lt (by rw[z];exact hb)) (Nat.lt_irrefl _)
 ·exact absurd (Nat.lt_of_lt_of_le (Heap.lt_size (I.pin p hp).1) (by rw[z];exact hb)) (Nat.lt_irrefl _)
structure Turn (P:Program) (w:World) (K:PySem.W.Frag) (tg:Expr) (J:It) (fp:List Addr) (it:Addr) (tn:Nat→Heap→Prop):Prop where
 mem:it∈fp
 obj:∀i h,tn i h->∀b∈fp,∃o,h.get? b=some o/\∀v,o.data≠.cell v
 keep:∀i h h',tn i h->(∀b∈fp,∀o,h.get? b=some o->h'.get? b=some o)->tn i h'
 item:∀(X:Cx),X.prog=P->X.w=w->X.K=K->X.calm=true->∀(i:Nat) (pins:List (Addr×Obj)) (s:Shared) (σ:St) (H:Hp) (E:Value->Shared->Prop),Inv X pins σ H s->(∀b∈fp,FpOk X pins H b)->tn i s.heap->J.go i H ->
  wpAny (model P w) X.A (pyNext (.ref it)) (fun r s1=>∃u,r=some u /\
   wpAny (model P w) X.A (letOwnedTupleGo tg (.ref it) u) (fun _ s2=>∃x H',Inv X pins σ H' s2/\RelV x u/\J.yld i H x H'/\tn (i+1) s2.heap/\∀b∈fp,H' b=none) E s1) E s
 done:∀(X:Cx),X.prog=P->X.w=w->X.K=K->X.calm=true->∀(i:Nat) (pins:List (Addr×Obj)) (s:Shared) (σ:St) (H:Hp) (E:Value->Shared->Prop),Inv X pins σ H s->(∀b∈fp,FpOk X pins H b)->tn i s.heap->J.stop i H ->
  wpAny (model P w) X.A (pyNext (.ref it)) (fun r s1=>r=none/\Inv X pins σ H s1) E s
 self:∀(A:Around) (i:Nat) (s:Shared) (Q:Value->Shared->Prop) (E:Value->Shared->Prop),tn i s.heap->Q (.ref it) s->wpAny (model P w) A (pyIter (.ref it)) Q E s
abbrev TI:=St->Hp->(It->Hp->Prop)->Prop
def PIE(X:Cx)(pins:List (Addr×Obj))(σ:St)(tg:Expr)(R:It->Hp->Prop)(itv:Value)(s2:Shared):Prop :=
 ∃(it:Addr) (fp:List Addr) (tn:Nat->Heap->Prop) (J:It) (H':Hp),itv=.ref it/\Inv X pins σ H' s2/\Turn X.prog X.w X.K tg J fp it tn/\tn 0 s2.heap/\(∀b∈fp,FpOk X pins H' b)/\R J H'
def PI(X:Cx)(tg iter:Expr)(wi:TI):Prop :=
 ∀(pins:List (Addr×Obj)) (s:Shared) (σ:St) (H:Hp) (R:It->Hp->Prop),Inv X pins σ H s->wi σ H R ->
  wpAny (model X.prog X.w) X.A (eval iter X.env) (fun v s1=>wpAny (model X.prog X.w) X.A (pyIter v) (PIE X pins σ tg R) X.xe s1) X.xe s
theorem go_of{M:Model}{A:Around}{E:Value->Shared->Prop}{s:Shared}{tg:Expr}{it:Addr}{u:Value}{o:Obj}{n:String}{vs:Array Value}{Q:Unit->Shared->Prop}(ho:s.heap.get? it=some o)(hc:o.cls=.type n)(hd:o.data=.fields vs)
  (hn:["enumerate","zip","dict_itemiterator","dict_reverseitemiterator","odict_iterator","itertools.zip_longest","itertools.pairwise"].contains n=false) (hQ:Q () s):wpAny M A (letOwnedTupleGo tg (.ref it) u) Q E s:=by
 unfold letOwnedTupleGo
 cases tg<;>first
  | exact wpAny_pure hQ
  |(cases u<;>first
    | exact wpAny_pure hQ
    | (refine wpAny_bind (wpAny_load ho ?_)
       rw [hc,hd]
       show wpAny M A (if (["enumerate","zip","dict_itemiterator","dict_reverseitemiterator","odict_iterator","itertools.zip_longest","itertools.pairwise"].contains n && vs[0]? == some (rawInt _))=true then _ else _) Q E s
       rw [if_neg (by intro h; rw [hn,Bool.false_and] at h; cases h)]
       exact wpAny_pure hQ))
def Itl(K:PySem.W.Frag)(a:Addr):It :=
 ⟨fun i H=>∃xs x,SqL K H a xs/\xs[i]?=some x,fun i H x H'=>H'=H/\∀xs,SqL K H a xs->xs[i]?=some x,fun i H=>∃xs,SqL K H a xs/\xs.length≤i⟩
def Itt(K:PySem.W.Frag)(a:Addr):It :=
 ⟨fun i H=>∃xs x,SqT K H a xs/\xs[i]?=some x,fun i H x H'=>H'=H/\∀xs,SqT K H a xs->xs[i]?=some x,fun i H=>∃xs,SqT K H a xs/\xs.length≤i⟩
def Itr(lo:Int)(n:Nat):It:=⟨fun i _=>i<n,fun i H x H'=>H'=H/\x=.int (lo+i),fun i _=>n≤i⟩
theorem turn_list{P:Program}{w:World}{K:PySem.W.Frag}{tg:Expr}(a it:Addr):Turn P w K tg (Itl K a) [it] it (fun i h=>h.IsListIter it a i) where
 mem:=by simp
 obj:=fun i h st b hb=>by
  have e:b=it:=by simpa using hb
  subst e
  obtain⟨o,e,c,d⟩:=st
  exact⟨o,e,fun v z=>by rw[d]at z;cases z⟩
 keep:=fun i h h' st k=>st.at fun o e=>k it (by simp) o e
 item:=by
  intro X hP hw hK hc i pins s σ H E I hf st hg
  subst hP hw hK
  obtain⟨xs,x,hq,hx⟩:=hg
  obtain⟨its,rv,p,hz⟩:=I.list hq
  obtain⟨u,hu,ru⟩:=rv.get hx
  obtain⟨f0,f1,f2,f3,f4,f5⟩:=hf it (by simp)
  refine wpAny_pyNext_list_item st p.isList (x:=u) (by simpa using hu) fun h' st' sb=>?_
  have I1:Inv X pins σ H { s with heap:=h' }:=I.turned (t':=s.toks) (fun b o hb e=>(sb.2 b hb).trans e) f0 f1 f3 f4 f5
  obtain⟨o,e,c,d⟩:=id st'
  exact⟨u,rfl,go_of (s:={ s with heap:=h' }) e c d (by decide) ⟨x,H,I1,ru,⟨rfl,fun ys hy=>by rw[I.list_inj hy hq];exact hx⟩,st',fun b hb=>(hf b hb).1⟩⟩
 done:=by
  intro X hP hw hK hc i pins s σ H E I hf st hg
  subst hP hw hK
  obtain⟨xs,hq,hx⟩:=hg
  obtain⟨its,rv,p,hz⟩:=I.list hq
  obtain⟨f0,f1,f2,f3,f4,f5⟩:=hf it (by simp)
  have hl:=rv.length
  exact wpAny_pyNext_list_end (I.ok.hd hc) st p.isList (by simp;omega) fun h' eb=>⟨rfl,I.turned (t':=s.toks) (fun b o hb e=>eb b o hb e) f0 f1 f3 f4 f5⟩
 self:=fun _ _ _ _ _ st h=>wpAny_pyIter_listiter st h
theorem turn_tuple{P:Program}{w:World}{K:PySem.W.Frag}{tg:Expr}(a it:Addr):Turn P w K tg (Itt K a) [it] it (fun i h=>h.IsTupleIter it a i) where
 mem:=by simp
 obj:=fun i h st b hb=>by
  have e:b=it:=by simpa using hb
  subst e
  obtain⟨o,e,c,d⟩:=st
  exact⟨o,e,fun v z=>by rw[d]at z;cases z⟩
 keep:=fun i h h' st k=>st.at fun o e=>k it (by simp) o e
 item:=by
  intro X hP hw hK hc i pins s σ H E I hf st hg
  subst hP hw hK
  obtain⟨xs,x,hq,hx⟩:=hg
  obtain⟨its,rv,p,hz⟩:=I.tuple hq
  obtain⟨u,hu,ru⟩:=rv.get hx
  obtain⟨f0,f1,f2,f3,f4,f5⟩:=hf it (by simp)
  refine wpAny_pyNext_tuple_item st (show s.heap.IsTuple a its.toArray from p) (x:=u) (by simpa using hu) fun h' st' sb=>?_
  have I1:Inv X pins σ H { s with heap:=h' }:=I.turned (t':=s.toks) (fun b o hb e=>(sb.2 b hb).trans e) f0 f1 f3 f4 f5
  obtain⟨o,e,c,d⟩:=id st'
  exact⟨u,rfl,go_of (s:={ s with heap:=h' }) e c d (by decide) ⟨x,H,I1,ru,⟨rfl,fun ys hy=>by rw[I.tuple_inj hy hq];exact hx⟩,st',fun b hb=>(hf b hb).1⟩⟩
 done:=by
  intro X hP hw hK hc i pins s σ H E I hf st hg
  subst hP hw hK
  obtain⟨xs,hq,hx⟩:=hg
  obtain⟨its,rv,p,hz⟩:=I.tuple hq
  obtain⟨f0,f1,f2,f3,f4,f5⟩:=hf it (by simp)
  have hl:=rv.length
  exact wpAny_pyNext_tuple_end (I.ok.hd hc) st (show s.heap.IsTuple a its.toArray from p) (by simp;omega) fun h' eb=>⟨rfl,I.turned (t':=s.toks) (fun b o hb e=>eb b o hb e) f0 f1 f3 f4 f5⟩
 self:=fun _ _ _ _ _ st h=>wpAny_pyIter_tupleiter st h
theorem turn_range{P:Program}{w:World}{K:PySem.W.Frag}{tg:Expr}(it:Addr)(lo:Int)(n:Nat):Turn P w K tg (Itr lo n) [it] it (fun i h=>IsRangeIter h it (lo+(i:Nat)*1) ((n:Int) - (i:Nat)) 1) where
 mem:=by simp
 obj:=fun i h st b hb=>by
  have e:b=it:=by simpa using hb
  subst e
  exact⟨_,st,fun v z=>by
   have z':Data.fields _=Data.cell v:=z
   cases z'⟩
 keep:=fun i h h' st k=>k it (by simp) _ st
 item:=by
  intro X hP hw hK hc i pins s σ H E I hf st hg
  subst hP hw hK
  obtain⟨f0,f1,f2,f3,f4,f5⟩:=hf it (by simp)
  have W:=Walks.range (prog:=X.prog) (w:=X.w) (I.ok.hd hc) it lo 1 n
  refine W.item i s _ _ hg st fun v h' tk hv st' kk=>?_
  obtain⟨t,rfl⟩:=hv
  have I1:Inv X pins σ H { s with heap:=h',toks:=tk }:=I.turned (fun b o hb e=>kk b o (by simpa using hb) e) f0 f1 f3 f4 f5
  refine⟨_,rfl,go_of (s:={ s with heap:=h',toks:=tk }) (n:="range_iterator") st' rfl rfl (by decide) ⟨.int (lo+i),H,I1,⟨t,?_⟩,⟨rfl,rfl⟩,st',fun b hb=>(hf b hb).1⟩⟩
  rw[Int.mul_one]
 done:=by
  intro X hP hw hK hc i pins s σ H E I hf st hg
  subst hP hw hK
  obtain⟨f0,f1,f2,f3,f4,f5⟩:=hf it (by simp)
  exact wpAny_pyNext_range_end (I.ok.hd hc) st (by have:n≤i:=hg;omega) fun h' eb=>⟨rfl,I.turned (t':=s.toks) (fun b o hb e=>eb b o hb e) f0 f1 f3 f4 f5⟩
 self:=fun _ _ _ _ _ st h=>wpAny_pyIter_rangeiter st h
end L2
namespace L2
open PySem PySem.Spec PyProof.Rows
section
variable {X:Cx}{tg:Expr}
theorem range_it{pins:List (Addr×Obj)}{σ:St}{H:Hp}{s:Shared}{R:It->Hp->Prop}{E:Value->Shared->Prop}{lo hi:Int}{t u v:Tok}{tk:Nat}(I:Inv X pins σ H s)(h1:-(2 ^ 62)≤lo)(h2:lo<2 ^ 62)(h3:-(2 ^ 62)≤hi)(h4:hi<2 ^ 62)
  (q:R (Itr lo (hi - lo).toNat) H):wpAny (model X.prog X.w) X.A (pyIter (.ref s.heap.objs.size)) (PIE X pins σ tg R) E { s with heap:=s.heap.push { cls:=.type "range",data:=.fields #[.int lo t,.int hi u,.int 1 v] },toks:=tk }:=by
 refine wpAny_pyIter_range (IsRange.new ..) (small_one h1 h2 h3 h4) ?_
 have I1:Inv X pins σ H { s with heap:=s.heap.push { cls:=.type "range",data:=.fields #[.int lo t,.int hi u,.int 1 v] },toks:=tk }:=I.kept fun b o e=>Heap.get?_push_of_some _ e
 refine⟨(s.heap.push { cls:=.type "range",data:=.fields #[.int lo t,.int hi u,.int 1 v] }).objs.size,[(s.heap.push { cls:=.type "range",data:=.fields #[.int lo t,.int hi u,.int 1 v] }).objs.size],_,_,H,rfl,
  I1.kept (t':=tk) fun b o e=>Heap.get?_push_of_some _ e,turn_range _ lo (hi - lo).toNat,?_,fun b hb=>?_,q⟩
 ·have e1:lo+((0:Nat):Int)*1=lo:=by simp
  have e2:(((hi - lo).toNat:Nat):Int) - ((0:Nat):Int)=Builtin.Range.rangeSize lo hi 1:=by rw[rangeSize_one];split<;>omega
  show IsRangeIter _ _ (lo+((0:Nat):Int)*1) ((((hi - lo).toNat:Nat):Int) - ((0:Nat):Int)) 1
  rw[e1,e2]
  exact Heap.get?_push_size _ rfl
 ·have e:b=(s.heap.push { cls:=.type "range",data:=.fields #[.int lo t,.int hi u,.int 1 v] }).objs.size:=by simpa using hb
  subst e
  exact I1.fpOk (Nat.le_refl _) (I1.hok.fresh (Nat.le_refl _))
def iRng1(ta:TA):TI:=fun σ H R=>ta σ H fun vs H1=>∃j:Int,vs=[.int j]/\-(2 ^ 62)≤j/\j<2 ^ 62/\R (Itr 0 j.toNat) H1
theorem pi_range1{a:Expr}{ta:TA}{p pos:Pos}(hg:Gl X "range")(hm:X.mg "range"=none)(ha:PA X [a] ta)(hs:starEach [a] X.env=[(false,eval a X.env)]:=by rfl):PI X tg (.Call (.Name "range" p) [a] [] pos) (iRng1 ta):=by
 intro pins s σ H R I h
 refine Call_ (ld_blt I hg hm boot_range (PyProof.Rows.callWith_type1 (thn (ha pos pins s σ H _ I h) fun us s1 ⟨vs,H1,I1,r1,q1⟩=>?_) hs rfl))
 obtain⟨j,e,q1,q2,q⟩:=q1
 subst e
 cases r1 with
 | cons r rr =>
  cases rr
  obtain⟨t,rfl⟩:=r
  exact call_range_1 (range_it I1 (by omega) (by omega) q1 q2 (by simpa using q))
def tFor(wi:TI)(g:TG)(tb:TS):TS:=fun D σ H=>wi σ H fun J H1=>∃W:Nat->Nat->St->Hp->Prop,(∃m,W 0 m σ H1)/\∀i m σ H,W i m σ H ->
 (J.stop i H/\D.nx σ H)∨(J.go i H/\∃N:St->Hp->Prop,(∀σ' H',N σ' H'->∃m',m'<m/\W (i+1) m' σ' H')/\∀x H',J.yld i H x H'->g x σ H' fun σ2 H2=>tb { D with nx:=N,ct:=N,bk:=D.nx } σ2 H2)
def pinsAt(fp:List Addr)(h:Heap):List (Addr×Obj):=fp.filterMap fun b=>(h.get? b).map fun o=>(b,o)
theorem mem_pinsAt{fp:List Addr}{h:Heap}{b:Addr}{o:Obj}(hb:b∈fp)(e:h.get? b=some o):(b,o)∈pinsAt fp h:=List.mem_filterMap.mpr ⟨b,hb,by rw[e];rfl⟩
theorem of_pinsAt{fp:List Addr}{h:Heap}{p:Addr×Obj}(hp:p∈pinsAt fp h):p.1∈fp/\h.get? p.1=some p.2:=by
 obtain⟨b,hb,e⟩:=List.mem_filterMap.mp hp
 cases q:h.get? b with
 | none=>rw[q]at e;cases e
 | some o =>
  rw[q]at e
  have e':(b,o)=p:=Option.some.inj e
  subst e'
  exact⟨hb,q⟩
theorem Inv.pinned{pins:List (Addr×Obj)}{σ:St}{H:Hp}{s:Shared}{fp:List Addr}(I:Inv X pins σ H s)(hf:∀b∈fp,FpOk X pins H b)(ho:∀b∈fp,∃o,s.heap.get? b=some o/\∀v,o.data≠.cell v):Inv X (pins++pinsAt fp s.heap) σ H s :=
 I.pins_of fun p hp=>(List.mem_append.mp hp).elim (fun z=>I.pin p (List.mem_append_right _ z)) fun z=>by
  obtain⟨hb,e⟩:=of_pinsAt z
  obtain⟨f0,f1,f2,_⟩:=hf p.1 hb
  obtain⟨o,e',d⟩:=ho p.1 hb
  rw[e]at e';cases e'
  exact⟨e,f0,f1,f2,d⟩
theorem Inv.unpinned{pins pl:List (Addr×Obj)}{σ:St}{H:Hp}{s:Shared}(I:Inv X (pins++pl) σ H s):Inv X pins σ H s:=I.pins_of fun p hp=>I.pin p (List.mem_append_right _ (List.mem_append_left _ hp))
theorem ps_for{iter:Expr}{body:List Stmt}{wi:TI}{g:TG}{tb:TS}{pos:Pos}(hp:PassesOwn (model X.prog X.w) X.A X.env X.xe)(hc:X.calm=true)(hi:PI X tg iter wi)(hg:PG X tg g)(hb:PSs X body tb)
  (hs:∀x,foldedSetIterable iter X.env x=pure x:=by intro _;rfl):PS X (.For tg iter body [] pos) (tFor wi g tb):=by
 intro pins s σ H D I h
 refine wpAny_For (thn (hi pins s σ H _ I h) fun v s1 h1=>thn h1 fun itv s2 h2=>?_) hs
 obtain⟨it,fp,tn,J,H2,e,I2,T,st2,f2,W,⟨m0,w0⟩,turn⟩:=h2
 subst e
 -- what stays true of the iterator's objects through the loop
 have stat:∀{H':Hp},(∀b∈fp,H' b=none)->∀b∈fp,FpOk X pins H' b:=fun hn b hb=>⟨hn b hb,(f2 b hb).2⟩
 refine codeAny_forLoop_any (fun n s'=>∃i σ' H',Inv X pins σ' H' s'/\tn i s'.heap/\(∀b∈fp,H' b=none)/\W i n σ' H') ?_ m0 ⟨0,σ,H2,I2,st2,fun b hb=>(f2 b hb).1,w0⟩
 rintro n s3 ⟨i,σ3,H3,I3,st3,fr3,w3⟩
 rcases turn i n σ3 H3 w3 with⟨stop,qn⟩ |⟨go,N,hN,step⟩
 ·refine wpAny_passesOwn hp (thn (T.done X rfl rfl rfl hc i pins s3 σ3 H3 X.xe I3 (stat fr3) st3 stop) fun r s4 ⟨hr,I4⟩=>?_)
  subst hr
  exact wpAny_execs_nil ⟨σ3,H3,I4,qn⟩
 ·refine wpAny_passesOwn hp (thn (T.item X rfl rfl rfl hc i pins s3 σ3 H3 X.xe I3 (stat fr3) st3 go) fun r s4 ⟨u,hr,h4⟩=>?_)
  subst hr
  refine wpAny_passesOwn hp (thn h4 fun _ s5 ⟨x,H5,I5,r5,y5,st5,fr5⟩=>?_)
  have I5':=I5.pinned (stat fr5) (T.obj _ _ st5)
  refine wpAny_passesOwn hp (thn (hg _ s5 σ3 H5 x u _ I5' r5 (step x H5 y5)) fun _ s6 ⟨σ6,H6,I6,q6⟩=>?_)
  refine wpAny_passesOwn hp (thn (hb _ s6 σ6 H6 _ I6 q6) fun f s7 q7=>?_)
  have again:∀{σ7:St} {H7:Hp},Inv X (pins++pinsAt fp s5.heap) σ7 H7 s7->N σ7 H7->∃m,m<n/\∃i σ' H',Inv X pins σ' H' s7/\tn i s7.heap/\(∀b∈fp,H' b=none)/\W i m σ' H':=fun {σ7 H7} I7 n7=>by
   obtain⟨m',hm,w7⟩:=hN σ7 H7 n7
   refine⟨m',hm,i+1,σ7,H7,I7.unpinned,T.keep _ _ _ st5 fun b hb o e=>(I7.pin (b,o) (List.mem_append_right _ (List.mem_append_right _ (mem_pinsAt hb e)))).1,fun b hb=>?_,w7⟩
   obtain⟨o,e,d⟩:=T.obj _ _ st5 b hb
   exact(I7.pin (b,o) (List.mem_append_right _ (List.mem_append_right _ (mem_pinsAt hb e)))).2.1
  cases f with
  | next=>obtain⟨σ7,H7,I7,n7⟩:=q7;exact again I7 n7
  | cont=>obtain⟨σ7,H7,I7,n7⟩:=q7;exact again I7 n7
  | brk=>obtain⟨σ7,H7,I7,q7⟩:=q7;exact⟨σ7,H7,I7.unpinned,q7⟩
  | ret v=>obtain⟨x7,σ7,H7,I7,r7,q7⟩:=q7;exact⟨x7,σ7,H7,I7.unpinned,r7,q7⟩
end
theorem while_by{c:TT}{tb:TS}{D:Ends}{σ:St}{H:Hp}(Pv:St->Hp->Prop)(μ:St->Hp->Nat)(h0:Pv σ H)
  (hs:∀σ H,Pv σ H->c σ H fun b H1=>if b=true then tb { D with nx:=fun σ' H'=>Pv σ' H'/\μ σ' H'<μ σ H,ct:=fun σ' H'=>Pv σ' H'/\μ σ' H'<μ σ H,bk:=D.nx } σ H1 else D.nx σ H1)
  (mono:∀σ H Q Q',(∀b H1,Q b H1->Q' b H1)->c σ H Q->c σ H Q'):tWhile c tb D σ H:=by
 refine⟨fun m σ H=>m=μ σ H/\Pv σ H,⟨_,rfl,h0⟩,?_⟩
 rintro m σ H ⟨rfl,p⟩
 refine mono σ H _ _ (fun b H1 q=>?_) (hs σ H p)
 cases b with
 | true=>exact⟨_,fun σ' H' ⟨p',l⟩=>⟨_,l,rfl,p'⟩,q⟩
 | false=>exact q
end L2
namespace L2
open PySem PySem.Spec PyProof.Rows
abbrev R2:=V->V->Hp->VK->Prop
def OpR(X:Cx)(f:Value->Value->Sem Value)(r:R2):Prop :=
 ∀(pins:List (Addr×Obj)) (s:Shared) (σ:St) (H:Hp) (x y:V) (v u:Value) (Q:VK),Inv X pins σ H s->RelV x v->RelV y u->r x y H Q ->
  wpAny (model X.prog X.w) X.A (f v u) (EP X pins σ Q) X.xe s
def UnR(X:Cx)(f:Value->Sem Value)(r:V->Hp->VK->Prop):Prop :=
 ∀(pins:List (Addr×Obj)) (s:Shared) (σ:St) (H:Hp) (x:V) (v:Value) (Q:VK),Inv X pins σ H s->RelV x v->r x H Q ->
  wpAny (model X.prog X.w) X.A (f v) (EP X pins σ Q) X.xe s
def CallR(X:Cx)(f:Value)(r:List V->Hp->VK->Prop):Prop :=
 ∀(pins:List (Addr×Obj)) (s:Shared) (σ:St) (H:Hp) (xs:List V) (us:List Value) (Q:VK),Inv X pins σ H s->Vals xs us->r xs H Q ->
  wpAny (model X.prog X.w) X.A (call f us) (EP X pins σ Q) X.xe s
def tOp(r:R2)(ta tb:TE):TE:=fun σ H Q=>ta σ H fun x H1=>tb σ H1 fun y H2=>r x y H2 Q
def tUn(r:V->Hp->VK->Prop)(ta:TE):TE:=fun σ H Q=>ta σ H fun x H1=>r x H1 Q
def rI(C:Int->Int->Prop)(g:Int->Int->V):R2:=fun x y H Q=>∃i j,x=.int i/\y=.int j/\C i j/\Q (g i j) H
def rI0(g:Int->Int->V):R2:=fun x y H Q=>∃i j,x=.int i/\y=.int j/\Q (g i j) H
def rU(g:Int->V):V->Hp->VK->Prop:=fun x H Q=>∃i,x=.int i/\Q (g i) H
section
variable {X:Cx}{a b c:Expr}{ta tb tc:TE}{pos:Pos}
theorem binT(ha:PE X a ta)(hb:PE X b tb){pins:List (Addr×Obj)}{s:Shared}{σ:St}{H:Hp}{R:V->V->Hp->Prop}(I:Inv X pins σ H s)
  (h:ta σ H fun x H1=>tb σ H1 fun y H2=>R x y H2) {Q:Value->Shared->Prop} {f:Value->Value->Sem Value}
  (hf:∀v u s2 x y H2,Inv X pins σ H2 s2->RelV x v->RelV y u->R x y H2->wpAny (model X.prog X.w) X.A (f v u) Q X.xe s2) :
  wpAny (model X.prog X.w) X.A (eval a X.env) (fun v s₁=>wpAny (model X.prog X.w) X.A (eval b X.env) (fun u s₂=>wpAny (model X.prog X.w) X.A (f v u) Q X.xe s₂) X.xe s₁) X.xe s:=by
 refine thn (ha pins s σ H _ I h) fun v s1 ⟨x,H1,I1,r1,q1⟩=>?_
 refine thn (hb pins s1 σ H1 _ I1 q1) fun u s2 ⟨y,H2,I2,r2,q2⟩=>?_
 exact hf v u s2 x y H2 I2 r1 r2 q2
theorem pe_op{op:Operator}{r:R2}(ho:OpR X (binaryOp op) r)(ha:PE X a ta)(hb:PE X b tb):PE X (.BinOp a op b pos) (tOp r ta tb):=by
 intro pins s σ H Q I h
 exact wpAny_BinOp (binT ha hb I h fun v u s2 x y H2 I2 rx ry q=>ho pins s2 σ H2 x y v u Q I2 rx ry q)
theorem pe_un{op:UnaryOp}{r:V->Hp->VK->Prop}(ho:UnR X (unaryOp op) r)(ha:PE X a ta):PE X (.UnaryOp op a pos) (tUn r ta):=by
 intro pins s σ H Q I h
 exact UnaryOp_ (thn (ha pins s σ H _ I h) fun v s1 ⟨x,H1,I1,r1,q1⟩=>ho pins s1 σ H1 x v Q I1 r1 q1)
theorem opI{f:Value->Value->Sem Value}{C:Int->Int->Prop}{g:Int->Int->Int}
  (rule:∀(i j:Int) (t u:Tok) (s:Shared) (Q:Value->Shared->Prop) (E:Value->Shared->Prop),C i j->Q (.int (g i j) s.toks) { s with toks:=s.toks+1 }->wpAny (model X.prog X.w) X.A (f (.int i t) (.int j u)) Q E s) :
  OpR X f (rI C fun i j=>.int (g i j)):=by
 intro pins s σ H x y v u Q I rx ry h
 obtain⟨i,j,rfl,rfl,hc,q⟩:=h
 obtain⟨t,rfl⟩:=rx
 obtain⟨t',rfl⟩:=ry
 exact rule i j t t' s _ _ hc ⟨.int (g i j),H,I.tok _,⟨_,rfl⟩,q⟩
theorem opI0{f:Value->Value->Sem Value}{g:Int->Int->Int}
  (rule:∀(i j:Int) (t u:Tok) (s:Shared) (Q:Value->Shared->Prop) (E:Value->Shared->Prop),Q (.int (g i j) s.toks) { s with toks:=s.toks+1 }->wpAny (model X.prog X.w) X.A (f (.int i t) (.int j u)) Q E s) :
  OpR X f (rI0 fun i j=>.int (g i j)):=by
 intro pins s σ H x y v u Q I rx ry h
 obtain⟨i,j,rfl,rfl,q⟩:=h
 obtain⟨t,rfl⟩:=rx
 obtain⟨t',rfl⟩:=ry
 exact rule i j t t' s _ _ ⟨.int (g i j),H,I.tok _,⟨_,rfl⟩,q⟩
theorem opB0{f:Value->Value->Sem Value}{g:Int->Int->Bool}
  (rule:∀(i j:Int) (t u:Tok) (s:Shared) (Q:Value->Shared->Prop) (E:Value->Shared->Prop),Q (.bool (g i j)) s->wpAny (model X.prog X.w) X.A (f (.int i t) (.int j u)) Q E s) :
  OpR X f (rI0 fun i j=>.bl (g i j)):=by
 intro pins s σ H x y v u Q I rx ry h
 obtain⟨i,j,rfl,rfl,q⟩:=h
 obtain⟨t,rfl⟩:=rx
 obtain⟨t',rfl⟩:=ry
 exact rule i j t t' s _ _ ⟨.bl (g i j),H,I,rfl,q⟩
def CPow(i j:Int):Prop:=0≤j/\j≤1000000/\i.natAbs<2 ^ 64
def CMul(i j:Int):Prop:=(-(2 ^ 64)<i/\i<2 ^ 64)∨(-(2 ^ 64)<j/\j<2 ^ 64)
theorem CMul.ok{i j:Int}(h:CMul i j):IntMulOk i j:=by
 rcases h with⟨h1,h2⟩ |⟨h1,h2⟩
 ·exact .of_left (intBits_le_64 h1 h2)
 ·exact .of_right (intBits_le_64 h1 h2)
theorem op_add:OpR X (binaryOp .Add) (rI0 fun i j=>.int (i+j)):=opI0 fun _ _ _ _ _ _ _ q=>add_int q
theorem op_sub:OpR X (binaryOp .Sub) (rI0 fun i j=>.int (i - j)):=opI0 fun _ _ _ _ _ _ _ q=>sub_int q
theorem op_modN:OpR X (binaryOp .Mod) (rI (fun _ j=>j≠0) fun i j=>.int (i.fmod j)):=opI fun _ _ _ _ _ _ _ hc q=>mod_int' hc q
theorem op_pow:OpR X (binaryOp .Pow) (rI CPow fun i j=>.int (i ^ j.toNat)):=opI fun _ _ _ _ _ _ _ hc q=>pow_int_small hc.1 hc.2.1 hc.2.2 q
theorem unI{f:Value->Sem Value}{g:Int->Int}
  (rule:∀(i:Int) (t:Tok) (s:Shared) (Q:Value->Shared->Prop) (E:Value->Shared->Prop),Q (.int (g i) s.toks) { s with toks:=s.toks+1 }->wpAny (model X.prog X.w) X.A (f (.int i t)) Q E s) :
  UnR X f (rU fun i=>.int (g i)):=by
 intro pins s σ H x v Q I rx h
 obtain⟨i,rfl,q⟩:=h
 obtain⟨t,rfl⟩:=rx
 exact rule i t s _ _ ⟨.int (g i),H,I.tok _,⟨_,rfl⟩,q⟩
theorem un_neg:UnR X (unaryOp .USub) (rU fun i=>.int (-i)):=unI fun _ _ _ _ _ q=>neg_int q
end
section
variable {X:Cx}{a b c:Expr}{ta tb tc:TE}{pos:Pos}
theorem fin_bl{pins:List (Addr×Obj)}{σ:St}{H:Hp}{s:Shared}{Q:VK}{k k':Bool}(I:Inv X pins σ H s)(q:Q (.bl k) H)(e:k=k'):EP X pins σ Q (.bool k') s:=by
 subst e
 exact⟨.bl k,H,I,rfl,q⟩
theorem op_lt:OpR X (compareOp .Lt) (rI0 fun i j=>.bl (decide (i<j))):=opB0 fun _ _ _ _ _ _ _ q=>lt_int q
theorem op_le:OpR X (compareOp .LtE) (rI0 fun i j=>.bl (decide (i≤j))):=opB0 fun _ _ _ _ _ _ _ q=>le_int q
theorem op_gt:OpR X (compareOp .Gt) (rI0 fun i j=>.bl (decide (j<i))):=opB0 fun _ _ _ _ _ _ _ q=>gt_int q
theorem op_ge:OpR X (compareOp .GtE) (rI0 fun i j=>.bl (decide (j≤i))):=opB0 fun _ _ _ _ _ _ _ q=>ge_int q
theorem op_notN:OpR X (compareOp .IsNot) (fun x y H Q=>y=.non/\Q (.bl (!decide (x=.non))) H):=by
 intro pins s σ H x y v u Q I rx ry h
 obtain⟨rfl,q⟩:=h
 cases ry
 refine isnot_none_gen (fin_bl I q ?_)
 cases x<;>first
  |(cases rx;rfl)
  |(obtain⟨t,rfl⟩:=rx;rfl)
theorem nomark(b:Expr){op:CmpOp}(h:op≠.In:=by decide)(h2:op≠.NotIn:=by decide):behindInMarks op b=false:=by
 have e1:(op==CmpOp.In)=false:=by cases op<;>first | rfl | exact absurd rfl h
 have e2:(op==CmpOp.NotIn)=false:=by cases op<;>first | rfl | exact absurd rfl h2
 cases b<;>simp[behindInMarks,e1,e2]
theorem pe_cmpR{op:CmpOp}{r:R2}(ho:OpR X (compareOp op) r)(ha:PE X a ta)(hb:PE X b tb)(hm:behindInMarks op b=false):PE X (.Compare a [op] [b] pos) (tOp r ta tb):=by
 intro pins s σ H Q I h
 exact wpAny_Compare1 (binT ha hb I h fun v u s2 x y H2 I2 rx ry q=>ho pins s2 σ H2 x y v u Q I2 rx ry q) hm
def tTest(t:TE):TT:=fun σ H Q=>t σ H fun x H'=>∃k,x=.bl k/\Q k H'
theorem pt_cmpR{op:CmpOp}{r:R2}(ho:OpR X (compareOp op) r)(ha:PE X a ta)(hb:PE X b tb)(hm:behindInMarks op b=false):PT X (.Compare a [op] [b] pos) (tTest (tOp r ta tb)):=by
 intro pins s σ H Q I h
 refine wpAny_isTrue_Compare1 (thn (ha pins s σ H _ I h) fun v s1 ⟨x,H1,I1,r1,q1⟩=>thn (hb pins s1 σ H1 _ I1 q1) fun u s2 ⟨y,H2,I2,r2,q2⟩ =>
  thn (ho pins s2 σ H2 x y v u _ I2 r1 r2 q2) fun c s3 ⟨z,H3,I3,r3,k,e,q3⟩=>?_) hm
 subst e
 cases r3
 exact wpAny_truthy_bool ⟨H3,I3,q3⟩
theorem line63:(sizeLine:Nat)<2 ^ 63:=by rw[sizeLine_eq];decide
theorem vals1{x:V}{us:List Value}(r:Vals [x] us):∃u,us=[u]/\RelV x u:=by
 cases r with
 | cons r1 r2=>cases r2;exact⟨_,rfl,r1⟩
theorem vals2{x y:V}{us:List Value}(r:Vals [x,y] us):∃u w',us=[u,w']/\RelV x u/\RelV y w':=by
 cases r with
 | cons r1 r2 =>
  cases r2 with
  | cons r3 r4=>cases r4;exact⟨_,_,rfl,r1,r3⟩
theorem call_int1:CallR X (.type "int") (fun xs H Q=>(∃i,xs=[.int i]/\Q (.int i) H)∨∃k,xs=[.bl k]/\Q (.int (if k then 1 else 0)) H):=by
 intro pins s σ H xs us Q I r h
 rcases h with⟨i,rfl,q⟩ |⟨k,rfl,q⟩
 ·obtain⟨u,rfl,t,rfl⟩:=vals1 r
  exact call_int_int ⟨.int i,H,I,⟨_,rfl⟩,q⟩
 ·obtain⟨u,rfl,r1⟩:=vals1 r
  cases r1
  exact call_int_bool ⟨.int (if k then 1 else 0),H,I.tok _,⟨_,rfl⟩,q⟩
end
end L2
namespace L2
open PySem PySem.Spec PyProof.Rows
structure ObjM (h:Heap) (x dx C:Addr) (mA:Str→Option Value):Prop where
 obj:h.get? x=some (PySem.W.instObj C dx)
 ns:h.Ns1 dx mA
 ne:dx≠x
theorem lookIn_ns{h:Heap}{dx:Addr}{mA:Str->Option Value}(n:h.Ns1 dx mA):∃od,h.get? dx=some od/\∀name,PySem.W.lookIn name od=some (mA name):=by
 obtain⟨o,es,ep,ho,hd,hk,_,hm⟩:=n
 refine⟨o,ho,fun name=>?_⟩
 have e:=hm name
 unfold nsFind findBy at e
 rw[←Array.find?_toList]at e
 unfold PySem.W.lookIn
 rw[hd]
 dsimp only
 split
 ·rename_i y q
  rw[q]at e
  exact congrArg some e
 ·rename_i q
  rw[q]at e
  have a:es.toList.any (·.refKey)=false:=by
   rw[List.any_eq_false]
   intro y hy
   obtain⟨z,t,hkey⟩:=hk y (Array.mem_toList_iff.mp hy)
   simp[DictEntry.refKey,hkey]
  have a':¬es.toList.any (·.refKey)=true:=by rw[a];exact Bool.false_ne_true
  rw[if_neg a']
  exact congrArg some e
theorem ObjM.look{h:Heap}{x dx C:Addr}{mA:Str->Option Value}(I:ObjM h x dx C mA):∃od,PySem.W.InstAt h x (PySem.W.instObj C dx) C (some od)/\∀name,PySem.W.lookIn name od=some (mA name) :=
 let ⟨od,ho,hl⟩:=lookIn_ns I.ns
 ⟨od,⟨I.obj,rfl,rfl,ho⟩,hl⟩
section
variable {prog:Program}{w:World}{A:Around}{E:Value->Shared->Prop}{s:Shared}{K:PySem.W.Frag}{x dx C f:Addr}{mA:Str->Option Value}{name:Str}{v:Value}
theorem get_map{expr:Bool}{Q:Value->Shared->Prop}(X:K.In s.heap)(I:ObjM s.heap x dx C mA)(hg:PySem.W.plainGet K C name=true)(hh:PySem.W.hasDictIn K C=true)
  (ha:PySem.W.findIn K (.ref C) name=some none) (hv:mA name=some v) (hv':PySem.W.handedIn v=true) (h:Q v { s with toks:=s.toks+1 }) :
  wpAny (model prog w) A (getAttr (.ref x) name expr) Q E s:=by
 obtain⟨od,J,hl⟩:=I.look
 exact PySem.W.get_value X J (PySem.W.plainGet_of hg).1 (PySem.W.findObj_own hh ha rfl (by rw[hl,hv])) hv' h
theorem get_meth{pl:Sem Bool}{Q:Value×List Value->Shared->Prop}(X:K.In s.heap)(I:ObjM s.heap x dx C mA)(hg:PySem.W.plainGet K C name=true)
  (hf:PySem.W.findIn K (.ref C) name=some (some (.ref f))) (ht:PySem.W.isFn K (.ref f)=true) (hv:mA name=none) (h:Q (.ref f,[.ref x]) s) :
  wpAny (model prog w) A (getMethod (.ref x) name pl) Q E s:=by
 obtain⟨od,J,hl⟩:=I.look
 exact PySem.W.method_fn X J (PySem.W.plainGet_of hg).1 (PySem.W.plainGet_of hg).2 hf (beq_iff_eq.mp ht) (by show(PySem.W.lookIn name od).map (·.isSome)=some false;rw[hl,hv];rfl) h
theorem set_map{ns:List Str}{Q:Unit->Shared->Prop}(X:K.In s.heap)(I:ObjM s.heap x dx C mA)
  (hs:PySem.W.findIn K (.ref C) "__setattr__"=some (some (.builtin "object.__setattr__"))) (hp:PySem.W.plainOver K C=true) (ht:PySem.W.takerIn K C name=some none) (hh:PySem.W.hasDictIn K C=true)
  (hw:PySem.Within mA ns) (hsz:ns.length≤sizeLine)
  (h:∀h',ObjM h' x dx C (fun y=>if y=name then some v else mA y)->Heap.SameBut dx s.heap h'->Q () { s with heap:=h',toks:=s.toks+2 }) :
  wpAny (model prog w) A (setAttr (.ref x) name v) Q E s:=by
 obtain⟨od,J,hl⟩:=I.look
 refine PySem.W.set_plain X J hs (PySem.W.osa_open (s:={ s with toks:=s.toks+1 }) (r:=none) X J hp ht fun b=>?_)
 obtain⟨cd,hc,hd'⟩:=PySem.W.any_some hh
 have hx:s.heap.get? x=some ⟨.ref C,some dx,.plain,#[]⟩:=I.obj
 refine wpAny_bind (wpAny_pure (wpAny_bind (wpAny_bind (wpAny_loadPart hx (wpAny_bind (PySem.W.Looks.here (s:={ s with toks:=s.toks+1 }) (PySem.W.looks_clsIn X hc) ?_))))))
 rw[hd']
 refine wpAny_pure (a:=some dx) (wpAny_bind (wpAny_pure (wpAny_bind ?_)))
 refine wpAny_nsSet1 (s:={ s with toks:=s.toks+1 }) I.ns fun h' hn2 hs2=>?_
 obtain⟨oD,esD,epD,hoD,hdD,hcD⟩:=hn2.count (PySem.Within.cons name v hw)
 refine wpAny_bind (wpAny_lookBehind hoD (by rw[hdD];exact pastItsLine_dict (Nat.le_trans hcD (by rw[List.length_cons];omega))) ?_)
 exact wpAny_pure (h _ ⟨(hs2.2 _ (Ne.symm I.ne)).trans I.obj,hn2,I.ne⟩ hs2)
theorem make_map{R:Result->Shared->Prop}{vs:List Value}{kw:List (Str×Value)}(X:K.In s.heap)(hm:PySem.W.makesIn K C=true)
  (hi:PySem.W.findIn K (.ref C) "__init__"=some (some (.ref f))) (hf:PySem.W.typeIn K (.ref f)=some (.type "function"))
  (h:codeAny (model prog w) (A.under (.builtin "type.__call__" ⟨.ref C::vs,kw⟩)) (.call (.ref f) ⟨.ref (s.heap.objs.size+1)::vs,kw⟩) (PySem.W.InitBack (s.heap.objs.size+1) R)
   { s with heap:=(s.heap.push PySem.W.emptyDict).push (PySem.W.instObj C s.heap.objs.size) }) :
  codeAny (model prog w) A (.call (.ref C) ⟨vs,kw⟩) R s:=by
 obtain⟨hh,g,d,t,os⟩:=s
 exact PySem.W.make_core (PySem.W.makes_of X hm) (PySem.W.looks_findIn X hi) (fun self=>PySem.W.bind_fn X self hf) (.inl rfl) h
end
def putF(f:Str)(v:V):List (Str×V)->List (Str×V)
 | []=>[(f,v)]
 |(g,x)::r=>if g=f then(g,v)::r else(g,x)::putF f v r
theorem lookup_putF(f g:Str)(v:V):∀fs:List (Str×V),(putF f v fs).lookup g=if g=f then some v else fs.lookup g
 | []=>by
  show List.lookup g [(f,v)]=_
  by_cases h:g=f
  ·have hb:(g==f)=true:=beq_iff_eq.mpr h
   simp only[List.lookup,hb,if_pos h]
  ·have hb:(g==f)=false:=beq_eq_false_iff_ne.mpr h
   simp only[List.lookup,hb,if_neg h]
 |(k,x)::r=>by
  have ih:=lookup_putF f g v r
  rw[show putF f v ((k,x)::r)=(if k=f then(k,v)::r else(k,x)::putF f v r)from rfl]
  by_cases hk:k=f
  ·rw[if_pos hk]
   by_cases h:g=k
   ·have hb:(g==k)=true:=beq_iff_eq.mpr h
    simp only[List.lookup,hb,if_pos (h.trans hk)]
   ·have hb:(g==k)=false:=beq_eq_false_iff_ne.mpr h
    simp only[List.lookup,hb,if_neg (fun e:g=f=>h (e.trans hk.symm))]
  ·rw[if_neg hk]
   by_cases h:g=k
   ·have hb:(g==k)=true:=beq_iff_eq.mpr h
    simp only[List.lookup,hb,if_neg (fun e:g=f=>hk (h.symm.trans e))]
   ·have hb:(g==k)=false:=beq_eq_false_iff_ne.mpr h
    simp only[List.lookup,hb]
    exact ih
theorem keys_putF(f:Str)(v:V):∀fs:List (Str×V),f∈(putF f v fs).map (·.1)/\∀g,g∈fs.map (·.1)->g∈(putF f v fs).map (·.1)
 | []=>⟨by simp[putF],fun g h=>by simp at h⟩
 |(k,x)::r=>by
  obtain⟨i1,i2⟩:=keys_putF f v r
  rw[show putF f v ((k,x)::r)=(if k=f then(k,v)::r else(k,x)::putF f v r)from rfl]
  by_cases hk:k=f
  ·rw[if_pos hk]
   subst hk
   exact⟨by simp,fun g h=>by simpa using h⟩
  ·rw[if_neg hk]
   refine⟨?_,fun g h=>?_⟩
   ·rw[List.map_cons]
    exact List.mem_cons_of_mem _ i1
   ·rw[List.map_cons]at h ⊢
    rcases List.mem_cons.mp h with e | e
    ·exact List.mem_cons.mpr (.inl e)
    ·exact List.mem_cons_of_mem _ (i2 g e)
theorem length_putF(f:Str)(v:V):∀fs:List (Str×V),(putF f v fs).length≤fs.length+1
 | []=>by simp[putF]
 |(k,x)::r=>by
  have ih:=length_putF f v r
  rw[show putF f v ((k,x)::r)=(if k=f then(k,v)::r else(k,x)::putF f v r)from rfl]
  by_cases hk:k=f
  ·rw[if_pos hk,List.length_cons,List.length_cons];omega
  ·rw[if_neg hk,List.length_cons,List.length_cons];omega
theorem RelO.some_of{v:V}{o:Option Value}(r:RelO (some v) o):∃u,o=some u/\RelV v u:=by
 cases o with
 | none=>exact(show False from r).elim
 | some u=>exact⟨u,rfl,r⟩
theorem RelO.none_of{o:Option Value}(r:RelO none o):o=none:=by
 cases o with
 | none=>rfl
 | some u=>exact(show False from r).elim
theorem handed_of{v:V}{u:Value}(r:RelV v u):PySem.W.handedIn u=true:=by
 cases v with
 | non=>cases (show u=Value.none from r);rfl
 | bl b=>cases (show u=Value.bool b from r);rfl
 | int i=>obtain⟨t,e⟩:=(show ∃t,u=Value.int i t from r);cases e;rfl
 | str x=>obtain⟨t,e⟩:=(show ∃t,u=Value.str x t from r);cases e;rfl
 | byt b=>obtain⟨t,e⟩:=(show ∃t,u=Value.bytes b t from r);cases e;rfl
 | flt b=>obtain⟨t,e⟩:=(show ∃t,u=Value.float b t from r);cases e;rfl
 | ref a=>cases (show u=Value.ref a from r);rfl
 | ty n=>cases (show u=Value.type n from r);rfl
section
variable {P:Program}{w:World}{H H':Hp}{h h':Heap}{a C dx:Addr}{fs fs':List (Str×V)}
theorem ins_get(hok:HOk P w H h)(e:H a=some (.ins C dx fs)):∃mA,ObjM h a dx C mA/\(∀f,RelO (fs.lookup f) (mA f))/\PySem.Within mA (fs.map (·.1))/\fs.length≤1000/\H dx=some (.own a):=by
 obtain⟨d,z,ne,ob,mA,n,r,q⟩:=(show ObjOk P w H h a (.ins C dx fs)from hok a _ e)
 exact⟨mA,⟨ob,n,ne⟩,r,q,z,d⟩
end
structure Cls (K:PySem.W.Frag) (C:Addr):Prop where
 pg:PySem.W.plainGet K C Str.empty=true
 hd:PySem.W.hasDictIn K C=true
 po:PySem.W.plainOver K C=true
 sa:PySem.W.findIn K (.ref C) "__setattr__"=some (some (.builtin "object.__setattr__"))
theorem Cls.get{K:PySem.W.Frag}{C:Addr}(c:Cls K C)(f:Str):PySem.W.plainGet K C f=true:=c.pg
def NoAttr(K:PySem.W.Frag)(C:Addr)(f:Str):Prop:=PySem.W.findIn K (.ref C) f=some none
theorem NoAttr.taker{K:PySem.W.Frag}{C:Addr}{f:Str}(n:NoAttr K C f):PySem.W.takerIn K C f=some none:=by
 unfold PySem.W.takerIn
 rw[show PySem.W.findIn K (.ref C) f=some none from n]
 rfl
structure Meth (K:PySem.W.Frag) (C:Addr) (m:Str) (f:Addr):Prop where
 at_:PySem.W.findIn K (.ref C) m=some (some (.ref f))
 fn:PySem.W.isFn K (.ref f)=true
 kp:PySem.W.keepIn K (.ref f)=true
section
variable {X:Cx}{pins:List (Addr×Obj)}{σ:St}{H:Hp}{s:Shared}{a C dx:Addr}{fs:List (Str×V)}{f:Str}{v:V}{A:Around}{E:Value->Shared->Prop}
theorem getattr_ok{b:Bool}{Q:Value->Shared->Prop}(I:Inv X pins σ H s)(e:H a=some (.ins C dx fs))(c:Cls X.K C)(n:NoAttr X.K C f)(l:fs.lookup f=some v)
  (h:∀u s',Inv X pins σ H s'->RelV v u->Q u s'):wpAny (model X.prog X.w) A (getAttr (.ref a) f b) Q E s:=by
 obtain⟨mA,O,r,_,_,_⟩:=ins_get I.hok e
 obtain⟨u,hu,ru⟩:=RelO.some_of (v:=v) (o:=mA f) (by rw[←l];exact r f)
 exact get_map I.kIn O (c.get f) c.hd n hu (handed_of ru) (h u _ (I.tok _) ru)
theorem getmeth_ok{m:Str}{g:Addr}{pl:Sem Bool}{Q:Value×List Value->Shared->Prop}(I:Inv X pins σ H s)(e:H a=some (.ins C dx fs))(c:Cls X.K C)(k:Meth X.K C m g)(l:fs.lookup m=none)
  (h:Q (.ref g,[.ref a]) s):wpAny (model X.prog X.w) A (getMethod (.ref a) m pl) Q E s:=by
 obtain⟨mA,O,r,_,_,_⟩:=ins_get I.hok e
 have hn:mA m=none:=RelO.none_of (by rw[←l];exact r m)
 exact get_meth I.kIn O (c.get m) k.at_ k.fn hn h
theorem setattr_ok{y:V}{u:Value}{Q:Unit->Shared->Prop}(I:Inv X pins σ H s)(e:H a=some (.ins C dx fs))(c:Cls X.K C)(n:NoAttr X.K C f)(hl:fs.length<1000)(ry:RelV y u)
  (h:∀s',Inv X pins σ (upd H a (.ins C dx (putF f y fs))) s'->Q () s'):wpAny (model X.prog X.w) A (setAttr (.ref a) f u) Q E s:=by
 obtain⟨mA,O,r,wi,_,ho⟩:=ins_get I.hok e
 have hz:(fs.map (·.1)).length≤sizeLine:=by rw[List.length_map,sizeLine_eq];omega
 refine set_map I.kIn O c.sa c.po n.taker c.hd wi hz fun h' O' sb=>h _ ?_
 have hd:∃o,h'.get? dx=some o:=let ⟨o,_,_,e',_⟩:=O'.ns;⟨o,e'⟩
 refine I.write (x:=a) (e:=dx) (by rw[e];exact True.intro) (.inr ho) (fun b q hb z=>(sb.2 b hb).trans z) hd ?_
 refine⟨by rw[upd_ne O.ne];exact ho,?_,O.ne,O'.obj,_,O'.ns,fun g=>?_,fun g hg=>?_⟩
 ·have:=length_putF f y fs;omega
 ·show RelO ((putF f y fs).lookup g) (if g=f then some u else mA g)
  rw[lookup_putF]
  by_cases q:g=f
  ·rw[if_pos q,if_pos q];exact ry
  ·rw[if_neg q,if_neg q];exact r g
 ·by_cases q:g=f
  ·rw[q];exact(keys_putF f y fs).1
  ·refine(keys_putF f y fs).2 g (wi g fun z=>hg ?_)
   show(if g=f then some u else mA g)=none
   rw[if_neg q];exact z
theorem Inv.made(I:Inv X pins σ H s):Inv X pins σ (upd (upd H s.heap.objs.size (.own (s.heap.objs.size+1))) (s.heap.objs.size+1) (.ins C s.heap.objs.size []))
  { s with heap:=(s.heap.push PySem.W.emptyDict).push (PySem.W.instObj C s.heap.objs.size) }:=by
 have e1:(s.heap.push PySem.W.emptyDict).get? s.heap.objs.size=some PySem.W.emptyDict:=Heap.get?_push_size s.heap rfl
 have e2:((s.heap.push PySem.W.emptyDict).push (PySem.W.instObj C s.heap.objs.size)).get? (s.heap.objs.size+1)=some (PySem.W.instObj C s.heap.objs.size):=by
  have:=Heap.get?_push_size (s.heap.push PySem.W.emptyDict) (o:=PySem.W.instObj C s.heap.objs.size) rfl
  rwa [Heap.size_push]at this
 have e3:(s.heap.push PySem.W.emptyDict).Ns s.heap.objs.size (fun _=>none):=⟨PySem.W.emptyDict,#[],_,e1,rfl,(fun e he=>absurd he (by simp)),fun _=>rfl⟩
 have I1:=I.laid (a:=s.heap.objs.size) (o:=.own (s.heap.objs.size+1)) (h':=s.heap.push PySem.W.emptyDict) (t':=s.toks) (fun b u q=>Heap.get?_push_of_some _ q) (Nat.le_refl _) ⟨_,e1⟩
 refine I1.laid (a:=s.heap.objs.size+1) (o:=.ins C s.heap.objs.size []) (t':=s.toks) (fun b u q=>Heap.get?_push_of_some _ q) (Nat.le_of_eq (Heap.size_push _ _)) ?_
 have ne:s.heap.objs.size≠s.heap.objs.size+1:=Nat.ne_of_lt (Nat.lt_succ_self _)
 refine⟨by rw[upd_ne ne,upd_same],Nat.zero_le _,ne,e2,fun _=>none,(Heap.Ns1.of_empty e3).at fun o q=>Heap.get?_push_of_some _ q,fun _=>True.intro,fun y hy=>absurd rfl hy⟩
theorem attr_of{prog:Program}{w:World}{env:Env}{e:Expr}{f:Str}{pos:Pos}{s:Shared}{Q:Value->Shared->Prop}(hb:attributeBase e f env (eval e env)=eval e env)
  (h:wpAny (model prog w) A (eval e env) (fun o s₁=>wpAny (model prog w) A (getAttr o f true) Q E s₁) E s):wpAny (model prog w) A (eval (.Attribute e f pos) env) Q E s :=
 Attribute_any_ h (by rw[arm_eval_Attribute,hb])
end
def tFld(K:PySem.W.Frag)(ta:TE)(f:Str):TE:=fun σ H Q=>ta σ H fun x H1=>∃a C dx fs v,x=.ref a/\H1 a=some (.ins C dx fs)/\Cls K C/\NoAttr K C f/\fs.lookup f=some v/\Q v H1
def sFld(K:PySem.W.Frag)(ta tv:TE)(f:Str):TS:=fun D σ H=>tv σ H fun y H1=>ta σ H1 fun x H2=>∃a C dx fs,x=.ref a/\H2 a=some (.ins C dx fs)/\Cls K C/\NoAttr K C f/\fs.length<1000 /\
 D.nx σ (upd H2 a (.ins C dx (putF f y fs)))
section
variable {X:Cx}{o e value:Expr}{f:Str}{pos pos' tpos:Pos}{ta tv:TE}
theorem pe_fld(he:PE X e ta)(hb:attributeBase e f X.env (eval e X.env)=eval e X.env):PE X (.Attribute e f pos) (tFld X.K ta f):=by
 intro pins s σ H Q I h
 refine attr_of hb (thn (he pins s σ H _ I h) fun u s1 ⟨x,H1,I1,rx,a,C,dx,fs,v,ex,ea,c,n,l,q⟩=>?_)
 subst ex
 obtain rfl:u=Value.ref a:=rx
 exact getattr_ok I1 ea c n l fun u' s2 I2 ru=>⟨v,H1,I2,ru,q⟩
theorem ps_fld(ha:PE X o ta)(hv:PE X value tv)(hs:swapsWith value (some (.Attribute o f pos')) pos.line X.env=pure false):PS X (.Assign [.Attribute o f pos'] value pos) (sFld X.K ta tv f):=by
 intro pins s σ H D I h
 refine plainObj_wpAny_Assign_Attribute (thn (hv pins s σ H _ I h) fun u s1 ⟨y,H1,I1,ry,q⟩=>thn (ha pins s1 σ H1 _ I1 q) fun ov s2 ⟨x,H2,I2,rx,a,C,dx,fs,ex,ea,c,n,l,q2⟩=>?_) hs
 subst ex
 obtain rfl:ov=Value.ref a:=rx
 exact setattr_ok I2 ea c n l ry fun s3 I3=>⟨σ,_,I3,q2⟩
theorem methcall_of{pl:Sem Bool}{m:Str}{apos:Pos}{args:List Expr}{pins:List (Addr×Obj)}{s:Shared}{σ:St}{H:Hp}{Q:Value->Shared->Prop}{te:TE}(he:PE X e te)(I:Inv X pins σ H s)
  (h:te σ H fun x H1=>∃a C dx fs g,x=.ref a/\H1 a=some (.ins C dx fs)/\Cls X.K C/\Meth X.K C m g/\fs.lookup m=none /\
   ∀s1,Inv X pins σ H1 s1->wpAny (model X.prog X.w) X.A (callWith pos (.ref g) [.ref a] (backTo pos (starEach args X.env)) (backToKw pos (keywordEach [] X.env))) Q X.xe s1)
  (ht:eval (.Call (.Attribute e m apos) args [] pos) X.env=(do
   let ov←eval e X.env
   standAt apos.atName
   let (f,first)←holding [ov] (getMethod ov m pl)
   callWith pos f first (backTo pos (starEach args X.env)) (backToKw pos (keywordEach [] X.env)))) :
  wpAny (model X.prog X.w) X.A (eval (.Call (.Attribute e m apos) args [] pos) X.env) Q X.xe s:=by
 refine PySem.W.methodCall_KW (pl:=pl) (thn (he pins s σ H _ I h) fun u s1 ⟨x,H1,I1,rx,a,C,dx,fs,g,ex,ea,c,k,l,q⟩=>?_) ht
 subst ex
 obtain rfl:u=Value.ref a:=rx
 exact getmeth_ok I1 ea c k l (q s1 I1)
end
section
variable {X:Cx}{pins:List (Addr×Obj)}{σ:St}{H:Hp}{s:Shared}{A:Around}{E:Value->Shared->Prop}{Q:Value->Shared->Prop}{c:Value}{b:Bool}
inductive TyOf (K:PySem.W.Frag) (H:Hp):V→Value→Prop where
 | non:TyOf K H .non (.type "NoneType")
 | bl (x:Bool):TyOf K H (.bl x) (.type "bool")
 | int (i:Int):TyOf K H (.int i) (.type "int")
 | str (x:Str):TyOf K H (.str x) (.type "str")
 | flt (x:UInt64):TyOf K H (.flt x) (.type "float")
 | lst {a:Addr} {xs:List V} (e:H a=some (.lst xs)):TyOf K H (.ref a) (.type "list")
 | frz {a:Addr} {o:Obj} {xs:List V} (e:H a=some (.frz o (.lst xs))):TyOf K H (.ref a) (.type "list")
 | tup {a:Addr} {xs:List V} (e:H a=some (.tup xs)):TyOf K H (.ref a) (.type "tuple")
 | dK {a:Addr} {kvs:List (Key×V)} (e:H a=some (.dK kvs)):TyOf K H (.ref a) (.type "dict")
 | dT {a:Addr} {kvs:List (List Key×V)} (e:H a=some (.dT kvs)):TyOf K H (.ref a) (.type "dict")
 | ins {a C dx:Addr} {fs:List (Str×V)} (e:H a=some (.ins C dx fs)) (cl:Cls K C) (ha:PySem.W.findIn K (.ref C) "__class__"=some (some (.builtin "object.__class__")))
   (hn:PySem.W.specialIn K (.builtin "object.__class__") "__get__"=some (some (.builtin "getset_descriptor.__get__"))) (htk:PySem.W.takesIn K (.builtin "object.__class__")=some true)
   (hm:PySem.W.mroIn K C (.type "object")=some true):TyOf K H (.ref a) (.ref C)
theorem isinst_ok{x:V}{u t:Value}(I:Inv X pins σ H s)(rx:RelV x u)(ty:TyOf X.K H x t)(e:PySem.W.kitOne X.K t c=some b)(h:∀tk,Q (.bool b) { s with toks:=tk }) :
  wpAny (model X.prog X.w) A (call (.builtin "isinstance") [u,c]) Q E s:=by
 cases ty with
 | non=>cases (show u=Value.none from rx);exact PySem.W.kia_one PySem.W.kitx_none I.kIn True.intro e (fun z=>nomatch z) h
 | bl y=>cases (show u=Value.bool y from rx);exact PySem.W.kia_one PySem.W.kitx_bool I.kIn True.intro e (fun z=>nomatch z) h
 | int i=>obtain⟨t,q⟩:=(show ∃t,u=Value.int i t from rx);cases q;exact PySem.W.kia_one PySem.W.kitx_int I.kIn True.intro e (fun z=>nomatch z) h
 | str y=>obtain⟨t,q⟩:=(show ∃t,u=Value.str y t from rx);cases q;exact PySem.W.kia_one PySem.W.kitx_str I.kIn True.intro e (fun z=>nomatch z) h
 | flt y=>obtain⟨t,q⟩:=(show ∃t,u=Value.float y t from rx);cases q;exact PySem.W.kia_one PySem.W.kitx_float I.kIn True.intro e (fun z=>nomatch z) h
 | @lst a xs ea =>
  cases (show u=Value.ref a from rx)
  obtain⟨_,_,n,_,h1⟩:=(show ObjOk X.prog X.w H s.heap a (.lst xs)from I.hok a _ ea)
  exact PySem.W.kia_one PySem.W.kitx_list I.kIn ⟨_,h1,rfl⟩ e (fun z=>nomatch z) h
 | @frz a ob xs ea =>
  cases (show u=Value.ref a from rx)
  obtain⟨_,_,_,n,_,h1⟩:=(show ObjOk X.prog X.w H s.heap a (.frz ob (.lst xs))from I.hok a _ ea)
  exact PySem.W.kia_one PySem.W.kitx_list I.kIn ⟨_,h1,rfl⟩ e (fun z=>nomatch z) h
 | @tup a xs ea =>
  cases (show u=Value.ref a from rx)
  obtain⟨_,_,_,p⟩:=(show ObjOk X.prog X.w H s.heap a (.tup xs)from I.hok a _ ea)
  obtain⟨o,h1,h2,_⟩:=p
  exact PySem.W.kia_one PySem.W.kitx_tuple I.kIn ⟨o,h1,h2⟩ e (fun z=>nomatch z) h
 | @dK a kvs ea =>
  cases (show u=Value.ref a from rx)
  obtain⟨_,_,vs,_,p⟩:=(show ObjOk X.prog X.w H s.heap a (.dK kvs)from I.hok a _ ea)
  obtain⟨o,es,ep,h1,h2,_⟩:=p
  exact PySem.W.kia_one PySem.W.kitx_dict I.kIn ⟨o,h1,h2.1⟩ e (fun z=>nomatch z) h
 | @dT a kvs ea =>
  cases (show u=Value.ref a from rx)
  obtain⟨_,_,xs,_,o,es,ep,h1,h2,_⟩:=(show ObjOk X.prog X.w H s.heap a (.dT kvs)from I.hok a _ ea)
  exact PySem.W.kia_one PySem.W.kitx_dict I.kIn ⟨o,h1,h2.1⟩ e (fun z=>nomatch z) h
 | @ins a C dx fs ea cl ha hn htk hm =>
  cases (show u=Value.ref a from rx)
  obtain⟨mA,O,_⟩:=ins_get I.hok ea
  obtain⟨od,J,_⟩:=O.look
  exact PySem.W.kia_one (PySem.W.kitx_own (cl.get _) cl.hd ha hn htk hm) I.kIn J e (fun z=>nomatch z) h
end
end L2
namespace L2
open PySem PySem.Spec PyProof.Rows
structure Room (k:Nat) (A:Around):Prop where
 hd:A.handled=none
 dp:A.depth+3*k+5<recursionLimit
 un:A.units+16*k+200<cLine
theorem Room.mono{j k:Nat}{A:Around}(r:Room k A)(h:j≤k):Room j A:=⟨r.hd,by have:=r.dp;omega,by have:=r.un;omega⟩
theorem Room.deeper{k:Nat}{A:Around}(r:Room (k+1) A)(env:Env):Room k (A.deeper env) :=
 ⟨r.hd,by have:=r.dp;show A.depth+1+3*k+5<_;omega,by have:=r.un;show A.units+3+16*k+200<_;omega⟩
theorem make_depth{A:Around}{C:Addr}{us:List Value}{kw:List (Str×Value)}:(A.under (.builtin "type.__call__" ⟨.ref C::us,kw⟩)).depth=A.depth+1:=by
 first | rfl | simp[Around.under,Code.weight,Code.isCreation,Code.isGuard,Code.isCaller,Code.frames,Code.isFrame,guardIds]
theorem make_units{A:Around}{C:Addr}{us:List Value}{kw:List (Str×Value)}:(A.under (.builtin "type.__call__" ⟨.ref C::us,kw⟩)).units=A.units+1:=by
 first | rfl | simp[Around.under,Code.cUnits,Code.frames,Code.isFrame]
theorem Room.make{k:Nat}{A:Around}(r:Room (k+1) A)(C:Addr)(us:List Value)(kw:List (Str×Value)):Room k (A.under (.builtin "type.__call__" ⟨.ref C::us,kw⟩)) :=
 ⟨r.hd,by have:=r.dp;rw[make_depth];omega,by have:=r.un;rw[make_units];omega⟩
theorem Room.depth{k:Nat}{A:Around}(r:Room k A):A.depth<recursionLimit:=by have:=r.dp;omega
theorem Room.units{k:Nat}{A:Around}(r:Room k A):A.units+64<cLine:=by have:=r.un;omega
def tNil:TA:=fun _ H Q=>Q [] H
def tCons(ta:TE)(tr:TA):TA:=fun σ H Q=>ta σ H fun x H1=>tr σ H1 fun xs H2=>Q (x::xs) H2
section
variable {X:Cx}{e:Expr}{es:List Expr}{te:TE}{t:TA}{pos:Pos}
theorem pa_nil:PA X [] tNil:=fun _ _ _ _ H Q I h=>Calls.spliced_nil ⟨[],H,I,.nil,h⟩
theorem pa_cons(ha:PE X e te)(hr:PA X es t)(hs:starEach (e::es) X.env=(false,eval e X.env)::starEach es X.env:=by rfl):PA X (e::es) (tCons te t):=by
 intro pos pins s σ H Q I h
 rw[hs]
 show wpAny _ _ (spliced ((false,eval e X.env)::backTo pos (starEach es X.env))) _ _ s
 refine Calls.spliced_cons (thn (ha pins s σ H _ I h) fun u s1 ⟨x,H1,I1,r1,q1⟩=>?_)
 exact thn (hr pos pins s1 σ H1 _ I1 q1) fun us s2 ⟨xs,H2,I2,r2,q2⟩=>⟨x::xs,H2,I2,.cons r1 r2,q2⟩
def tTup(t:TA):TE:=fun σ H Q=>t σ H fun xs H1=>xs.length≤sizeLine/\∀p,H1 p=none->Q (.ref p) (upd H1 p (.tup xs))
def tLst(t:TA):TE:=fun σ H Q=>t σ H fun xs H1=>xs.length≤sizeLine/\∀p,H1 p=none->Q (.ref p) (upd H1 p (.lst xs))
theorem pe_tup{x1}(h:PA X es t):PE X (.Tuple es x1 pos) (tTup t):=by
 intro pins s σ H Q I hq
 refine wpAny_Tuple_spliced (thn (h pos pins s σ H _ I hq) fun us s1 ⟨xs,H1,I1,r,z,q⟩=>⟨by rw[←r.length];exact z,?_⟩)
 have hf:H1 s1.heap.objs.size=none:=I1.hok.fresh (Nat.le_refl _)
 refine⟨.ref s1.heap.objs.size,upd H1 s1.heap.objs.size (.tup xs),I1.laid (t':=s1.toks) (fun b u e=>Heap.get?_push_of_some _ e) (Nat.le_refl _) ?_,rfl,q _ hf⟩
 exact⟨z,us,r,⟨_,Heap.get?_push_size _ rfl,rfl,_,rfl⟩⟩
theorem pe_lst(h:PA X es t):PE X (.List es pos) (tLst t):=by
 intro pins s σ H Q I hq
 refine wpAny_List_spliced (thn (h pos pins s σ H _ I hq) fun us s1 ⟨xs,H1,I1,r,z,q⟩=>⟨by rw[←r.length];exact z,?_⟩)
 have hf:H1 s1.heap.objs.size=none:=I1.hok.fresh (Nat.le_refl _)
 refine⟨.ref s1.heap.objs.size,upd H1 s1.heap.objs.size (.lst xs),I1.laid (t':=s1.toks) (fun b u e=>Heap.get?_push_of_some _ e) (Nat.le_refl _) ?_,rfl,q _ hf⟩
 exact⟨z,us,0,r,Heap.get?_push_size _ rfl⟩
end
abbrev Sp:=List V->Hp->VK->XK->Prop
abbrev CXT:=List Env->Hp->Shared->XK->Value->Shared->Prop
structure Env0 (P:Program) (w:World) (K:PySem.W.Frag) (mg:Str→Option Value) (base:Heap) (A:Around) (outer:List Env) (s:Shared) (H:Hp):Prop where
 frames:A.frames=some outer
 mod:Mod K mg base
 bs:∀b o,base.get? b=some o->s.heap.get? b=some o/\H b=none
 bsz:base.objs.size≤s.heap.objs.size
 funs:s.heap.FunFrames base outer
 frf:∀b∈frs outer,H b=none
 hok:HOk P w H s.heap
 bare:AllBare s.gens
def CE(outer:List Env)(P:Program)(w:World)(H:Hp)(s:Shared)(Q:VK)(u:Value)(s':Shared):Prop :=
 ∃v H',s'.os=s.os/\AllBare s'.gens/\Un (frs outer) [] H H' s.heap s'.heap/\HOk P w H' s'.heap/\RelV v u/\Q v H'
def CR(CX:CXT)(outer:List Env)(P:Program)(w:World)(H:Hp)(s:Shared)(Q:VK)(E:XK)(r:Result)(s':Shared):Prop :=
 match r with
 | .ok (.ret u)=>CE outer P w H s Q u s'
 | .ok _=>False
 | .error e=>CX outer H s E e s'
structure FnOk (P:Program) (w:World) (K:PySem.W.Frag) (mg:Str→Option Value) (base:Heap) (CX:CXT) (k:Nat) (f:Addr) (fd:FuncData) (ps:List Str) (sp:Sp):Prop where
 len:∀vs H Q E,sp vs H Q E->vs.length=ps.length
 run:∀(A:Around) (outer:List Env) (s:Shared) (H:Hp) (args:Args) (us:List Value) (vs:List V) (Q:VK) (E:XK),Room k A->Env0 P w K mg base A outer s H->BindsTo s fd args (ps.zip us)->Vals vs us->sp vs H Q E ->
  codeAny (model P w) A (.call (.ref f) args) (CR CX outer P w H s Q E) s
theorem Env0.make{P:Program}{w:World}{K:PySem.W.Frag}{mg:Str->Option Value}{base:Heap}{A:Around}{outer:List Env}{s:Shared}{H:Hp}(e:Env0 P w K mg base A outer s H)(C:Addr)(us:List Value)(kw:List (Str×Value)) :
  Env0 P w K mg base (A.under (.builtin "type.__call__" ⟨.ref C::us,kw⟩)) outer s H:=⟨by first | exact e.frames |(simpa[Around.under,Code.envs,Code.isFrame,pushEnvs]using e.frames),e.mod,e.bs,e.bsz,e.funs,e.frf,e.hok,e.bare⟩
section
variable {X:Cx}{pins:List (Addr×Obj)}{σ:St}{H:Hp}{s s':Shared}
theorem Inv.env0(I:Inv X pins σ H s):Env0 X.prog X.w X.K X.mg X.base X.A X.stack s H :=
 ⟨I.ok.frames,I.ok.mod,I.bs,Nat.le_trans I.ok.bsz I.sz,I.stack,I.stkFree,I.hok,I.bare⟩
theorem Inv.after{Q:VK}{u:Value}(I:Inv X pins σ H s)(h:CE X.stack X.prog X.w H s Q u s'):EP X pins σ Q u s':=by
 obtain⟨v,H',os,bare,un,hok,r,q⟩:=h
 obtain⟨hh,g,d,t,os'⟩:=s'
 obtain rfl:os'=s.os:=os
 exact⟨v,H',I.call (h':=hh) (g':=g) (d':=d) (t':=t) (ch:=[]) un hok bare (fun b z=>absurd z (by simp)),r,q⟩
end
def tCall(sp:Sp)(dvs:List V)(E:XK)(t:TA):TE:=fun σ H Q=>t σ H fun vs H1=>sp (vs++dvs) H1 Q E
def tMeth(C:Addr)(m:Str)(sp:Sp)(dvs:List V)(E:XK)(ta:TE)(t:TA):TE:=fun σ H Q=>ta σ H fun x H1=>∃a dx fs,x=.ref a/\H1 a=some (.ins C dx fs)/\fs.lookup m=none /\
 t σ H1 fun vs H2=>sp (x::(vs++dvs)) H2 Q E
def tMake(C:Addr)(sp:Sp)(dvs:List V)(E:XK)(t:TA):TE:=fun σ H Q=>t σ H fun vs H1=>∀x dx,H1 x=none->H1 dx=none->dx≠x ->
 sp (.ref x::(vs++dvs)) (upd (upd H1 dx (.own x)) x (.ins C dx [])) (fun v H2=>v=.non/\Q (.ref x) H2) E
def Binds(K:PySem.W.Frag)(fd:FuncData)(ps:List Str)(ds:List Value):Prop :=
 ∀(s:Shared) (us:List Value),K.In s.heap->(us++ds).length=ps.length->BindsTo s fd ⟨us,[]⟩ (ps.zip (us++ds))
theorem Binds.all{K:PySem.W.Frag}{fd:FuncData}{ps:List Str}(h:∀us:List Value,us.length=ps.length->bindArgs fd ⟨us,[]⟩=pure (ps.zip us)):Binds K fd ps []:=fun s us _ hl=>by
 rw[List.append_nil]at hl ⊢
 exact .of_eq (h us hl)
def Passes(CX:CXT)(X:Cx)(E:XK):Prop:=∀(pins:List (Addr×Obj)) (σ:St) (H:Hp) (s:Shared) (e:Value) (s':Shared),Inv X pins σ H s->CX X.stack H s E e s'->X.xe e s'
section
variable {X:Cx}{CX:CXT}{k:Nat}{f C:Addr}{fd:FuncData}{ps:List Str}{sp:Sp}{dvs:List V}{ds:List Value}{E:XK}{x m:Str}{p pos apos:Pos}{e o:Expr}{es:List Expr}{ta:TE}{t:TA}
theorem run_fn{pins:List (Addr×Obj)}{σ:St}{H:Hp}{s:Shared}{Q:VK}{us:List Value}{vs:List V}(F:FnOk X.prog X.w X.K X.mg X.base CX k f fd ps sp)(hr:Room k X.A)(hb:Binds X.K fd ps ds)(hd:Vals dvs ds)(hx:Passes CX X E)
  (I:Inv X pins σ H s) (r:Vals vs us) (h:sp (vs++dvs) H Q E):wpAny (model X.prog X.w) X.A (call (.ref f) us) (EP X pins σ Q) X.xe s:=by
 have r2:Vals (vs++dvs) (us++ds):=r.append hd
 have hl:(us++ds).length=ps.length:=by rw[←r2.length];exact F.len _ _ _ _ h
 refine wpAny_call (codeAny_mono (F.run X.A X.stack s H ⟨us,[]⟩ (us++ds) (vs++dvs) Q E hr I.env0 (hb s us I.kIn hl) r2 h) fun r s' hq=>?_)
 cases r with
 | error e=>exact hx pins σ H s e s' I hq
 | ok fl =>
  cases fl with
  | ret u=>exact I.after hq
  | next=>exact False.elim hq
  | brk=>exact False.elim hq
  | cont=>exact False.elim hq
theorem pe_call(F:FnOk X.prog X.w X.K X.mg X.base CX k f fd ps sp)(hr:Room k X.A)(hg:Gl X x)(hm:X.mg x=some (.ref f))(hk:PySem.W.keepIn X.K (.ref f)=true)(hb:Binds X.K fd ps ds)(hd:Vals dvs ds)(hx:Passes CX X E)
  (ha:PA X (e::es) t) (hdb:(x==("__debug__":Str))=false:=by decide) (he:starEach (e::es) X.env=(false,eval e X.env)::starEach es X.env:=by rfl) (hpl:(backTo pos (starEach es X.env)).any (·.1)=false:=by rfl) :
  PE X (.Call (.Name x p) (e::es) [] pos) (tCall sp dvs E t):=by
 intro pins s σ H Q I h
 refine wpAny_Call_Name_kw (ld_glob I hg hm ?_ hdb)
 refine PySem.W.callWith_K (h₀:=X.base) I.ok.mod.kin hk (thn (ha pos pins s σ H _ I h) fun us s1 ⟨vs,H1,I1,r,q⟩=>⟨I1.kIn,?_⟩) he hpl
 exact run_fn F hr hb hd hx I1 r q
theorem pe_meth{pl:Sem Bool}(he:PE X o ta)(c:Cls X.K C)(hm:Meth X.K C m f)(F:FnOk X.prog X.w X.K X.mg X.base CX k f fd ps sp)(hr:Room k X.A)(hb:Binds X.K fd ps ds)(hd:Vals dvs ds)(hx:Passes CX X E)(ha:PA X (e::es) t)
  (hst:starEach (e::es) X.env=(false,eval e X.env)::starEach es X.env:=by rfl) (hpl:(backTo pos (starEach es X.env)).any (·.1)=false:=by rfl)
  (ht:eval (.Call (.Attribute o m apos) (e::es) [] pos) X.env=(do
   let ov←eval o X.env
   standAt apos.atName
   let (f,first)←holding [ov] (getMethod ov m pl)
   callWith pos f first (backTo pos (starEach (e::es) X.env)) (backToKw pos (keywordEach [] X.env))):=by rfl) :
  PE X (.Call (.Attribute o m apos) (e::es) [] pos) (tMeth C m sp dvs E ta t):=by
 intro pins s σ H Q I h
 refine PySem.W.methodCall_KW (pl:=pl) (thn (he pins s σ H _ I h) fun u s1 ⟨x,H1,I1,rx,a,dx,fs,ex,ea,l,q⟩=>?_) ht
 subst ex
 obtain rfl:u=Value.ref a:=rx
 refine getmeth_ok I1 ea c hm l ?_
 refine PySem.W.callWith_K (first:=[.ref a]) (h₀:=X.base) I.ok.mod.kin hm.kp (thn (ha pos pins s1 σ H1 _ I1 q) fun us s2 ⟨vs,H2,I2,r,q2⟩=>⟨I2.kIn,?_⟩) hst hpl
 exact run_fn (us:=.ref a::us) (vs:=.ref a::vs) F hr hb hd hx I2 (.cons rfl r) q2
structure Mk (K:PySem.W.Frag) (C f:Addr):Prop where
 makes:PySem.W.makesIn K C=true
 init:PySem.W.findIn K (.ref C) "__init__"=some (some (.ref f))
 fn:PySem.W.isFn K (.ref f)=true
 kp:PySem.W.keepIn K (.ref C)=true
theorem run_make{pins:List (Addr×Obj)}{σ:St}{H:Hp}{s:Shared}{Q:VK}{us:List Value}{vs:List V}(M:Mk X.K C f)(F:FnOk X.prog X.w X.K X.mg X.base CX k f fd ps sp)(hr:Room (k+1) X.A)(hb:Binds X.K fd ps ds)(hd:Vals dvs ds)
  (hx:Passes CX X E) (I:Inv X pins σ H s) (r:Vals vs us)
  (h:∀x dx,H x=none->H dx=none->dx≠x->sp (.ref x::(vs++dvs)) (upd (upd H dx (.own x)) x (.ins C dx [])) (fun v H2=>v=.non/\Q (.ref x) H2) E) :
  wpAny (model X.prog X.w) X.A (call (.ref C) us) (EP X pins σ Q) X.xe s:=by
 have hq:=h (s.heap.objs.size+1) s.heap.objs.size (I.hok.fresh (Nat.le_succ _)) (I.hok.fresh (Nat.le_refl _)) (Nat.ne_of_lt (Nat.lt_succ_self _))
 have I2:=Inv.made (C:=C) I
 have r2:Vals (V.ref (s.heap.objs.size+1)::(vs++dvs)) (Value.ref (s.heap.objs.size+1)::(us++ds)):=.cons rfl (r.append hd)
 have hl:(Value.ref (s.heap.objs.size+1)::us++ds).length=ps.length:=by
  have e:=r2.length
  rw[F.len _ _ _ _ hq]at e
  exact e.symm
 refine wpAny_call (make_map (f:=f) I.kIn M.makes M.init (beq_iff_eq.mp M.fn) (codeAny_mono (F.run _ X.stack _ _ ⟨Value.ref (s.heap.objs.size+1)::us,[]⟩ (Value.ref (s.heap.objs.size+1)::(us++ds)) _ _ E (hr.make C us [])
  (I2.env0.make C us []) (hb _ (Value.ref (s.heap.objs.size+1)::us) I2.kIn hl) r2 hq) fun r s' hq'=>?_))
 cases r with
 | error e=>exact hx pins σ _ _ e s' I2 hq'
 | ok fl =>
  cases fl with
  | ret u =>
   obtain⟨v,H',I3,rv,ev,q3⟩:=I2.after hq'
   subst ev
   exact⟨rv,⟨V.ref (s.heap.objs.size+1),H',I3,rfl,q3⟩⟩
  | next=>exact False.elim hq'
  | brk=>exact False.elim hq'
  | cont=>exact False.elim hq'
theorem pe_make(M:Mk X.K C f)(F:FnOk X.prog X.w X.K X.mg X.base CX k f fd ps sp)(hr:Room (k+1) X.A)(hg:Gl X x)(hm:X.mg x=some (.ref C))(hb:Binds X.K fd ps ds)(hd:Vals dvs ds)(hx:Passes CX X E)
  (ha:PA X (e::es) t) (hdb:(x==("__debug__":Str))=false:=by decide) (he:starEach (e::es) X.env=(false,eval e X.env)::starEach es X.env:=by rfl) (hpl:(backTo pos (starEach es X.env)).any (·.1)=false:=by rfl) :
  PE X (.Call (.Name x p) (e::es) [] pos) (tMake C sp dvs E t):=by
 intro pins s σ H Q I h
 refine wpAny_Call_Name_kw (ld_glob I hg hm ?_ hdb)
 refine PySem.W.callWith_K (h₀:=X.base) I.ok.mod.kin M.kp (thn (ha pos pins s σ H _ I h) fun us s1 ⟨vs,H1,I1,r,q⟩=>⟨I1.kIn,?_⟩) he hpl
 exact run_make M F hr hb hd hx I1 r q
end
section
variable {X:Cx}{CX:CXT}{k:Nat}{f C:Addr}{fd:FuncData}{ps ks:List Str}{sp:Sp}{E:XK}{x m:Str}{p pos apos kpos:Pos}{e o:Expr}{es:List Expr}{kws:List Keyword}{te ta:TE}{t tk:TA}{nm:Option Str}
variable {g:List Value->List Value->List Value}{gV:List V->List V->List V}
end
structure FnScope (N P:List Str) (sc:Scope):Prop where
 kind:sc.kind=.function
 co:sc.isCoroutine=false
 gen:sc.isGenerator=false
 nd:N.Nodup
 pre:N.take P.length=P
 par:∀x∈P,sc.names.lookup x=some .local∨sc.names.lookup x=some .cell
 nofree:∀y∈sc.names,y.2≠.free
theorem bindL_out{kindOf:Str->Option NameKind}{x:Str}:∀{binds:List (Str×Value)} {m:Str->Option Value},(∀v,(x,v)∉binds)->bindL kindOf binds m x=m x
 | [],_,_=>rfl
 |(n,v)::r,m,h=>by
  unfold bindL
  rw[bindL_out fun w hw=>h w (List.mem_cons_of_mem _ hw)]
  split
  ·have:x≠n:=by rintro rfl;exact h v List.mem_cons_self
   simp[this]
  ·rfl
theorem bindC_out{kindOf:Str->Option NameKind}{x:Str}:∀{binds:List (Str×Value)} {m:Str->Option Value},(∀v,(x,v)∉binds)->bindC kindOf binds m x=m x
 | [],_,_=>rfl
 |(n,v)::r,m,h=>by
  unfold bindC
  rw[bindC_out fun w hw=>h w (List.mem_cons_of_mem _ hw)]
  split
  ·rfl
  ·have:x≠n:=by rintro rfl;exact h v List.mem_cons_self
   simp[this]
theorem bindL_get{kindOf:Str->Option NameKind}{x:Str}{v:Value}:∀{P:List Str} {vs:List Value} {i:Nat} {m:Str->Option Value},P.Nodup->P[i]?=some x->vs[i]?=some v->kindOf x=some .local ->
  bindL kindOf (P.zip vs) m x=some v
 | [],_,_,_,_,h,_,_=>by simp at h
 | _::_,[],_,_,_,_,h,_=>by simp at h
 | p::P,w::vs,0,m,nd,h1,h2,hk=>by
  simp at h1 h2;subst h1;subst h2
  show bindL kindOf ((p,w)::P.zip vs) m p=_
  unfold bindL
  rw[bindL_out fun v hv=>(List.nodup_cons.mp nd).1 (List.of_mem_zip hv).1,if_pos hk]
  simp
 | p::P,w::vs,i+1,m,nd,h1,h2,hk=>by
  show bindL kindOf ((p,w)::P.zip vs) m x=_
  unfold bindL
  exact bindL_get (i:=i) (List.nodup_cons.mp nd).2 (by simpa using h1) (by simpa using h2) hk
theorem bindC_get{kindOf:Str->Option NameKind}{x:Str}{v:Value}:∀{P:List Str} {vs:List Value} {i:Nat} {m:Str->Option Value},P.Nodup->P[i]?=some x->vs[i]?=some v->kindOf x≠some .local ->
  bindC kindOf (P.zip vs) m x=some v
 | [],_,_,_,_,h,_,_=>by simp at h
 | _::_,[],_,_,_,_,h,_=>by simp at h
 | p::P,w::vs,0,m,nd,h1,h2,hk=>by
  simp at h1 h2;subst h1;subst h2
  show bindC kindOf ((p,w)::P.zip vs) m p=_
  unfold bindC
  rw[bindC_out fun v hv=>(List.nodup_cons.mp nd).1 (List.of_mem_zip hv).1,if_neg hk]
  simp
 | p::P,w::vs,i+1,m,nd,h1,h2,hk=>by
  show bindC kindOf ((p,w)::P.zip vs) m x=_
  unfold bindC
  exact bindC_get (i:=i) (List.nodup_cons.mp nd).2 (by simpa using h1) (by simpa using h2) hk
def start(N:List Str)(vs:List V):St:=vs.map some++List.replicate (N.length - vs.length) none
def cxOf(CX:CXT)(P:Program)(w:World)(K:PySem.W.Frag)(mg:Str->Option Value)(base:Heap)(N:List Str)(qual:Str)(scope:Scope)(f:Addr)(cd:Value)(A:Around)(outer:List Env)(s:Shared)(H:Hp)(E:XK):Cx where
 prog:=P
 w:=w
 K:=K
 mg:=mg
 base:=base
 A:=A.deeper (envOfC qual scope s.heap.objs.size f cd)
 N:=N
 s₀:=s
 H₀:=H
 env:=envOfC qual scope s.heap.objs.size f cd
 outer:=outer
 stack:=envOfC qual scope s.heap.objs.size f cd::outer
 ex:=[]
 calm:=true
 fn:=fun _=>true
 pn:=[]
 xe:=fun e s'=>wpAny (model P w) (A.deeper (envOfC qual scope s.heap.objs.size f cd)) (leaving (envOfC qual scope s.heap.objs.size f cd) e) (fun _ s''=>CX outer H s E e s'') (fun e' s''=>CX outer H s E e' s'') s'
theorem cell_has{sc:Scope}{n:Nat}{x:Str}(h:sc.names.lookup x=some .cell):∃c,(cellsFrom n sc.names []).lookup x=some c:=by
 have q:=PySem.W.cellsFrom_some sc.names n [] (.inl h)
 exact Option.isSome_iff_exists.mp q
theorem inv_start{CX:CXT}{P:Program}{w:World}{K:PySem.W.Frag}{mg:Str->Option Value}{base:Heap}{N ps:List Str}{qual:Str}{scope:Scope}{f:Addr}{cd:Value}{A:Around}{outer:List Env}{s s1:Shared}{H:Hp}{E:XK}{us:List Value}{vs:List V}
  (S:FnScope N ps scope) (hd:A.handled=none) (e0:Env0 P w K mg base A outer s H) (hl:vs.length=ps.length) (r:Vals vs us)
  (x:InCallC s s.heap.objs.size (bindL (envOfC qual scope s.heap.objs.size f cd).kindOf (ps.zip us) fun _=>none) (cellsFrom (s.heap.objs.size+1) scope.names []) (bindC (envOfC qual scope s.heap.objs.size f cd).kindOf (ps.zip us) fun _=>none) s1) :
  Inv (cxOf CX P w K mg base N qual scope f cd A outer s H E) [] (start N vs) H s1:=by
 have hpl:ps.length≤N.length:=by have:=congrArg List.length S.pre;rw[List.length_take]at this;omega
 obtain⟨h1,tk,rfl,hk⟩:=x.done
 have noA:∀b:Addr,b∉(cxOf CX P w K mg base N qual scope f cd A outer s H E).ex:=fun b z=>absurd (show b∈([]:List Addr)from z) (by simp)
 refine⟨⟨e0.mod,S.kind,rfl,rfl,Nat.le_refl _,fun y z c h1 h2=>?_,fun y hy=>?_,fun y c _ h=>?_,fun _=>hd,Around.frames_deeper e0.frames,.inr ⟨rfl,rfl⟩,fun b z=>absurd z (noA b),e0.bs,e0.bsz,fun b _ _=>noA b,fun b z=>absurd z (noA b),e0.funs,e0.frf⟩,
  rfl,e0.bare,Un.kept hk,⟨_,x.toInCall.ns,fun i y v h1 h2 h3=>?_⟩,fun y c h=>⟨_,x.cell y c h⟩,e0.hok.fresh (Nat.le_refl _),fun y c h=>?_,fun p hp=>absurd (show p∈([]:List (Addr×Obj))from hp) (by simp),e0.hok.kept hk,?_⟩
 ·exact name_of_addr x.apart (PySem.mem_of_lookup h1) (PySem.mem_of_lookup h2)
 ·have hy:scope.names.lookup y=some .cell∨scope.names.lookup y=some .free:=hy
  rcases hy with hy | hy
  ·exact cell_has hy
  ·exact absurd rfl (S.nofree _ (PySem.mem_of_lookup hy))
 ·exact Nat.le_of_lt (x.above y c (PySem.mem_of_lookup h))
 ·have hi:i<vs.length:=by
   unfold start at h2
   by_cases hi:i<vs.length
   ·exact hi
   ·rw[List.getElem?_append_right (by simpa using hi)]at h2
    rw[List.getElem?_replicate]at h2
    split at h2<;>cases h2
  have ha:vs[i]?=some v:=by
   unfold start at h2
   rw[List.getElem?_append_left (by simpa using hi),List.getElem?_map]at h2
   cases e:vs[i]? with
   | none=>rw[e]at h2;cases h2
   | some a=>rw[e]at h2;cases h2;rfl
  obtain⟨u,hu,rv⟩:=r.get ha
  have hp:ps[i]?=some y:=by
   rw[←S.pre,List.getElem?_take_of_lt (by omega)];exact h1
  have ndP:ps.Nodup:=by rw[←S.pre];exact S.nd.sublist (List.take_sublist _ _)
  refine⟨u,rv,?_⟩
  rcases S.par y (List.mem_of_getElem? hp)with k | k
  ·exact .inl ⟨k,bindL_get ndP hp hu k⟩
  ·obtain⟨c,e⟩:=cell_has (n:=s.heap.objs.size+1) k
   refine .inr ⟨.inl k,c,e,?_⟩
   have q:=x.cell y c e
   rw[bindC_get ndP hp hu (by show scope.names.lookup y≠_;rw[k];decide)]at q
   exact q
 ·exact e0.hok.fresh (Nat.le_of_lt (x.above y c (PySem.mem_of_lookup h)))
 ·unfold start
  show _=N.length
  rw[List.length_append,List.length_map,List.length_replicate]
  omega
theorem fn_of{CX:CXT}{P:Program}{w:World}{K:PySem.W.Frag}{mg:Str->Option Value}{base:Heap}{k:Nat}{f:Addr}{name qual:Str}{params:Arguments}{body:List Stmt}{scope:Scope}{dV kV doc pm cdv ct oc:Value}{an od:Option Addr}
  {osl:Array (Option Value)} {N ps:List Str} {sp:Sp} (lk:K.lookup f=some ⟨oc,od,.func (PySem.W.fnOf name qual params body scope dV kV doc pm an cdv ct),osl⟩) (hcd:PySem.W.codeIn K cdv qual=true) (S:FnScope N ps scope)
  (len:∀vs H Q E,sp vs H Q E->vs.length=ps.length)
  (hbody:∀(A:Around) (outer:List Env) (s:Shared) (H:Hp) (vs:List V) (Q:VK) (E:XK),Room k (A.deeper (envOfC qual scope s.heap.objs.size f cdv))->sp vs H Q E ->
   ∃t,PSs (cxOf CX P w K mg base N qual scope f cdv A outer s H E) body t/\t { nx:=fun _ H'=>Q .non H',rt:=Q } (start N vs) H) :
  FnOk P w K mg base CX (k+1) f (PySem.W.fnOf name qual params body scope dV kV doc pm an cdv ct) ps sp:=by
 refine⟨len,fun A outer s H args us vs Q E hr e0 hb r hsp=>?_⟩
 have hl:=len _ _ _ _ hsp
 have KX:K.In s.heap:=e0.mod.kin.keeps fun b o e=>(e0.bs b o e).1
 have lim:s.heap.NoLimit:=e0.mod.nolimit.keeps fun b o e=>(e0.bs b o e).1
 have hkind:∀y∈ps.zip us,scope.names.lookup y.1=some .local∨(scope.names.lookup y.1=some .cell/\((cellsFrom (s.heap.objs.size+1) scope.names []).lookup y.1).isSome=true):=fun⟨n,v⟩ hy=>by
  rcases S.par n (List.of_mem_zip hy).1 with q | q
  ·exact .inl q
  ·exact .inr ⟨q,PySem.W.cellsFrom_some _ _ _ (.inl q)⟩
 refine codeAny_call_function hr.depth (KX _ _ lk) rfl S.co S.gen rfl (PySem.W.codeRec_of KX hcd) (hb _ _ _ _ ?_)
 refine wpAny_newFunctionEnv_cells S.kind hkind fun env he s1 x=>?_
 subst he
 refine⟨lim.keeps x.toInCall.keep,codeAny_func ?_⟩
 obtain⟨t,ht,hq⟩:=hbody A outer s H vs Q E (hr.deeper _) hsp
 have I:Inv (cxOf CX P w K mg base N qual scope f cdv A outer s H E) [] (start N vs) H s1:=inv_start S hr.hd e0 hl r x
 refine wpAny_mono (ht [] s1 (start N vs) H _ I hq) (fun fl s' hs=>?_) fun e s' hs=>hs
 have fin:∀{σ':St} {H':Hp} {v:V} {u:Value},Inv (cxOf CX P w K mg base N qual scope f cdv A outer s H E) [] σ' H' s'->RelV v u->Q v H'->CE outer P w H s Q u s' :=
  fun {σ' H' v u} J rv q=>⟨v,H',J.os,J.bare,J.base,J.hok,rv,q⟩
 cases fl with
 | ret u =>
  obtain⟨v,σ',H',J,rv,q⟩:=hs
  exact fin J rv q
 | next =>
  obtain⟨σ',H',J,q⟩:=hs
  exact fin (v:=V.non) (u:=Value.none) J rfl q
 | brk =>
  obtain⟨_,_,_,q⟩:=hs
  exact False.elim q
 | cont =>
  obtain⟨_,_,_,q⟩:=hs
  exact False.elim q
end L2
namespace L2
open PySem PySem.Spec PyProof.Rows
section
variable {X:Cx}{x:Str}{p pos:Pos}{e:Expr}{es:List Expr}{t:TA}{id T:String}{r:List V->Hp->VK->Prop}
def tCB(r:List V->Hp->VK->Prop)(t:TA):TE:=fun σ H Q=>t σ H fun vs H1=>r vs H1 Q
theorem pe_callB(hc:CallR X (.builtin id) r)(hg:Gl X x)(hm:X.mg x=none)(hv:bootBuiltins x=some (.builtin id))(ha:PA X (e::es) t)(hn:x≠"__name__":=by decide)(hdb:(x==("__debug__":Str))=false:=by decide)
  (he:starEach (e::es) X.env=(false,eval e X.env)::starEach es X.env:=by rfl) (hpl:(backTo pos (starEach es X.env)).any (·.1)=false:=by rfl):PE X (.Call (.Name x p) (e::es) [] pos) (tCB r t):=by
 intro pins s σ H Q I h
 refine wpAny_Call_Name_kw (ld_blt I hg hm hv ?_ hn hdb)
 exact PyProof.Rows.callWith_builtin1 (thn (ha pos pins s σ H _ I h) fun us s1 ⟨vs,H1,I1,r1,q1⟩=>hc pins s1 σ H1 vs us Q I1 r1 q1) he hpl
theorem pe_callTy(hc:CallR X (.type T) r)(hg:Gl X x)(hm:X.mg x=none)(hv:bootBuiltins x=some (.type T))(ha:PA X (e::es) t)(hn:x≠"__name__":=by decide)(hdb:(x==("__debug__":Str))=false:=by decide)
  (he:starEach (e::es) X.env=(false,eval e X.env)::starEach es X.env:=by rfl) (hpl:(backTo pos (starEach es X.env)).any (·.1)=false:=by rfl):PE X (.Call (.Name x p) (e::es) [] pos) (tCB r t):=by
 intro pins s σ H Q I h
 refine wpAny_Call_Name_kw (ld_blt I hg hm hv ?_ hn hdb)
 exact PyProof.Rows.callWith_type1 (thn (ha pos pins s σ H _ I h) fun us s1 ⟨vs,H1,I1,r1,q1⟩=>hc pins s1 σ H1 vs us Q I1 r1 q1) he hpl
end
end L2
namespace HT
open PySem PyProof.Rows
section
open PySem.SeqAt
open PySem.AutoSeq1 (wpAny_loadPart')
open PySem.MeetsSeq PySem.MeetsSeq2 PySem.MeetsSeq3
end
section
variable {prog:Program}{w:World}{A:Around}{E:Value->Shared->Prop}{s:Shared}
theorem cat_tup{t b:Addr}{vs ws:List Value}{Q:Value->Shared->Prop}(ht:IsTup s.heap t vs.toArray)(hb:IsTup s.heap b ws.toArray)(hv:vs≠[])
  (h1:ws=[]->Q (.ref t) s) (h2:ws≠[]->Q (.ref s.heap.objs.size) { s with heap:=s.heap.push { cls:=.type "tuple",data:=.seq (vs++ws).toArray } })
  (hsz:vs.length+ws.length≤sizeLine):wpAny (model prog w) A (binaryOp .Add (.ref t) (.ref b)) Q E s:=by
 obtain⟨⟨cls,dd,data,sl⟩,ho,hc,n,hd⟩:=id ht
 obtain⟨⟨cls2,dd2,data2,sl2⟩,ho2,hc2,n2,hd2⟩:=id hb
 simp only at hc hd hc2 hd2
 subst hc hd hc2 hd2
 have e:vs.toArray++ws.toArray=(vs++ws).toArray:=by simp
 by_cases hw:ws=[]
 ·exact concat_meets ⟨_,ho,rfl⟩ ⟨_,ho2,rfl⟩ noFill_tuple_add seq_tuple_add PySem.F.slot_tuple_add PySem.F.entry_tuple_add (PySem.F.args_tuple_add_2 _ _)
   (tuple_addW1 t b vs.toArray ws.toArray n n2 dd dd2 sl sl2 (by simpa using hv) (by simp[hw])) ⟨ho,ho2,h1 hw⟩
 ·refine concat_meets ⟨_,ho,rfl⟩ ⟨_,ho2,rfl⟩ noFill_tuple_add seq_tuple_add PySem.F.slot_tuple_add PySem.F.entry_tuple_add (PySem.F.args_tuple_add_2 _ _)
   (tuple_addW2 t b vs.toArray ws.toArray n n2 dd dd2 sl sl2 (by simpa using hv) (by simpa using hw) (by rw[List.size_toArray,List.size_toArray];exact hsz)) ⟨ho,ho2,?_⟩
  rw[e]
  exact h2 hw
def sIx(n d:Nat):Option Int->Nat
 | none=>d
 | some v=>if v<0 then(v+(n:Int)).toNat else min v.toNat n
theorem sIx_none(n d:Nat):sIx n d none=d:=rfl
theorem sIx_nat(n d k:Nat):sIx n d (some (k:Int))=min k n:=by
 show(if (k:Int)<0 then((k:Int)+(n:Int)).toNat else min (k:Int).toNat n)=min k n
 rw[if_neg (by omega),Int.toNat_natCast]
theorem sIx_le(n d:Nat)(hd:d≤n)(o:Option Int):sIx n d o≤n:=by
 cases o with
 | none=>exact hd
 | some v =>
  show(if v<0 then(v+(n:Int)).toNat else min v.toNat n)≤n
  by_cases hv:v<0
  ·rw[if_pos hv];omega
  ·rw[if_neg hv];exact Nat.min_le_right _ _
theorem clip_eq(v:Int)(n d:Nat):(if v<0 then max (v+(n:Int)) 0 else min v (n:Int))=((sIx n d (some v):Nat):Int):=by
 show(if v<0 then max (v+(n:Int)) 0 else min v (n:Int))=(((if v<0 then(v+(n:Int)).toNat else min v.toNat n):Nat):Int)
 by_cases hv:v<0
 ·simp only[if_pos hv];omega
 ·simp only[if_neg hv];omega
theorem adjust_gen(lo hi:Option Int)(n:Nat):Builtin.Slice.sliceAdjust lo hi 1 (n:Int)=(((sIx n 0 lo:Nat):Int),((sIx n n hi:Nat):Int)):=by
 have h1:¬((1:Int)<0):=by omega
 unfold Builtin.Slice.sliceAdjust
 simp only[h1,if_false]
 refine Prod.ext ?_ ?_
 ·cases lo with
  | none=>rfl
  | some v=>exact clip_eq v n 0
 ·cases hi with
  | none=>rfl
  | some v=>exact clip_eq v n n
theorem places_gen(i j:Nat):Builtin.Slice.slicePlaces (i:Int) (j:Int) 1=j - i:=by
 unfold Builtin.Slice.slicePlaces
 have h1:(1:Int)>0:=by omega
 simp only[h1,if_true,Int.ediv_one]
 split<;>omega
theorem slicePart_{v:Value}{o:Option Int}{Q:Option Int->Shared->Prop}(p:IsPart v o)(h:Q o s):wpAny (model prog w) A (Builtin.Slice.slicePartIndex v) Q E s:=by
 cases p with
 | none=>exact slicePart_none h
 | int i t=>exact slicePart_int h
theorem sliceApplied_gen{sl:Addr}{vl vu:Value}{lo hi:Option Int}{n:Nat}{Q:Int×Int×Nat->Shared->Prop}(hs:s.heap.IsSliceOf sl vl vu .none)(pl:IsPart vl lo)(pu:IsPart vu hi)
  (h:Q (((sIx n 0 lo:Nat):Int),1,sIx n n hi - sIx n 0 lo) s):wpAny (model prog w) A (Builtin.Slice.sliceApplied (.ref sl) (pure (n:Int))) Q E s:=by
 obtain⟨os,hos,hcs,hds⟩:=id hs
 unfold Builtin.Slice.sliceApplied Builtin.Slice.sliceFields
 refine wpAny_bind (wpAny_bind (wpAny_field hos hds (x:=vl) rfl (wpAny_bind (wpAny_field hos hds (x:=vu) rfl (wpAny_bind (wpAny_field hos hds (x:=.none) rfl (wpAny_pure ?_)))))))
 refine wpAny_bind (slicePart_none ?_)
 show wpAny _ _ (if ((1:Int)==0)=true then _ else _) _ _ s
 rw[if_neg (by decide)]
 refine wpAny_bind (slicePart_ pl (wpAny_bind (slicePart_ pu (wpAny_bind (wpAny_pure ?_)))))
 show wpAny _ _ (match Builtin.Slice.sliceAdjust lo hi 1 (n:Int)with |(lo,hi)=>pure (lo,(1:Int),Builtin.Slice.slicePlaces lo hi 1)) _ _ s
 rw[adjust_gen lo hi n]
 show wpAny _ _ (pure (((sIx n 0 lo:Nat):Int),(1:Int),Builtin.Slice.slicePlaces ((sIx n 0 lo:Nat):Int) ((sIx n n hi:Nat):Int) 1)) _ _ s
 rw[places_gen]
 exact wpAny_pure h
theorem pick_gen(xs:Array Value)(i k:Nat):((List.range k).filterMap fun(m:Nat)=>xs[((i:Int)+(m:Int)*1).toNat]?).toArray=((xs.toList.drop i).take k).toArray:=by
 have e:(fun(m:Nat)=>xs[((i:Int)+(m:Int)*1).toNat]?)=fun m=>xs[i+m]?:=by
  funext m
  have:((i:Int)+(m:Int)*1).toNat=i+m:=by omega
  rw[this]
 rw[e]
 have:=pick_run xs i k
 rw[List.filterMap_map]at this
 have e2:((fun x=>xs[x]?) ∘ fun x=>i+x)=fun m=>xs[i+m]?:=rfl
 rw[e2]at this
 rw[this]
theorem getItem_tuple_cut{t sl:Addr}{items:Array Value}{vl vu:Value}{lo hi:Option Int}{Q:Value->Shared->Prop}(ht:IsTup s.heap t items)(hs:s.heap.IsSliceOf sl vl vu .none)(pl:IsPart vl lo)(pu:IsPart vu hi)
  (hw:¬(sIx items.size 0 lo=0/\sIx items.size items.size hi=items.size))
  (h:Q (.ref s.heap.objs.size) { s with heap:=s.heap.push { cls:=.type "tuple",data:=.seq ((items.toList.drop (sIx items.size 0 lo)).take (sIx items.size items.size hi - sIx items.size 0 lo)).toArray } })
  (hsz:items.size≤sizeLine):wpAny (model prog w) A (getItem (.ref t) (.ref sl)) Q E s:=by
 have htake:sizeOk (.seq ((items.toList.drop (sIx items.size 0 lo)).take (sIx items.size items.size hi - sIx items.size 0 lo)).toArray):=by
  show((items.toList.drop (sIx items.size 0 lo)).take (sIx items.size items.size hi - sIx items.size 0 lo)).toArray.size≤sizeLine
  rw[List.size_toArray,List.length_take,List.length_drop,Array.length_toList]
  omega
 have hj:sIx items.size items.size hi≤items.size:=sIx_le _ _ (Nat.le_refl _) hi
 obtain⟨os,hos,hcs,hds⟩:=id hs
 have hTs:s.TypeIs (.ref sl) "slice":=⟨os,hos,hcs⟩
 unfold getItem
 try with_reducible refine wpAny_holding ?_
 first | refine wpAny_bind (wpAny_pure ?_) | skip
 refine wpAny_bind (wpAny_sequenceKey ht.typeIs (by decide) ?_)
 refine wpAny_bind (wpAny_callSpecial?_slot (name:=Str.ofString "__getitem__") ht.typeIs PyProof.Rows.slot_tuple_getitem
  (wpAny_call_entry PyProof.Rows.slot_tuple_getitem ht.typeIs entry_tuple_getitem ?_ (args_tuple_getitem _ _)))
 show wpAny _ _ (Builtin.Tuple.tupleItemsOf (.ref t) >>= _) _ _ s
 refine wpAny_bind (tupleItemsOf_ ht ?_)
 refine wpAny_bind (wpAny_typeOf hTs ?_)
 rw[if_pos (by decide)]
 refine wpAny_bind (sliceApplied_gen hs pl pu ?_)
 have hno:¬((((sIx items.size 0 lo:Nat):Int)==0&&(1:Int)==1&&(sIx items.size items.size hi - sIx items.size 0 lo)==items.size)=true):=by
  intro q
  rw[Bool.and_eq_true,Bool.and_eq_true]at q
  have q1:((sIx items.size 0 lo:Nat):Int)=0:=eq_of_beq q.1.1
  have q2:sIx items.size items.size hi - sIx items.size 0 lo=items.size:=eq_of_beq q.2
  exact hw ⟨by omega,by omega⟩
 show wpAny _ _ (if (((sIx items.size 0 lo:Nat):Int)==0&&(1:Int)==1&&(sIx items.size items.size hi - sIx items.size 0 lo)==items.size)=true then _ else _) _ _ s
 rw[if_neg hno,pick_gen]
 first
  | exact wpAny_bind (m:=Builtin.Tuple.tupleExact _) (wpAny_newObj_type (wpAny_pure ⟨_,rfl,wpAny_pure h⟩) htake)
  | exact wpAny_bind (m:=Builtin.Tuple.tupleExact _) (wpAny_newObj_type (wpAny_bind (wpAny_pure (wpAny_pure ⟨_,rfl,wpAny_pure h⟩))) htake)
  | exact wpAny_bind (wpAny_bind (m:=Builtin.Tuple.tupleExact _) (wpAny_newObj_type (wpAny_pure (wpAny_pure ⟨_,rfl,wpAny_pure h⟩)) htake))
  | exact wpAny_bind (wpAny_bind (m:=Builtin.Tuple.tupleExact _) (wpAny_newObj_type (wpAny_pure ⟨_,rfl,wpAny_pure h⟩) htake))
end
end HT
namespace L2
open PySem PySem.Spec PyProof.Rows
abbrev TO:=St->Hp->(Option Int->Hp->Prop)->Prop
def PO(X:Cx)(e:Option Expr)(t:TO):Prop :=
 ∀(pins:List (Addr×Obj)) (s:Shared) (σ:St) (H:Hp) (Q:Option Int->Hp->Prop),Inv X pins σ H s->t σ H Q ->
  wpAny (model X.prog X.w) X.A (evalPart e X.env) (fun u s'=>∃o H',Inv X pins σ H' s'/\IsPart u o/\Q o H') X.xe s
def tNoPart:TO:=fun _ H Q=>Q none H
def tPart(t:TE):TO:=fun σ H Q=>t σ H fun x H1=>∃i,x=.int i/\Q (some i) H1
section
variable {X:Cx}{e:Expr}{te:TE}{lo hi:Option Expr}{tl th:TO}{pos p2:Pos}
theorem po_none:PO X none tNoPart:=by
 intro pins s σ H Q I h
 rw[evalPart_none]
 exact wpAny_pure ⟨none,H,I,.none,h⟩
theorem po_some(h:PE X e te):PO X (some e) (tPart te):=by
 intro pins s σ H Q I hw
 rw[evalPart_some]
 refine thn (h pins s σ H _ I hw) fun u s1 ⟨x,H1,I1,r1,q1⟩=>?_
 obtain⟨i,rfl,q⟩:=q1
 obtain⟨t,rfl⟩:=r1
 exact⟨some i,H1,I1,.int i t,q⟩
def SlR(X:Cx)(r:V->Option Int->Option Int->Hp->VK->Prop):Prop :=
 ∀(pins:List (Addr×Obj)) (s:Shared) (σ:St) (H:Hp) (x:V) (v vl vu:Value) (lo hi:Option Int) (sl:Addr) (Q:VK),Inv X pins σ H s->RelV x v->s.heap.IsSliceOf sl vl vu .none->IsPart vl lo->IsPart vu hi->r x lo hi H Q ->
  ∃T id,typeLookup (.type T) "__getitem__"=pure (some (.builtin id))/\s.TypeIs v T/\wpAny (model X.prog X.w) X.A (getItem v (.ref sl)) (EP X pins σ Q) X.xe s
def tSl(r:V->Option Int->Option Int->Hp->VK->Prop)(te:TE)(tl th:TO):TE:=fun σ H Q=>te σ H fun x H1=>tl σ H1 fun l H2=>th σ H2 fun u H3=>r x l u H3 Q
theorem pe_slice{r:V->Option Int->Option Int->Hp->VK->Prop}(hr:SlR X r)(he:PE X e te)(hl:PO X lo tl)(hu:PO X hi th):PE X (.Subscript e (.Slice lo hi none p2) pos) (tSl r te tl th):=by
 intro pins s σ H Q I h
 refine Subscript_ (thn (he pins s σ H _ I h) fun v s1 ⟨x,H1,I1,r1,q1⟩=>?_)
 refine wpAny_Slice (thn (hl pins s1 σ H1 _ I1 q1) fun vl s2 ⟨l,H2,I2,pl,q2⟩=>thn (hu pins s2 σ H2 _ I2 q2) fun vu s3 ⟨u,H3,I3,pu,q3⟩=>?_)
 rw[evalPart_none]
 refine wpAny_pure ?_
 have I4:Inv X pins σ H3 { s3 with heap:=s3.heap.push { cls:=.type "slice",data:=.fields #[vl,vu,.none] } }:=I3.kept (t':=s3.toks) fun b ob q=>Heap.get?_push_of_some _ q
 obtain⟨T,id,hT,ht,hg⟩:=hr pins { s3 with heap:=s3.heap.push { cls:=.type "slice",data:=.fields #[vl,vu,.none] } } σ H3 x v vl vu l u s3.heap.objs.size Q I4 r1 (Heap.IsSliceOf.new ..) pl pu q3
 show wpAny (model X.prog X.w) X.A (subscriptTail e (.Slice lo hi none p2) v (.ref s3.heap.objs.size)) (EP X pins σ Q) X.xe { s3 with heap:=s3.heap.push { cls:=.type "slice",data:=.fields #[vl,vu,.none] } }
 exact tail_any (ops:=[.ref s3.heap.objs.size,v]) ht hT hg (by with_unfolding_all rfl)
def cutV(xs:List V)(lo hi:Option Int):List V:=(xs.drop (HT.sIx xs.length 0 lo)).take (HT.sIx xs.length xs.length hi - HT.sIx xs.length 0 lo)
theorem cutV_length(xs:List V)(lo hi:Option Int):(cutV xs lo hi).length≤xs.length:=by
 unfold cutV
 rw[List.length_take,List.length_drop]
 omega
def rSlT(K:PySem.W.Frag):V->Option Int->Option Int->Hp->VK->Prop:=fun x lo hi H Q=>∃a xs,x=.ref a/\SqT K H a xs /\
 ¬(HT.sIx xs.length 0 lo=0/\HT.sIx xs.length xs.length hi=xs.length)/\∀p,H p=none->Q (.ref p) (upd H p (.tup (cutV xs lo hi)))
theorem sl_tup:SlR X (rSlT X.K):=by
 intro pins s σ H x v vl vu lo hi sl Q I rx hs pl pu h
 obtain⟨a,xs,rfl,hx,hw,q⟩:=h
 cases rx
 obtain⟨its,r,ht,hz⟩:=I.tuple hx
 have hlen:its.toArray.size=xs.length:=by rw[List.size_toArray];exact r.length.symm
 refine⟨"tuple",_,PyProof.Rows.slot_tuple_getitem.lookup,ht.typeIs,?_⟩
 refine HT.getItem_tuple_cut ht hs pl pu (by rw[hlen];exact hw) ?_ (by rw[hlen];exact hz)
 rw[hlen]
 refine⟨.ref s.heap.objs.size,_,I.laid (t':=s.toks) (o:=.tup (cutV xs lo hi)) (fun b ob q=>Heap.get?_push_of_some _ q) (Nat.le_refl _) ?_,rfl,q _ (I.hok.fresh (Nat.le_refl _))⟩
 exact⟨Nat.le_trans (cutV_length xs lo hi) hz,_,(r.drop (HT.sIx xs.length 0 lo)).take (HT.sIx xs.length xs.length hi - HT.sIx xs.length 0 lo),IsTup.new _ _⟩
def rCatT(K:PySem.W.Frag):R2:=fun x y H Q=>∃a b xs ys,x=.ref a/\y=.ref b/\SqT K H a xs/\SqT K H b ys/\xs≠[]/\xs.length+ys.length≤sizeLine /\
 (ys=[]->Q (.ref a) H)/\(ys≠[]->∀p,H p=none->Q (.ref p) (upd H p (.tup (xs++ys))))
theorem Vals.nil_iff{xs:List V}{us:List Value}(r:Vals xs us):us=[]↔xs=[]:=by
 cases r with
 | nil=>simp
 | cons _ _=>simp
theorem op_catT:OpR X (binaryOp .Add) (rCatT X.K):=by
 intro pins s σ H x y v u Q I rx ry h
 obtain⟨a,b,xs,ys,rfl,rfl,ha,hb,hx,hz,q1,q2⟩:=h
 cases rx
 cases ry
 obtain⟨its,r1,p1,_⟩:=I.tuple ha
 obtain⟨its2,r2,p2,_⟩:=I.tuple hb
 refine HT.cat_tup p1 p2 (fun z=>hx (r1.nil_iff.mp z)) (fun z=>⟨.ref a,H,I,rfl,q1 (r2.nil_iff.mp z)⟩) (fun z=>?_) (by rw[←r1.length,← r2.length];exact hz)
 refine⟨.ref s.heap.objs.size,_,I.laid (t':=s.toks) (o:=.tup (xs++ys)) (fun b ob q=>Heap.get?_push_of_some _ q) (Nat.le_refl _) ?_,rfl,q2 (fun w=>z (r2.nil_iff.mpr w)) _ (I.hok.fresh (Nat.le_refl _))⟩
 exact⟨by rw[List.length_append];exact hz,_,r1.append r2,IsTup.new _ _⟩
end
end L2
namespace L2
open PySem PySem.Spec PyProof.Rows
def ixN(n:Nat)(i:Int):Option Nat:=if 0≤i then(if i<n then some i.toNat else none)else if -(n:Int)≤i then some (i+n).toNat else none
def atI{α:Type}(xs:List α)(i:Int):Option α:=(ixN xs.length i).bind fun j=>xs[j]?
theorem ixN_seq{n:Nat}{i:Int}{j:Nat}(h:ixN n i=some j):seqIndex? i n=some j/\j<n/\-(n:Int)≤i/\i<n:=by
 unfold ixN at h
 by_cases h0:0≤i
 ·rw[if_pos h0]at h
  by_cases h1:i<n
  ·rw[if_pos h1]at h
   have e:i.toNat=j:=Option.some.inj h
   exact⟨by rw[seqIndex_of h0 h1,e],by omega,by omega,h1⟩
  ·rw[if_neg h1]at h;cases h
 ·rw[if_neg h0]at h
  by_cases h1:-(n:Int)≤i
  ·rw[if_pos h1]at h
   have e:(i+n).toNat=j:=Option.some.inj h
   exact⟨by rw[seqIndex_neg (by omega) h1,e],by omega,h1,by omega⟩
  ·rw[if_neg h1]at h;cases h
theorem atI_get{α:Type}{xs:List α}{i:Int}{v:α}(h:atI xs i=some v):∃j,seqIndex? i xs.length=some j/\xs[j]?=some v/\j<xs.length/\-(xs.length:Int)≤i/\i<xs.length:=by
 unfold atI at h
 cases e:ixN xs.length i with
 | none=>rw[e]at h;cases h
 | some j =>
  rw[e]at h
  obtain⟨h1,h2,h3,h4⟩:=ixN_seq e
  exact⟨j,h1,h,h2,h3,h4⟩
def PlainIx(b:Expr):Prop:=∀o i,subscripted b false o i=operate [o,i] (getItem o i)
def IxR(X:Cx)(r:R2):Prop :=
 ∀(value slice:Expr) (pins:List (Addr×Obj)) (s:Shared) (σ:St) (H:Hp) (x y:V) (v u:Value) (Q:VK),Inv X pins σ H s->RelV x v->RelV y u->r x y H Q ->
  subscripted slice false v u=operate [v,u] (getItem v u)->wpAny (model X.prog X.w) X.A (subscriptTail value slice v u) (EP X pins σ Q) X.xe s
def MtR(X:Cx)(id:String)(r:V->List V->Hp->VK->Prop):Prop :=
 ∀(pins:List (Addr×Obj)) (s:Shared) (σ:St) (H:Hp) (x:V) (xs:List V) (v:Value) (us:List Value) (Q:VK),Inv X pins σ H s->RelV x v->Vals xs us->r x xs H Q ->
  wpAny (model X.prog X.w) X.A (call (.builtin id) (v::us)) (EP X pins σ Q) X.xe s
section
variable {X:Cx}{a b:Expr}{ta tb:TE}{pos:Pos}
theorem IxR.or{r r':R2}(h:IxR X r)(h':IxR X r'):IxR X (fun x y H Q=>r x y H Q∨r' x y H Q):=by
 intro value slice pins s σ H x y v u Q I rx ry q hs
 rcases q with q | q
 ·exact h value slice pins s σ H x y v u Q I rx ry q hs
 ·exact h' value slice pins s σ H x y v u Q I rx ry q hs
theorem pe_ix{r:R2}(hr:IxR X r)(ha:PE X a ta)(hb:PE X b tb)(hs:PlainIx b):PE X (.Subscript a b pos) (tOp r ta tb):=by
 intro pins s σ H Q I h
 exact Subscript_ (binT ha hb I h fun v u s2 x y H2 I2 rx ry q=>hr a b pins s2 σ H2 x y v u Q I2 rx ry q (hs _ _))
def rIxL(K:PySem.W.Frag):R2:=fun x y H Q=>∃p xs i v,x=.ref p/\y=.int i/\SqL K H p xs/\atI xs i=some v/\Q v H
def rIxT(K:PySem.W.Frag):R2:=fun x y H Q=>∃p xs i v,x=.ref p/\y=.int i/\SqT K H p xs/\atI xs i=some v/\Q v H
theorem ix_list:IxR X (rIxL X.K):=by
 intro value slice pins s σ H x y v u Q I rx ry h hs
 obtain⟨p,xs,i,z,rfl,rfl,hq,he,q⟩:=h
 cases rx
 obtain⟨t,rfl⟩:=ry
 obtain⟨its,r,pl,hz⟩:=I.list hq
 obtain⟨j,h1,h2,h3,h4,h5⟩:=atI_get he
 obtain⟨w,ew,rw'⟩:=r.get h2
 have hl:=r.length
 have hn:=line63
 have fin:EP X pins σ Q w s:=⟨z,H,I,rw',q⟩
 by_cases h0:0≤i
 ·have hj:i.toNat=j:=by
   rw[seqIndex_of h0 h5]at h1
   exact Option.some.inj h1
  exact item_listR pl.isList h0 (by omega) (by rw[hj];simpa using ew) fin hs
 ·have hj:(i+(its.toArray.size:Int)).toNat=j:=by
   rw[seqIndex_neg (by omega) h4]at h1
   rw[List.size_toArray,← hl]
   exact Option.some.inj h1
  exact subscriptTail_builtinR (x:=w) pl.isList.typeIs slot_list_getitem.lookup
   (wpAny_getItem_list_neg (Q:=fun r s'=>r=w/\EP X pins σ Q r s') pl.isList (by omega) (by rw[List.size_toArray]<;>omega) (by omega) (by rw[hj];simpa using ew) ⟨rfl,fin⟩) hs
theorem ix_tup:IxR X (rIxT X.K):=by
 intro value slice pins s σ H x y v u Q I rx ry h hs
 obtain⟨p,xs,i,z,rfl,rfl,hq,he,q⟩:=h
 cases rx
 obtain⟨t,rfl⟩:=ry
 obtain⟨its,r,pl,hz⟩:=I.tuple hq
 obtain⟨j,h1,h2,h3,h4,h5⟩:=atI_get he
 obtain⟨w,ew,rw'⟩:=r.get h2
 have hl:=r.length
 have hn:=line63
 have fin:EP X pins σ Q w s:=⟨z,H,I,rw',q⟩
 exact subscriptTail_builtinR (x:=w) pl.typeIs slot_tuple_getitem.lookup
  (getItem_tuple (j:=j) (Q:=fun r s'=>r=w/\EP X pins σ Q r s') pl (by omega) (by omega) (by rw[List.size_toArray,← hl];exact h1) (by simpa using ew) ⟨rfl,fin⟩) hs
theorem slice_bounds(lo hi:Option Int)(n:Nat):(sliceBounds lo hi none n).1=((HT.sIx n 0 lo:Nat):Int)/\(sliceBounds lo hi none n).2.1=((HT.sIx n n hi:Nat):Int)/\(sliceBounds lo hi none n).2.2=1:=by
 refine⟨?_,?_,rfl⟩
 ·cases lo with
  | none=>simp[sliceBounds,HT.sIx]
  | some i =>
   simp only[sliceBounds,HT.sIx,Option.getD_none,show(1:Int)>0 by decide,if_true]
   by_cases h:i<0
   ·simp only[h,if_true]<;>omega
   ·simp only[h,if_false]<;>omega
 ·cases hi with
  | none=>simp[sliceBounds,HT.sIx]
  | some i =>
   simp only[sliceBounds,HT.sIx,Option.getD_none,show(1:Int)>0 by decide,if_true]
   by_cases h:i<0
   ·simp only[h,if_true]<;>omega
   ·simp only[h,if_false]<;>omega
theorem slicePick_cut(its:List Value)(lo hi:Option Int):slicePick its.toArray lo hi none=((its.drop (HT.sIx its.length 0 lo)).take (HT.sIx its.length its.length hi - HT.sIx its.length 0 lo)).toArray:=by
 obtain⟨h1,h2,h3⟩:=slice_bounds lo hi its.toArray.size
 unfold slicePick
 rw[h1,h2,h3]
 simp only[sliceRange_one,pick_run,List.size_toArray]<;>rfl
def rSlL(K:PySem.W.Frag):V->Option Int->Option Int->Hp->VK->Prop:=fun x lo hi H Q=>∃a xs,x=.ref a/\SqL K H a xs/\∀p,H p=none->Q (.ref p) (upd H p (.lst (cutV xs lo hi)))
theorem sl_list:SlR X (rSlL X.K):=by
 intro pins s σ H x v vl vu lo hi sl Q I rx hs pl pu h
 obtain⟨a,xs,rfl,hx,q⟩:=h
 cases rx
 obtain⟨its,r,ht,hz⟩:=I.list hx
 have hlen:=r.length
 refine⟨"list",_,slot_list_getitem.lookup,ht.isList.typeIs,?_⟩
 refine wpAny_getItem_list_slice ht.isList hs pl pu .none (by simp) ?_ (by rw[List.size_toArray]<;>omega)
 rw[slicePick_cut,← hlen]
 refine⟨.ref s.heap.objs.size,_,I.laid (t':=s.toks) (o:=.lst (cutV xs lo hi)) (fun b ob q=>Heap.get?_push_of_some _ q) (Nat.le_refl _) ?_,rfl,q _ (I.hok.fresh (Nat.le_refl _))⟩
 exact⟨Nat.le_trans (cutV_length xs lo hi) hz,_,0,(r.drop (HT.sIx xs.length 0 lo)).take (HT.sIx xs.length xs.length hi - HT.sIx xs.length 0 lo),Heap.get?_push_size _ rfl⟩
theorem call_len_seq:CallR X (.builtin "len") (fun xs H Q=>∃p ys,xs=[.ref p]/\(SqL X.K H p ys∨SqT X.K H p ys)/\Q (.int ys.length) H):=by
 intro pins s σ H xs us Q I r h
 obtain⟨p,ys,rfl,hq,q⟩:=h
 obtain⟨u,rfl,rx⟩:=vals1 r
 cases rx
 have hn:=line63
 rcases hq with hq | hq
 ·obtain⟨its,r',pl,hz⟩:=I.list hq
  have hlen:=r'.length
  exact Calls.call_len_list pl.isList (by simp only[List.size_toArray]<;>omega) ⟨.int ys.length,H,I.tok _,⟨s.toks+1,by rw[List.size_toArray,hlen]⟩,q⟩
 ·obtain⟨its,r',pl,hz⟩:=I.tuple hq
  have hlen:=r'.length
  exact len_tuple pl (by simp only[List.size_toArray]<;>omega) ⟨.int ys.length,H,I.tok _,⟨s.toks+1,by rw[List.size_toArray,hlen]⟩,q⟩
theorem call_list_of:CallR X (.type "list") (fun xs H Q=>∃p ys,xs=[.ref p]/\(SqL X.K H p ys∨SqT X.K H p ys)/\∀l,H l=none->Q (.ref l) (upd H l (.lst ys))):=by
 intro pins s σ H xs us Q I r h
 obtain⟨p,ys,rfl,hq,q⟩:=h
 obtain⟨u,rfl,rx⟩:=vals1 r
 cases rx
 have fin:∀(its:List Value),Vals ys its->ys.length≤sizeLine->∀(h':Heap) (c':Nat),(∀b o',s.heap.get? b=some o'->h'.get? b=some o') ->
   h'.get? s.heap.objs.size=some { cls:=.type "list",dict:=none,data:=.seq its.toArray c',slots:=#[] }->EP X pins σ Q (.ref s.heap.objs.size) { s with heap:=h' }:=fun its r' hz h' c' kp e =>
  ⟨.ref s.heap.objs.size,_,I.laid (t':=s.toks) kp (Nat.le_refl _) (show ObjOk X.prog X.w _ h' _ (.lst ys)from⟨hz,its,c',r',e⟩),rfl,q _ (I.hok.fresh (Nat.le_refl _))⟩
 rcases hq with hq | hq
 ·obtain⟨its,r',pl,hz⟩:=I.list hq
  have hlen:=r'.length
  obtain⟨o,ho,hc,n,hd⟩:=pl.isList
  exact call_list_seq p (.inl rfl) ho hc hd (fun h' c' kp e=>fin its r' hz h' c' kp e) (by simp only[List.size_toArray]<;>omega)
 ·obtain⟨its,r',pl,hz⟩:=I.tuple hq
  have hlen:=r'.length
  obtain⟨o,ho,hc,n,hd⟩:=pl
  exact call_list_seq p (.inr rfl) ho hc hd (fun h' c' kp e=>fin its r' hz h' c' kp e) (by simp only[List.size_toArray]<;>omega)
theorem call_tuple_of:CallR X (.type "tuple") (fun xs H Q=>∃p ys,xs=[.ref p]/\((SqL X.K H p ys/\∀l,H l=none->Q (.ref l) (upd H l (.tup ys)))∨(SqT X.K H p ys/\Q (.ref p) H))):=by
 intro pins s σ H xs us Q I r h
 obtain⟨p,ys,rfl,h⟩:=h
 obtain⟨u,rfl,rx⟩:=vals1 r
 cases rx
 rcases h with⟨hq,q⟩ |⟨hq,q⟩
 ·obtain⟨its,r',pl,hz⟩:=I.list hq
  have hlen:=r'.length
  refine call_tuple_list pl.isList (fun h' kp=>?_) (by simp only[List.size_toArray]<;>omega)
  have I1:Inv X pins σ H { s with heap:=h' }:=I.kept (t':=s.toks) kp
  have I2:Inv X pins σ (upd H h'.objs.size (.tup ys)) { s with heap:=h'.push { cls:=.type "tuple",data:=.seq its.toArray } } :=
   I1.laid (t':=s.toks) (fun b o e=>Heap.get?_push_of_some _ e) (Nat.le_refl _) (show ObjOk X.prog X.w _ _ _ (.tup ys)from⟨hz,its,r',IsTup.new _ _⟩)
  exact⟨.ref h'.objs.size,_,I2,rfl,q _ (I1.hok.fresh (Nat.le_refl _))⟩
 ·obtain⟨its,r',pl,hz⟩:=I.tuple hq
  exact call_tuple_same pl ⟨.ref p,H,I,rfl,q⟩
def tyV(K:PySem.W.Frag)(T:String)(x:V)(H:Hp):Prop:=match x with
 | .str _=>T="str"
 | .int _=>T="int"
 | .ref p=>(T="list"/\∃xs,SqL K H p xs)∨(T="tuple"/\∃o,K.lookup p=some o/\o.cls=.type "tuple"/\o.dict=none) ∨
   (T="dict"/\((∃kvs,H p=some (.dK kvs))∨∃kvs,H p=some (.dT kvs)))∨(T="set"/\∃S n,H p=some (.set S n))
 | _=>False
theorem tyV_is{pins:List (Addr×Obj)}{σ:St}{H:Hp}{s:Shared}{T:String}{x:V}{v:Value}(I:Inv X pins σ H s)(r:RelV x v)(ty:tyV X.K T x H) :
  s.TypeIs v T/\∀a,v=.ref a->∃ob,s.heap.get? a=some ob/\ob.dict=none:=by
 cases x with
 | str z =>
  obtain⟨t,rfl⟩:=r
  cases (show T="str" from ty)
  exact⟨typeIs_str s z t,fun _ e=>nomatch e⟩
 | int i =>
  obtain⟨t,rfl⟩:=r
  cases (show T="int" from ty)
  exact⟨typeIs_int s i t,fun _ e=>nomatch e⟩
 | ref p =>
  cases r
  rcases ty with⟨rfl,xs,hq⟩ |⟨rfl,o,hk,hc,hd⟩ |⟨rfl,hk⟩ |⟨rfl,S,n,hk⟩
  ·obtain⟨its,_,pl,_⟩:=I.list hq
   refine⟨pl.isList.typeIs,fun a e=>?_⟩
   cases e
   obtain⟨o,n,e,c,hd,_⟩:=pl
   exact⟨o,e,hd⟩
  ·refine⟨⟨o,I.kIn p o hk,hc⟩,fun a e=>?_⟩
   cases e
   exact⟨o,I.kIn _ o hk,hd⟩
  ·have z:∃o,s.heap.get? p=some o/\o.ExactDict:=by
    rcases hk with⟨kvs,hk⟩ |⟨kvs,hk⟩
    ·obtain⟨_,_,_,_,o,_,_,e,ex,_⟩:=I.hok p _ hk
     exact⟨o,e,ex⟩
    ·obtain⟨_,_,_,_,o,_,_,e,ex,_⟩:=I.hok p _ hk
     exact⟨o,e,ex⟩
   obtain⟨o,e,ex⟩:=z
   refine⟨⟨o,e,ex.1⟩,fun a e2=>?_⟩
   cases e2
   exact⟨o,e,ex.2.1⟩
  ·obtain⟨o,_,_,_,e,ex,_⟩:=I.hok p _ hk
   refine⟨⟨o,e,ex.1⟩,fun a e2=>?_⟩
   cases e2
   exact⟨o,e,ex.2.1⟩
 | _=>exact False.elim ty
def tBM0(K:PySem.W.Frag)(T:String)(r:V->List V->Hp->VK->Prop)(to:TE):TE:=fun σ H Q=>to σ H fun x H1=>tyV K T x H1/\r x [] H1 Q
def tBM(K:PySem.W.Frag)(T:String)(r:V->List V->Hp->VK->Prop)(to:TE)(t:TA):TE:=fun σ H Q=>to σ H fun x H1=>tyV K T x H1/\t σ H1 fun xs H2=>r x xs H2 Q
variable {o e:Expr}{es:List Expr}{to:TE}{t:TA}{name:Str}{apos cpos:Pos}{T id:String}{r:V->List V->Hp->VK->Prop}
theorem pe_bm0(pa:PlainAttrs T)(slot:Slot T name id)(hty:typeOf (.builtin id)=pure (.type "method_descriptor"))(hm:MtR X id r)(ho:PE X o to)
  (hbase:attributeBase o name X.env (eval o X.env)=eval o X.env:=by rfl) (hline:(apos.endLine==cpos.line)=true:=by rfl):PE X (.Call (.Attribute o name apos) [] [] cpos) (tBM0 X.K T r to):=by
 intro pins s σ H Q I h
 refine wpAny_Call_method0_late hbase hline (thn (ho pins s σ H _ I h) fun v s1 ⟨x,H1,I1,r1,ty,q1⟩=>?_)
 obtain⟨h1,h2⟩:=tyV_is I1 r1 ty
 exact⟨T,id,pa,slot,hty,h1,h2,Calls.callWith_builtin rfl (PySem.evalArgs_none (hm pins s1 σ H1 x [] v [] Q I1 r1 .nil q1))⟩
theorem pe_bm(pa:PlainAttrs T)(slot:Slot T name id)(hty:typeOf (.builtin id)=pure (.type "method_descriptor"))(hm:MtR X id r)(ho:PE X o to)(ha:PA X (e::es) t)
  (hbase:attributeBase o name X.env (eval o X.env)=eval o X.env:=by rfl)
  (hfew:((backTo cpos (starEach (e::es) X.env)).all (fun x=>!x.1)&&(backToKw cpos (keywordEach [] X.env)).all (fun x=>x.1.isSome)
   && decide ((e::es).length+([]:List Keyword).length+(if ([]:List Keyword).isEmpty then 0 else 1)<30))=true:=by rfl)
  (hline:(apos.endLine==cpos.line)=true:=by rfl) (hs:starEach (e::es) X.env=(false,eval e X.env)::starEach es X.env:=by rfl) (hplain:(backTo cpos (starEach es X.env)).any (·.1)=false:=by rfl) :
  PE X (.Call (.Attribute o name apos) (e::es) [] cpos) (tBM X.K T r to t):=by
 intro pins s σ H Q I h
 refine wpAny_Call_method_late hbase hfew hline rfl (thn (ho pins s σ H _ I h) fun v s1 ⟨x,H1,I1,r1,ty,q1⟩=>?_)
 obtain⟨h1,h2⟩:=tyV_is I1 r1 ty
 refine⟨T,id,pa,slot,hty,h1,h2,?_⟩
 have hA:=ha cpos pins s1 σ H1 _ I1 q1
 rw[hs]at hA ⊢
 refine Calls.callWith_builtin (by show(false||(backTo cpos (starEach es X.env)).any (·.1))=false;rw[hplain]<;>rfl) (Calls.evalArgs_plain ?_)
 exact thn hA fun us s2 ⟨vs,H2,I2,r2,q2⟩=>hm pins s2 σ H2 x vs v us Q I2 r1 r2 q2
/- xs.append(e),list.index on a module's tuple .. are MtR facts of 06m -/
end
end L2
namespace L2
open PySem PySem.Spec PyProof.Rows
def MtM(X:Cx)(id:String)(r:V->List V->Hp->VK->Prop):Prop :=
 ∀(pins:List (Addr×Obj)) (s:Shared) (σ:St) (H:Hp) (x:V) (xs:List V) (v:Value) (us:List Value) (Q:VK),Inv X pins σ H s->RelV x v->Vals xs us->r x xs H Q ->
  wpAny (model X.prog X.w) X.A (call (.builtin id) (v::us)) (EP X pins σ Q) X.xe s
theorem Vals.one:∀{x:V} {us:List Value},Vals [x] us->∃u,us=[u]/\RelV x u
 | _,_,.cons r .nil=>⟨_,rfl,r⟩
theorem Vals.zero:∀{us:List Value},Vals [] us->us=[]
 | _,.nil=>rfl
theorem Vals.dropLast{xs:List V}{us:List Value}(h:Vals xs us):Vals xs.dropLast us.dropLast:=by
 induction h with
 | nil=>exact .nil
 | cons r t ih =>
  cases t with
  | nil=>exact .nil
  | cons q t'=>exact .cons r ih
theorem erase_last{α:Type}(l:List α):l.eraseIdx (l.length - 1)=l.dropLast:=by
 induction l with
 | nil=>rfl
 | cons a r ih =>
  cases r with
  | nil=>rfl
  | cons b r =>
   have e:(a::b::r).length - 1=((b::r).length - 1)+1:=by
    have h1:(a::b::r).length=r.length+2:=rfl
    have h2:(b::r).length=r.length+1:=rfl
    omega
   rw[e,List.eraseIdx_cons_succ,ih]
   all_goals rfl
section
variable {X:Cx}{pins:List (Addr×Obj)}{σ:St}{H:Hp}{s:Shared}{l b:Addr}{xs ys zs:List V}
theorem Inv.lset{its its':List Value}{n:Nat}{f:Array Value->Array Value}{t':Nat}(I:Inv X pins σ H s)(hH:H l=some (.lst xs))
  (e:s.heap.get? l=some { cls:=.type "list",data:=.seq its.toArray n }) (hf:f its.toArray=its'.toArray) (hv:Vals ys its') (hz:ys.length≤sizeLine) :
  Inv X pins σ (upd H l (.lst ys)) { s with heap:=s.heap.update l (Obj.mapSeq f),toks:=t' }:=by
 have q:=PySem.IsL.update e f
 rw[hf]at q
 refine I.write (x:=l) (e:=l) (by rw[hH];exact trivial) (.inl rfl) (fun b' u hb hu=>(Heap.get?_update_other s.heap (Obj.mapSeq f) (Ne.symm hb)).trans hu) ⟨_,q⟩ ?_
 exact⟨hz,its',_,hv,q⟩
theorem Inv.lnew{its:List Value}{t':Nat}(I:Inv X pins σ H s)(hv:Vals ys its)(hz:ys.length≤sizeLine) :
  Inv X pins σ (upd H s.heap.objs.size (.lst ys)) { s with heap:=s.heap.push { cls:=.type "list",data:=.seq its.toArray },toks:=t' } :=
 I.laid (fun _ _ q=>Heap.get?_push_of_some _ q) (Nat.le_refl _) ⟨hz,its,0,hv,Heap.get?_push_size _ rfl⟩
theorem Inv.fresh(I:Inv X pins σ H s):H s.heap.objs.size=none:=I.hok.fresh (Nat.le_refl _)
theorem Inv.lstM(I:Inv X pins σ H s)(hH:H l=some (.lst xs)):xs.length≤sizeLine/\∃(its:List Value) (n:Nat),Vals xs its/\xs.length=its.length/\s.heap.get? l=some { cls:=.type "list",data:=.seq its.toArray n }:=by
 obtain⟨z,its,n,r,e⟩:=I.hok l _ hH
 exact⟨z,its,n,r,r.length,e⟩
theorem notLongL{n:Nat}(h:n≤sizeLine):Builtin.List.listTooLong n=false:=by
 unfold Builtin.List.listTooLong
 exact decide_eq_false (by omega)
end
section
variable {X:Cx}
def rAppend:V->List V->Hp->VK->Prop:=fun x vs H Q=>∃l xs y,x=.ref l/\vs=[y]/\H l=some (.lst xs)/\xs.length<sizeLine/\Q .non (upd H l (.lst (xs++[y])))
theorem mt_append:MtM X "list.append" rAppend:=by
 intro pins s σ H x vs v us Q I rx rv h
 obtain⟨l,xs,y,rfl,rfl,hH,hz,q⟩:=h
 cases rx
 obtain⟨u,rfl,ru⟩:=rv.one
 obtain⟨z,its,n,r,hl,e⟩:=I.lstM hH
 refine call_meets F.slot_list_append ⟨_,e,rfl⟩ F.entry_list_append (F.args_list_append_2 _ _) (PySem.list_append l its.toArray n u (by rw[List.size_toArray];omega)) ⟨e,?_⟩
 refine⟨.non,_,I.lset (its':=its++[u]) hH e (by simp) (r.append (.cons ru .nil)) ?_,rfl,q⟩
 rw[List.length_append,List.length_singleton]
 omega
def rExtend:V->List V->Hp->VK->Prop:=fun x vs H Q=>∃l b xs zs,x=.ref l/\vs=[.ref b]/\H l=some (.lst xs)/\H b=some (.lst zs)/\xs.length+zs.length≤sizeLine/\Q .non (upd H l (.lst (xs++zs)))
theorem mt_extend:MtM X "list.extend" rExtend:=by
 intro pins s σ H x vs v us Q I rx rv h
 obtain⟨l,b,xs,zs,rfl,rfl,hH,hB,hz,q⟩:=h
 cases rx
 obtain⟨u,rfl,ru⟩:=rv.one
 cases ru
 obtain⟨z,its,n,r,hl,e⟩:=I.lstM hH
 obtain⟨z2,its2,n2,r2,hl2,e2⟩:=I.lstM hB
 have hsz:its.toArray.size+its2.toArray.size≤sizeLine:=by rw[List.size_toArray,List.size_toArray];omega
 have hlong:¬(!its.toArray.isEmpty&&Builtin.List.listTooLong (its.toArray.size+its2.toArray.size))=true:=by
  rw[notLongL hsz,Bool.and_false]
  exact Bool.false_ne_true
 refine call_meets F.slot_list_extend ⟨_,e,rfl⟩ F.entry_list_extend (F.args_list_extend_2 _ _)
  (AutoSeq1.list_extend_list_list_0 l its.toArray n b its2.toArray n2 hlong (by rw[List.size_toArray];omega) (by omega)) ⟨e,e2,?_⟩
 refine⟨.non,_,I.lset (its':=its++its2) hH e (by simp) (r.append r2) ?_,rfl,q⟩
 rw[List.length_append]
 omega
def rPop:V->List V->Hp->VK->Prop:=fun x vs H Q=>∃l xs y,x=.ref l/\vs=[]/\H l=some (.lst xs)/\xs[xs.length - 1]?=some y/\Q y (upd H l (.lst xs.dropLast))
theorem mt_pop:MtM X "list.pop" rPop:=by
 intro pins s σ H x vs v us Q I rx rv h
 obtain⟨l,xs,y,rfl,rfl,hH,hy,q⟩:=h
 cases rx
 have hus:=rv.zero
 subst hus
 obtain⟨z,its,n,r,hl,e⟩:=I.lstM hH
 obtain⟨u,hu,ru⟩:=r.get hy
 have hy':its.toArray[its.toArray.size - 1]?=some u:=by
  show its.toArray[its.length - 1]?=some u
  rw[←Array.getElem?_toList,← hl]
  exact hu
 refine call_meets F.slot_list_pop ⟨_,e,rfl⟩ F.entry_list_pop (F.args_list_pop_1 _) (MeetsSeq.list_pop_last l its.toArray n u hy' (by rw[List.size_toArray];omega)) ⟨e,?_⟩
 refine⟨y,_,I.lset (its':=its.dropLast) hH e ?_ r.dropLast ?_,ru,q⟩
 ·show its.toArray.eraseIdxIfInBounds (its.toArray.size - 1)=its.dropLast.toArray
  rw[List.size_toArray,List.eraseIdxIfInBounds_toArray,erase_last]
 ·rw[List.length_dropLast]
  omega
def rClear:V->List V->Hp->VK->Prop:=fun x vs H Q=>∃l xs,x=.ref l/\vs=[]/\H l=some (.lst xs)/\Q .non (upd H l (.lst []))
theorem mt_clear:MtM X "list.clear" rClear:=by
 intro pins s σ H x vs v us Q I rx rv h
 obtain⟨l,xs,rfl,rfl,hH,q⟩:=h
 cases rx
 have hus:=rv.zero
 subst hus
 obtain⟨z,its,n,r,hl,e⟩:=I.lstM hH
 refine call_meets F.slot_list_clear ⟨_,e,rfl⟩ F.entry_list_clear (F.args_list_clear_1 _) (AutoSeq1.list_clear_list_0 l its.toArray n (by rw[List.size_toArray];omega)) ⟨e,?_⟩
 exact⟨.non,_,I.lset (its':=[]) (ys:=[]) hH e rfl .nil (Nat.zero_le _),rfl,q⟩
def rCat:R2:=fun x y H Q=>∃l b xs zs,x=.ref l/\y=.ref b/\H l=some (.lst xs)/\H b=some (.lst zs)/\xs.length+zs.length≤sizeLine/\∀p,H p=none->Q (.ref p) (upd H p (.lst (xs++zs)))
theorem op_cat:OpR X (binaryOp .Add) rCat:=by
 intro pins s σ H x y v u Q I rx ry h
 obtain⟨l,b,xs,zs,rfl,rfl,hH,hB,hz,q⟩:=h
 cases rx
 cases ry
 obtain⟨z,its,n,r,hl,e⟩:=I.lstM hH
 obtain⟨z2,its2,n2,r2,hl2,e2⟩:=I.lstM hB
 refine PySem.P.add_list e e2 ?_ (by rw[List.size_toArray,List.size_toArray];omega)
 have ea:its.toArray++its2.toArray=(its++its2).toArray:=by simp
 rw[ea]
 exact⟨.ref _,_,I.lnew (t':=s.toks) (r.append r2) (by rw[List.length_append];omega),rfl,q _ I.fresh⟩
end
section
variable {prog:Program}{w:World}{A:Around}{E:Value->Shared->Prop}{s:Shared}
end
section
variable {X:Cx}
end
end L2
namespace Att
open PySem PySem.W PySem.Calls PyProof.Rows
theorem ints_of_wellAll{P:Params}{h:Heap}:∀(ns:List Int) (vs:List Value),WellAll P h vs (ns.map WData.int)->IntsAre vs ns:=by
 intro ns
 induction ns with
 | nil =>
  intro vs w
  rw[List.map_nil]at w
  cases w
  exact .nil
 | cons n ns ih =>
  intro vs w
  rw[List.map_cons]at w
  cases w with
  | cons a b =>
   cases a
   exact .cons _ _ (ih _ b)
theorem script_of{l:OpenLaw}{n:Nat}(hn:l.most=some n){P:Params}{h:Heap}{args:List WData}{vals:List Value}
  (hpre:l.row.toRowW.claim.pre args=true) (hwl:WellAll P h vals args) :
  ∃a vs ns,vals=[Value.ref a]/\args=[WData.list (ns.map WData.int)]/\h.get? a=some { cls:=.type "list",data:=.seq vs.toArray }/\IntsAre vs ns/\ns.length≤n:=by
 have hsh:WShape.hasAll [] args [.list .int]=true:=(pre_splitW hpre).1
 have hc:l.pre.holds [] { args:=args }=true:=(pre_splitW hpre).2
 obtain⟨d,r,rfl,h1,h2⟩:=hasAllW_cons hsh
 obtain rfl:=hasAllW_nil h2
 obtain⟨xs,rfl,h3⟩:=hasW_list h1
 obtain⟨ns,rfl⟩:=items_int h3
 have hlen:ns.length≤n:=by
  unfold OpenLaw.pre at hc
  have h4:(WTm.not (.lt (.lit (.int (n:Int))) (.len (.arg 0)))).holds [] { args:=[.list (ns.map .int)] }=true:=by
   have h4:=(holds_andW hc).1
   rw[hn]at h4
   exact h4
  have h5:=condW_of h4 (w_not (w_lt w_lit (w_len_list (w_arg rfl))))
  rw[List.length_map]at h5
  refine Nat.le_of_not_lt fun q=>?_
  have q':(n:Int)<((ns.length:Nat):Int):=by omega
  first
   |(rw[decide_eq_true q']at h5;exact absurd h5 (by decide))
   |(simp at h5;omega)
 cases hwl with
 | cons w1 w2 =>
  cases w2
  cases w1 with
  | list ho hall=>exact⟨_,_,ns,rfl,rfl,ho,ints_of_wellAll ns _ hall,hlen⟩
theorem post_true(l:OpenLaw)(args:List WData):l.row.toRowW.claim.post args (.bool true) args=true :=
 postW_of (r:=l.row.toRowW) (X:=(true==true))
  (show WShape.has [] (.bool true) .bool=true by first | rfl | decide | simp[WShape.has,WShape.arms,WShape.armsAll])
  (show(WTm.eq .res (.lit (.bool true))).value [] { args:=args,res:=some (.bool true),after:=args }=some (.bool (true==true))from w_eq_bool (w_res rfl) w_lit) rfl
theorem attach_call{l:OpenLaw}{n:Nat}{q:Program}{loose:List Str}{XP:(Str->Option Value)->Heap->Prop}{YP:World->Heap->Prop}{d:DefRec}
  (hn:l.most=some n) (hdf:d.params.defaults=[])
  (call:∀(w:World) (s₀ s₁:Shared) (mg mb:Str->Option Value) (fa:Addr) (o:Obj) (pm cd doc:Value) (a:Addr) (vs:List Value) (ns:List Int),
   Ground q loose [] XP w s₀ mg mb s₁.heap->YP w s₁.heap ->
   s₁.heap.get? fa=some o->o.data=.func (docDef d.name d.params d.body d.scope pm cd doc)->s₁.heap.CodeRec cd d.name->mg d.name=some (.ref fa) ->
   s₁.heap.get? a=some { cls:=.type "list",data:=.seq vs.toArray }->IntsAre vs ns->ns.length≤n->s₁.gens=#[] ->
   codeAny (model l.prog w) callerA (.call (.ref fa) ⟨[.ref a],[]⟩) (fun r s'=>r=.ok (.ret (.bool true))/\OldK s₁.heap s'.heap/\s'.os=s₁.os/\AllBare s'.gens) s₁) :
  WalkO q loose XP YP l.row.toRowW d [] (fun f vs=>PySem.call f vs):=by
 intro w s₀ s₁ mg mb G Y fa o pm cd doc dV kV ho hd hcd hD hmg hg args vals as hpre hlay hrd hwl hlo
 obtain rfl:dV=.none:=Dflts.none hD hdf
 obtain rfl:kV=.none:=Dflts.noKw hD
 obtain⟨a,vs,ns,rfl,rfl,hobj,hints,hlen⟩:=script_of hn hpre hwl
 refine enter_call (codeAny_mono (call w s₀ s₁ mg mb fa o pm cd doc a vs ns G Y ho (fd_plain hd) hcd hmg hobj hints hlen hg) fun r s' hq=>?_)
 obtain⟨rfl,h2,h3,h4⟩:=hq
 exact⟨.inl ⟨.bool true,.bool true,[],rfl,fun _=>rfl,.bool true,post_true l _,fun _=>⟨List.Pairwise.nil,fun _ hm=>(nomatch hm)⟩⟩,h2,h3,h4⟩
section
variable {prog:Program}{w:World}{A:Around}{E:Value->Shared->Prop}{s:Shared}{K:Frag}
def ledger(h:Heap)(L d:Addr):List (Addr×Obj):=(List.range h.objs.size).filterMap fun a=>if a=L∨a=d then none else(h.get? a).map fun o=>(a,o)
end
end Att
namespace L2
open PySem PySem.Spec PyProof.Rows
theorem vals_ints:∀{vs:List Value} {ns:List Int},IntsAre vs ns->Vals (ns.map V.int) vs
 | _,_,.nil=>.nil
 | _,_,.cons n t h=>.cons ⟨t,rfl⟩ (vals_ints h)
def Only(H:Hp):Prop:=∀b,H b=none∨∃o xs,H b=some (.frz o (.lst xs))
theorem law_call{P:Program}{w:World}{K:PySem.W.Frag}{mg mb:Str->Option Value}{CX:CXT}{k:Nat}{fa a:Addr}{fd:FuncData}{x:Str}{sp:Sp}{s₁:Shared}{vs:List Value}{ns:List Int}
  (KX:K.In s₁.heap) (hns:s₁.heap.Ns mainGlobals mg) (hb:s₁.heap.Ns builtinsNs mb) (hbb:∀x:Str,x≠"__name__"->mb x=bootBuiltins x) (hlim:s₁.heap.NoLimit) (hg:s₁.gens=#[])
  (ha:s₁.heap.get? a=some { cls:=.type "list",data:=.seq vs.toArray }) (hi:IntsAre vs ns) (hl:ns.length≤sizeLine) (hr:Room k callerA)
  (F:∀base:Heap,K.In base->base.Ns mainGlobals mg->FnOk P w K mg base CX k fa fd [x] sp) (hbind:∀(s:Shared) (u:Value),BindsTo s fd ⟨[u],[]⟩ [(x,u)])
  (hsp:∀H:Hp,Only H->SqL K H a (ns.map V.int)->sp [.ref a] H (fun v _=>v=.bl true) fun _ _ _=>False)
  (hCX:∀H e s',CX [] H s₁ (fun _ _ _=>False) e s'->False) :
  codeAny (model P w) callerA (.call (.ref fa) ⟨[.ref a],[]⟩) (fun r s'=>r=.ok (.ret (.bool true))/\OldK s₁.heap s'.heap/\s'.os=s₁.os/\AllBare s'.gens) s₁:=by
 have rv:=vals_ints hi
 have lenV:=hi.length
 -- from an abstract heap in which nothing but the script may be tracked
 have core:∀H:Hp,Only H->SqL K H a (ns.map V.int)->HOk P w H s₁.heap->(∀b,H b≠none->b=a)->(H a≠none->K.lookup a=none) ->
   codeAny (model P w) callerA (.call (.ref fa) ⟨[.ref a],[]⟩) (fun r s'=>r=.ok (.ret (.bool true))/\OldK s₁.heap s'.heap/\s'.os=s₁.os/\AllBare s'.gens) s₁:=by
  intro H hO hS hok hA hK
  have base_of:∀{b:Addr} {o:Obj},s₁.heap.get? b=some o->H b=none->(hidT s₁.heap H).get? b=some o:=fun e n=>hidT_get e n
  have noA:∀{b:Addr} {o:Obj} {es:Array DictEntry} {ep:Nat},s₁.heap.get? b=some o->o.data=.dict es ep->H b=none:=fun {b o es ep} e d=>by
   cases q:H b with
   | none=>rfl
   | some u =>
    have e':b=a:=hA b (by rw[q];simp)
    subst e'
    rw[ha]at e;cases e
    have d':Data.seq vs.toArray _=Data.dict es ep:=d
    cases d'
  have nsK:∀{b:Addr} {m:Str->Option Value},s₁.heap.Ns b m->(hidT s₁.heap H).Ns b m:=fun {b m} ⟨o,es,ep,e,d,r⟩=>⟨o,es,ep,base_of e (noA e d),d,r⟩
  have hKb:K.In (hidT s₁.heap H):=fun b o e=>base_of (KX b o e) (by
   cases q:H b with
   | none=>rfl
   | some u =>
    have e':b=a:=hA b (by rw[q];simp)
    subst e'
    rw[hK (by rw[q];simp)]at e;cases e)
  have hM:Mod K mg (hidT s₁.heap H):=⟨hKb,nsK hns,⟨mb,nsK hb,hbb⟩,let ⟨mc,h1,h2⟩:=hlim;⟨mc,nsK h1,h2⟩⟩
  have e0:Env0 P w K mg (hidT s₁.heap H) callerA [] s₁ H:=⟨rfl,hM,fun b o e=>of_hidT e,Nat.le_of_eq (hidT_size _ _),trivial,fun b hb=>absurd (show b∈([]:List Addr)from hb) (by simp),hok,.of_eq hg⟩
  refine codeAny_mono ((F _ hKb (nsK hns)).run callerA [] s₁ H ⟨[.ref a],[]⟩ [.ref a] [.ref a] _ _ hr e0 (hbind s₁ (.ref a)) (.cons rfl .nil) (hsp H hO hS)) fun r s' h=>?_
  cases r with
  | error e=>exact(hCX H e s' h).elim
  | ok fl =>
   cases fl with
   | next=>exact False.elim h
   | brk=>exact False.elim h
   | cont=>exact False.elim h
   | ret u =>
    obtain⟨v,H',os,bare,un,hok',r',q⟩:=h
    have q':v=.bl true:=q
    subst q'
    obtain rfl:u=Value.bool true:=r'
    refine⟨rfl,OldK.of_keep fun b o e=>?_,os,bare⟩
    cases q:H b with
    | none=>exact un.keep b o e q (by intro z;exact absurd (show b∈([]:List Addr)from z) (by simp)) (by simp)
    | some u =>
     rcases hO b with z |⟨ob,xs,z⟩
     ·rw[q]at z;cases z
     ·have z2:=un.frzs b ob _ z
      obtain⟨e1,_⟩:=hok b _ z
      obtain⟨e2,_⟩:=hok' b _ z2
      rw[e]at e1;cases e1
      exact e2
 cases hk:K.lookup a with
 | some o =>
  -- the script is one of the module's own objects
  have e:=KX a o hk
  rw[ha]at e
  cases e
  refine core (fun _=>none) (fun _=>.inl rfl) (.inr ⟨_,vs.toArray,_,hk,rfl,rfl,rfl,by rw[List.size_toArray,lenV];exact hl,by simpa using rv⟩) (fun b u z=>by have z':(none:Option HO)=some u:=z;cases z') (fun b z=>absurd rfl z) fun z=>absurd rfl z
 | none =>
  refine core (fun b=>if b=a then some (.frz { cls:=.type "list",data:=.seq vs.toArray } (.lst (ns.map V.int)))else none) (fun b=>?_) (.inl (.inr ⟨{ cls:=.type "list",data:=.seq vs.toArray },if_pos rfl⟩)) (fun b u z=>?_) (fun b z=>?_) fun _=>hk
  ·by_cases hb:b=a
   ·exact .inr ⟨_,_,if_pos hb⟩
   ·exact .inl (if_neg hb)
  ·by_cases hb:b=a
   ·have z':=(if_pos hb).symm.trans z
    cases z'
    subst hb
    exact⟨ha,by rw[List.length_map];exact hl,vs,_,rv,ha⟩
   ·have z':=(if_neg hb).symm.trans z
    cases z'
  ·by_cases hb:b=a
   ·exact hb
   ·exact absurd (if_neg hb) z
end L2
namespace L2
open PySem PySem.Spec PyProof.Rows
abbrev KOf{K:PySem.W.Frag}{h:Heap}(_:K.In h):PySem.W.Frag:=K
theorem walk_of{l:PySem.W.OpenLaw}{n k:Nat}{q:Program}{loose:List Str}{XP:(Str->Option Value)->Heap->Prop}{YP:World->Heap->Prop}{d:DefRec}{K:Params->PySem.W.Frag}{CX:World->CXT}{sp:World->Sp}{x:Str}
  (hn:l.most=some n) (hn2:n≤sizeLine) (hdf:d.params.defaults=[]) (hr:Room k callerA)
  (hY:∀(w:World) (h:Heap),YP w h->(K w.params).In h)
  (F:∀(w:World) (mg:Str->Option Value) (fa:Addr) (h:Heap),(K w.params).In h->h.Ns mainGlobals mg->mg d.name=some (.ref fa) ->
   ∃fd:FuncData,(∀(s:Shared) (u:Value),BindsTo s fd ⟨[u],[]⟩ [(x,u)]) /\
    ∀base:Heap,(K w.params).In base->base.Ns mainGlobals mg->FnOk l.prog w (K w.params) mg base (CX w) k fa fd [x] (sp w))
  (hsp:∀(w:World) (H:Hp) (a:Addr) (ns:List Int),ns.length≤n->Only H->SqL (K w.params) H a (ns.map V.int)->sp w [.ref a] H (fun v _=>v=.bl true) fun _ _ _=>False)
  (hCX:∀(w:World) (H:Hp) (s:Shared) (e:Value) (s':Shared),CX w [] H s (fun _ _ _=>False) e s'->False) :
  PySem.W.WalkO q loose XP YP l.row.toRowW d [] (fun f vs=>PySem.call f vs):=by
 refine Att.attach_call hn hdf fun w s₀ s₁ mg mb fa o pm cd doc a vs ns G Y ho hd hcd hmg hobj hints hlen hg=>?_
 have KX:=hY w _ Y
 obtain⟨fd,hb,hF⟩:=F w mg fa _ KX G.T.g hmg
 exact law_call KX G.T.g G.T.b G.T.builtins G.T.nolimit hg hobj hints (Nat.le_trans hlen hn2) hr hF hb (fun H hO hS=>hsp w H a ns hlen hO hS) fun H e s'=>hCX w H s₁ e s'
theorem walk_ofK{l:PySem.W.OpenLaw}{n k:Nat}{q:Program}{loose:List Str}{XP:(Str->Option Value)->Heap->Prop}{YP:World->Heap->Prop}{d:DefRec}{K:Params->PySem.W.Frag}{CX:CXT}{sp:PySem.W.Frag->Sp}{x:Str}
  (hn:l.most=some n) (hn2:n≤sizeLine) (hdf:d.params.defaults=[]) (hr:Room k callerA)
  (hY:∀(w:World) (h:Heap),YP w h->(K w.params).In h)
  (F:∀(w:World) (mg:Str->Option Value) (fa:Addr) (h:Heap),(K w.params).In h->h.Ns mainGlobals mg->mg d.name=some (.ref fa) ->
   ∃fd:FuncData,(∀(s:Shared) (u:Value),BindsTo s fd ⟨[u],[]⟩ [(x,u)]) /\
    ∀base:Heap,(K w.params).In base->base.Ns mainGlobals mg->FnOk l.prog w (K w.params) mg base CX k fa fd [x] (sp (K w.params)))
  (hsp:∀(K:PySem.W.Frag) (H:Hp) (a:Addr) (ns:List Int),ns.length≤n->Only H->SqL K H a (ns.map V.int)->sp K [.ref a] H (fun v _=>v=.bl true) fun _ _ _=>False)
  (hCX:∀(H:Hp) (s:Shared) (e:Value) (s':Shared),CX [] H s (fun _ _ _=>False) e s'->False) :
  PySem.W.WalkO q loose XP YP l.row.toRowW d [] (fun f vs=>PySem.call f vs) :=
 walk_of (K:=K) (CX:=fun _=>CX) (sp:=fun w=>sp (K w.params)) hn hn2 hdf hr hY F (fun w H a ns h1 h2 h3=>hsp (K w.params) H a ns h1 h2 h3) fun _ H s e s'=>hCX H s e s'
end L2
/- THE LAST THEOREM (shape; LID,My.* are yours):
   My.Adr: a structure of the addresses that your layer names (classes,functions); My.Txt K t: a structure (Prop) of the equations over K;
   My.txt_mk:{K} {implicit addresses ..} (e1:nsIn K mainGlobals "law"=some (some (.ref f))) (e2:K.lookup f=some ⟨oc,od,.func (fnOf "law" "law" params body scope dV kV doc pm an cdv ct),sl⟩) (e3:codeIn K cdv "law"=true) ..:∃ t,My.Txt K t
set_option maxRecDepth 100000 in
set_option maxHeartbeats 0 in
theorem PySem.Challenge.cw_LID_holds : PySem.Challenge.rw_LID.Holds := by
 w_on;o_law;k_head;(case hw=>w_witness2)
 k_fill
 refine L2.walk_of (l:=PySem.Challenge.rw_LID) (n:=63) (k:=40) (x:="script") (CX:=fun w=>..) (sp:=fun _=>My.sp_law) rfl (by decide) rfl ⟨rfl,by decide,by decide⟩ (fun w h Y=>PySem.W.kIn_of Y) ?F ?S ?C
 case F =>
  intro w mg fa h KX G hmg
  have T:∃t,My.Txt (L2.KOf KX) t:=by
   dsimp only[L2.KOf]                          -- K must stand as «<heap const> w.params» for k_is
   refine' My.txt_mk ?e1 ?e2 ?e3 ..
   (case e1=>PySem.W.k_is)                    -- in the order: a name -> its address -> its object -> its parts
   (case e2=>PySem.W.k_is)
   ..
  obtain⟨t,T⟩:=T
  have e0:=hmg.symm.trans (PySem.W.mg_of KX G T.law)
  cases e0                                       -- fa is the law's own address
  exact⟨_,fun s u=>.of_eq rfl,fun base kb nb=>My.law_fn T kb nb⟩     -- if «.of_eq rfl» comes too early: refine'⟨_,?b,fun base kb nb=>My.law_fn T kb nb⟩;exact fun s u=>.of_eq rfl
 case S=>exact fun w H a ns hl hO hS=>..
 case C=>exact ..
(the tactic k_is has no namespace: write k_is) -/
namespace L2
open PySem PySem.Spec PyProof.Rows
def inClass(s:Stmt)(j:Nat):Stmt:=match s with
 | .ClassDef _ _ _ body _ _ _ _ _ _ _=>body.getD j (.Pass ⟨0,0,0,0⟩)
 | _=>.Pass ⟨0,0,0,0⟩
def defArgs(s:Stmt):Arguments:=match s with
 | .FunctionDef _ a _ _ _ _ _ _ _ _=>a
 | _=>{ posonlyargs:=[],args:=[],vararg:=none,kwonlyargs:=[],kw_defaults:=[],kwarg:=none,defaults:=[] }
def defBody(s:Stmt):List Stmt:=match s with
 | .FunctionDef _ _ b _ _ _ _ _ _ _=>b
 | _=>[]
def defScope(s:Stmt):Scope:=match s with
 | .FunctionDef _ _ _ _ _ _ sc _ _ _=>sc
 | _=>{ kind:=.function,names:=[],isGenerator:=false,isCoroutine:=false }
abbrev CX0:CXT:=fun _ _ _ _ _ _=>False
abbrev E0:XK:=fun _ _ _=>False
theorem pass0{X:Cx}:Passes CX0 X E0:=fun _ _ _ _ _ _ _ h=>h.elim
structure Fun (K:PySem.W.Frag) (x qual:Str) (st:Stmt) (f:Addr) (fd:FuncData):Prop where
 ex:∃(oc:Value) (od:Option Addr) (kV doc pm:Value) (an:Option Addr) (cdv ct:Value) (osl:Array (Option Value)),
  fd=PySem.W.fnOf x qual (defArgs st) (defBody st) (defScope st) .none kV doc pm an cdv ct/\K.lookup f=some ⟨oc,od,.func fd,osl⟩/\PySem.W.codeIn K cdv qual=true
 kp:PySem.W.keepIn K (.ref f)=true
section
variable {P:Program}{w:World}{K:PySem.W.Frag}{mg:Str->Option Value}{base:Heap}
theorem Fun.ok{x qual:Str}{st:Stmt}{f:Addr}{fd:FuncData}{N ps:List Str}{k:Nat}{sp:Sp}(F:Fun K x qual st f fd)(S:FnScope N ps (defScope st))(len:∀vs H Q E,sp vs H Q E->vs.length=ps.length)
  (hbody:∀(cdv:Value) (A:Around) (outer:List Env) (s:Shared) (H:Hp) (vs:List V) (Q:VK) (E:XK),Room k (A.deeper (envOfC qual (defScope st) s.heap.objs.size f cdv))->sp vs H Q E ->
   ∃t,PSs (cxOf CX0 P w K mg base N qual (defScope st) f cdv A outer s H E).nox (defBody st) t/\t { nx:=fun _ H'=>Q .non H',rt:=Q } (start N vs) H):FnOk P w K mg base CX0 (k+1) f fd ps sp:=by
 obtain⟨oc,od,kV,doc,pm,an,cdv,ct,osl,rfl,lk,hcd⟩:=F.ex
 refine fn_of lk hcd S len fun A outer s H vs Q E hr hsp=>?_
 obtain⟨t,h,q⟩:=hbody cdv A outer s H vs Q E hr hsp
 exact⟨t,h.nox,q⟩
theorem Fun.binds{x qual:Str}{st:Stmt}{f:Addr}{fd:FuncData}{ps:List Str}(F:Fun K x qual st f fd)
  (h:∀(kV doc pm:Value) (an:Option Addr) (cdv ct:Value) (us:List Value),us.length=ps.length->bindArgs (PySem.W.fnOf x qual (defArgs st) (defBody st) (defScope st) .none kV doc pm an cdv ct) ⟨us,[]⟩=pure (ps.zip us)):Binds K fd ps []:=by
 obtain⟨oc,od,kV,doc,pm,an,cdv,ct,osl,rfl,lk,hcd⟩:=F.ex
 exact .all (h kV doc pm an cdv ct)
theorem fun_mk{x qual:Str}{st:Stmt}{f:Addr}{oc:Value}{od an:Option Addr}{osl:Array (Option Value)}{kV doc pm cdv ct:Value}(l:K.lookup f=some ⟨oc,od,.func (PySem.W.fnOf x qual (defArgs st) (defBody st) (defScope st) .none kV doc pm an cdv ct),osl⟩)
  (c:PySem.W.codeIn K cdv qual=true) (k:PySem.W.keepIn K (.ref f)=true):Fun K x qual st f (PySem.W.fnOf x qual (defArgs st) (defBody st) (defScope st) .none kV doc pm an cdv ct):=⟨⟨oc,od,kV,doc,pm,an,cdv,ct,osl,rfl,l,c⟩,k⟩
end
theorem small1000{n:Nat}(h:n≤1000):n<sizeLine:=Nat.lt_of_le_of_lt h (by decide)
section
variable {X:Cx}
theorem pv(i:Nat){x:Str}{pos:Pos}(hN:X.N[i]?=some x:=by rfl)(hv:Vis X.env.scope x:=by first | exact Or.inl rfl | exact Or.inr (Or.inl rfl) | exact Or.inr (Or.inr rfl))(hd:(x==("__debug__":Str))=false:=by decide)
  (hcd:(x==("__classdict__":Str))=false:=by decide):PE X (.Name x pos) (tVar i):=pe_var hN hv hd hcd
end
theorem iteF{A B:Prop}(h:B):if false=true then A else B:=by
 rw[if_neg Bool.false_ne_true]
 exact h
theorem iteT{A B:Prop}(h:A):if true=true then A else B:=by
 rw[if_pos rfl]
 exact h
def Same(H H':Hp):Prop:=∀b o,H b=some o->H' b=some o
end L2
set_option linter.all false
set_option maxRecDepth 100000
set_option maxHeartbeats 4000000
namespace U
open PySem PySem.Spec PyProof.Rows L2
inductive PV where
 | non | bl (b:Bool) | int (i:Int) | str (x:Str) | ref (a:Addr) | tup (l:List PV) | fls (l:List PV) | oth (v:V)
def FzL(K:PySem.W.Frag)(H:Hp)(a:Addr)(xs:List V):Prop :=
 (∃o,H a=some (.frz o (.lst xs))) ∨
  ∃(o:Obj) (its:Array Value) (n:Nat),K.lookup a=some o/\o.cls=.type "list"/\o.dict=none/\o.data=.seq its n/\its.size≤sizeLine/\Vals xs its.toList
theorem FzL.sq{K:PySem.W.Frag}{H:Hp}{a:Addr}{xs:List V}(h:FzL K H a xs):SqL K H a xs:=by
 rcases h with h | h
 ·exact .inl (.inr h)
 ·exact .inr h
structure Kp (H H1:Hp):Prop where
 t:∀a us,H a=some (.tup us)->H1 a=some (.tup us)
 z:∀a o u,H a=some (.frz o u)->H1 a=some (.frz o u)
theorem Kp.sqT{K:PySem.W.Frag}{H H1:Hp}(k:Kp H H1){a:Addr}{us:List V}(h:SqT K H a us):SqT K H1 a us:=by
 rcases h with(h |⟨o,h⟩) | h
 ·exact .inl (.inl (k.t _ _ h))
 ·exact .inl (.inr ⟨o,k.z _ _ _ h⟩)
 ·exact .inr h
theorem Kp.fzL{K:PySem.W.Frag}{H H1:Hp}(k:Kp H H1){a:Addr}{us:List V}(h:FzL K H a us):FzL K H1 a us:=by
 rcases h with⟨o,h⟩ | h
 ·exact .inl ⟨o,k.z _ _ _ h⟩
 ·exact .inr h
section
variable (K:PySem.W.Frag)
mutual
def RP(H:Hp):PV->V->Prop
 | .non,v=>v=.non
 | .bl b,v=>v=.bl b
 | .int i,v=>v=.int i
 | .str x,v=>v=.str x
 | .ref a,v=>v=.ref a
 | .oth w,v=>v=w
 | .tup l,v=>∃a us,v=.ref a/\SqT K H a us/\RPs H l us
 | .fls l,v=>∃a us,v=.ref a/\FzL K H a us/\RPs H l us
def RPs(H:Hp):List PV->List V->Prop
 | [],us=>us=[]
 | x::l,us=>∃u r,us=u::r/\RP H x u/\RPs H l r
end
mutual
theorem RP.kp{H H1:Hp}(k:Kp H H1):∀{x:PV} {v:V},RP K H x v->RP K H1 x v
 | .non,_,h=>h
 | .bl _,_,h=>h
 | .int _,_,h=>h
 | .str _,_,h=>h
 | .ref _,_,h=>h
 | .oth _,_,h=>h
 | .tup l,v,h=>by
  simp only[RP]at h ⊢
  obtain⟨a,us,e,q,r⟩:=h
  exact⟨a,us,e,k.sqT q,RPs.kp k r⟩
 | .fls l,v,h=>by
  simp only[RP]at h ⊢
  obtain⟨a,us,e,q,r⟩:=h
  exact⟨a,us,e,k.fzL q,RPs.kp k r⟩
theorem RPs.kp{H H1:Hp}(k:Kp H H1):∀{l:List PV} {us:List V},RPs K H l us->RPs K H1 l us
 | [],_,h=>h
 | x::l,us,h=>by
  simp only[RPs]at h ⊢
  obtain⟨u,r,e,a,b⟩:=h
  exact⟨u,r,e,RP.kp k a,RPs.kp k b⟩
end
theorem RPs.nil{H:Hp}:RPs K H [] []:=by simp[RPs]
theorem RPs.cons{H:Hp}{x:PV}{l:List PV}{u:V}{us:List V}(a:RP K H x u)(b:RPs K H l us):RPs K H (x::l) (u::us):=by
 simp only[RPs];exact⟨u,us,rfl,a,b⟩
theorem RPs.length{H:Hp}:∀{l:List PV} {us:List V},RPs K H l us->us.length=l.length
 | [],us,h=>by simp only[RPs]at h;subst h;rfl
 | x::l,us,h=>by
  simp only[RPs]at h
  obtain⟨u,r,rfl,_,b⟩:=h
  simp[RPs.length b]
theorem RPs.get{H:Hp}:∀{l:List PV} {us:List V} {i:Nat} {x:PV},RPs K H l us->l[i]?=some x->∃u,us[i]?=some u/\RP K H x u
 | [],_,_,_,_,e=>by simp at e
 | y::l,us,i,x,h,e=>by
  simp only[RPs]at h
  obtain⟨u,r,rfl,a,b⟩:=h
  cases i with
  | zero=>simp at e;subst e;exact⟨u,by simp,a⟩
  | succ i=>obtain⟨w,e1,e2⟩:=RPs.get (i:=i) (x:=x) b (by simpa using e);exact⟨w,by simpa using e1,e2⟩
theorem RPs.append{H:Hp}:∀{l m:List PV} {us ws:List V},RPs K H l us->RPs K H m ws->RPs K H (l++m) (us++ws)
 | [],m,us,ws,h,g=>by simp only[RPs]at h;subst h;simpa using g
 | x::l,m,us,ws,h,g=>by
  simp only[RPs]at h
  obtain⟨u,r,rfl,a,b⟩:=h
  exact RPs.cons K a (RPs.append b g)
theorem RPs.take{H:Hp}:∀{l:List PV} {us:List V} (n:Nat),RPs K H l us->RPs K H (l.take n) (us.take n)
 | [],us,n,h=>by simp only[RPs]at h;subst h;simp[RPs]
 | x::l,us,0,h=>by simp[RPs]
 | x::l,us,n+1,h=>by
  simp only[RPs]at h
  obtain⟨u,r,rfl,a,b⟩:=h
  exact RPs.cons K a (RPs.take n b)
theorem RPs.drop{H:Hp}:∀{l:List PV} {us:List V} (n:Nat),RPs K H l us->RPs K H (l.drop n) (us.drop n)
 | [],us,n,h=>by simp only[RPs]at h;subst h;simp[RPs]
 | x::l,us,0,h=>h
 | x::l,us,n+1,h=>by
  simp only[RPs]at h
  obtain⟨u,r,rfl,a,b⟩:=h
  exact RPs.drop n b
theorem RPs.dropLast{H:Hp}{l:List PV}{us:List V}(h:RPs K H l us):RPs K H l.dropLast us.dropLast:=by
 rw[List.dropLast_eq_take,List.dropLast_eq_take,RPs.length K h]
 exact RPs.take K _ h
theorem RPs.ints{H:Hp}:∀(ns:List Int),RPs K H (ns.map PV.int) (ns.map V.int)
 | []=>by simp[RPs]
 | n::ns=>RPs.cons K (by simp[RP]) (RPs.ints ns)
end
def ExcA(a C:Addr)(h:Heap):Prop:=∃o,h.get? a=some o/\o.cls=.ref C
inductive PO where
 | exc (C:Addr)
 | lst (l:List PV)
 | ins (C dx:Addr) (fs:List (Str×PV))
 | dK (kvs:List (Key×PV))
 | dT (kvs:List (List Key×PV))
abbrev PHp:=Addr->Option PO
def put(H:PHp)(a:Addr)(o:PO):PHp:=fun b=>if b=a then some o else H b
theorem put_same{H:PHp}{a:Addr}{o:PO}:put H a o a=some o:=by unfold put;rw[if_pos rfl]
theorem put_ne{H:PHp}{a b:Addr}{o:PO}(h:b≠a):put H a o b=H b:=by unfold put;rw[if_neg h]
theorem put_put{H:PHp}{a:Addr}{o u:PO}:put (put H a o) a u=put H a u:=by
 funext b;unfold put;split<;>rfl
theorem ne_none{H:PHp}{a b:Addr}{o:PO}(h:H a=some o)(h':H b=none):a≠b:=by
 intro e;subst e;rw[h]at h';cases h'
abbrev FRel(K:PySem.W.Frag)(H:Hp){κ:Type}:List (κ×PV)->List (κ×V)->Prop:=Paired fun p q=>p.1=q.1/\RP K H p.2 q.2
def OAt(K:PySem.W.Frag)(H:Hp)(a:Addr):PO->Prop
 | .exc C=>H a=some (.ext (ExcA a C))
 | .lst l=>∃us,H a=some (.lst us)/\RPs K H l us
 | .ins C dx fs=>∃gs,H a=some (.ins C dx gs)/\FRel K H fs gs
 | .dK kvs=>∃ws,H a=some (.dK ws)/\FRel K H kvs ws
 | .dT kvs=>∃ws,H a=some (.dT ws)/\FRel K H kvs ws
abbrev HR(K:PySem.W.Frag)(H':PHp)(H:Hp):Prop:=∀a o,H' a=some o->OAt K H a o
abbrev St':=List (Option PV)
abbrev Bs:=PHp×Hp
def Ev(H':PHp)(H:Hp)(H1':PHp)(H1:Hp):Prop:=∀a o,H a=some o->H' a=none->H1 a=some o/\H1' a=none
structure SR (K:PySem.W.Frag) (B:Bs) (σ':St') (H':PHp) (σ:L2.St) (H:Hp):Prop where
 len:σ'.length=σ.length
 loc:∀(i:Nat) (v':PV),σ'[i]?=some (some v')->∃v,σ[i]?=some (some v)/\RP K H v' v
 hp:HR K H' H
 ev:Ev B.1 B.2 H' H
theorem Ev.refl(H':PHp)(H:Hp):Ev H' H H' H:=fun _ _ h h'=>⟨h,h'⟩
theorem Ev.trans{H':PHp}{H:Hp}{H1':PHp}{H1:Hp}{H2':PHp}{H2:Hp}(a:Ev H' H H1' H1)(b:Ev H1' H1 H2' H2):Ev H' H H2' H2:=fun c o h h'=>by
 obtain⟨p,q⟩:=a c o h h'
 exact b c o p q
section
variable {K:PySem.W.Frag}
theorem FRel.kp{κ:Type}{H H1:Hp}(k:Kp H H1){fs:List (κ×PV)}{gs:List (κ×V)}(h:FRel K H fs gs):FRel K H1 fs gs:=Paired.mapP h fun _ _ ⟨a,b⟩=>⟨a,RP.kp K k b⟩
theorem OAt.some{H:Hp}{a:Addr}:∀{o:PO},OAt K H a o->∃u,H a=Option.some u/\(∀us,u≠.tup us)/\(∀o us,u≠.frz o us)/\(∀x,u≠.own x)
 | .exc C,e=>⟨_,e,(fun _=>by nofun),(fun _ _=>by nofun),(fun _=>by nofun)⟩
 | .lst l,⟨us,e,_⟩=>⟨_,e,(fun _=>by nofun),(fun _ _=>by nofun),(fun _=>by nofun)⟩
 | .ins C dx fs,⟨us,e,_⟩=>⟨_,e,(fun _=>by nofun),(fun _ _=>by nofun),(fun _=>by nofun)⟩
 | .dK l,⟨us,e,_⟩=>⟨_,e,(fun _=>by nofun),(fun _ _=>by nofun),(fun _=>by nofun)⟩
 | .dT l,⟨us,e,_⟩=>⟨_,e,(fun _=>by nofun),(fun _ _=>by nofun),(fun _=>by nofun)⟩
theorem OAt.keep{H H1:Hp}{a:Addr}(k:Kp H H1)(e:H1 a=H a):∀{o:PO},OAt K H a o->OAt K H1 a o
 | .exc C,h=>e.trans h
 | .lst l,⟨us,h,r⟩=>⟨us,e.trans h,RPs.kp K k r⟩
 | .ins C dx fs,⟨us,h,r⟩=>⟨us,e.trans h,FRel.kp k r⟩
 | .dK l,⟨us,h,r⟩=>⟨us,e.trans h,FRel.kp k r⟩
 | .dT l,⟨us,h,r⟩=>⟨us,e.trans h,FRel.kp k r⟩
theorem HR.tup{H':PHp}{H:Hp}(h:HR K H' H){a:Addr}{us:List V}(e:H a=some (.tup us)):H' a=none:=by
 cases q:H' a with
 | none=>rfl
 | some o=>obtain⟨u,e1,n,_⟩:=(h a o q).some;rw[e]at e1;exact absurd (Option.some.inj e1).symm (n us)
theorem HR.frz{H':PHp}{H:Hp}(h:HR K H' H){a:Addr}{o:Obj}{u:HO}(e:H a=some (.frz o u)):H' a=none:=by
 cases q:H' a with
 | none=>rfl
 | some o'=>obtain⟨u',e1,_,n,_⟩:=(h a o' q).some;rw[e]at e1;exact absurd (Option.some.inj e1).symm (n o u)
theorem HR.free{H':PHp}{H:Hp}(h:HR K H' H){a:Addr}(e:H a=none):H' a=none:=by
 cases q:H' a with
 | none=>rfl
 | some o=>obtain⟨u,e1,_⟩:=(h a o q).some;rw[e]at e1;cases e1
theorem Ev.kp{H':PHp}{H:Hp}{H1':PHp}{H1:Hp}(e:Ev H' H H1' H1)(h:HR K H' H):Kp H H1 :=
 ⟨fun a us q=>(e a _ q (h.tup q)).1,fun a o u q=>(e a _ q (h.frz q)).1⟩
theorem kp_fresh{H:Hp}{p:Addr}{o:HO}(e:H p=none):Kp H (upd H p o) :=
 ⟨fun a us q=>by rw[upd_ne (ne_of_none q e)];exact q,fun a o u q=>by rw[upd_ne (ne_of_none q e)];exact q⟩
theorem kp_write{H:Hp}{p:Addr}{o u:HO}(e:H p=some u)(n1:∀us,u≠.tup us)(n2:∀o us,u≠.frz o us):Kp H (upd H p o) :=
 ⟨fun a us q=>by rw[upd_ne (ne_of q e fun z=>n1 us z.symm)];exact q,fun a o' u' q=>by rw[upd_ne (ne_of q e fun z=>n2 o' u' z.symm)];exact q⟩
theorem SR.kp{B:Bs}{σ':St'}{H' H1':PHp}{σ:L2.St}{H H1:Hp}(s:SR K B σ' H' σ H)(e:Ev H' H H1' H1)(h:HR K H1' H1):SR K B σ' H1' σ H1 :=
 ⟨s.len,fun i v' q=>by obtain⟨v,a,b⟩:=s.loc i v' q;exact⟨v,a,RP.kp K (e.kp s.hp) b⟩,h,s.ev.trans e⟩
theorem HR.hid{H':PHp}{H:Hp}{p:Addr}{o:HO}(h:HR K H' H)(e:H p=none):HR K H' (upd H p o):=fun a u q=>by
 have na:a≠p:=by rintro rfl;rw[h.free e]at q;cases q
 exact(h a u q).keep (kp_fresh e) (upd_ne na)
theorem Ev.hid{H':PHp}{H:Hp}{p:Addr}{o:HO}(e:H p=none):Ev H' H H' (upd H p o):=fun a u q n=>⟨by rw[upd_ne (ne_of_none q e)];exact q,n⟩
theorem HR.new{H':PHp}{H:Hp}{p:Addr}{o:HO}{o':PO}(h:HR K H' H)(e:H p=none)(new:OAt K (upd H p o) p o'):HR K (put H' p o') (upd H p o):=fun a u q=>by
 by_cases hp:a=p
 ·subst hp;rw[put_same]at q;cases q;exact new
 ·rw[put_ne hp]at q;exact(h a u q).keep (kp_fresh e) (upd_ne hp)
theorem Ev.new{H':PHp}{H:Hp}{p:Addr}{o:HO}{o':PO}(e:H p=none):Ev H' H (put H' p o') (upd H p o):=fun a u q n=>by
 have na:=ne_of_none q e
 exact⟨by rw[upd_ne na];exact q,by rw[put_ne na];exact n⟩
theorem HR.wr{H':PHp}{H:Hp}{p:Addr}{o:HO}{o' u':PO}(h:HR K H' H)(e:H' p=some u')(new:OAt K (upd H p o) p o'):HR K (put H' p o') (upd H p o):=fun a u q=>by
 obtain⟨v,e1,n1,n2,_⟩:=(h p u' e).some
 by_cases hp:a=p
 ·subst hp;rw[put_same]at q;cases q;exact new
 ·rw[put_ne hp]at q;exact(h a u q).keep (kp_write e1 n1 n2) (upd_ne hp)
theorem HR.kpw{H':PHp}{H:Hp}{p:Addr}{o:HO}{u':PO}(h:HR K H' H)(e:H' p=some u'):Kp H (upd H p o):=by
 obtain⟨v,e1,n1,n2,_⟩:=(h p u' e).some
 exact kp_write e1 n1 n2
theorem Ev.wr{H':PHp}{H:Hp}{p:Addr}{o:HO}{o' u':PO}(e:H' p=some u'):Ev H' H (put H' p o') (upd H p o):=fun a u q n=>by
 have na:a≠p:=by rintro rfl;rw[e]at n;cases n
 exact⟨by rw[upd_ne na];exact q,by rw[put_ne na];exact n⟩
def Sub(A B:PHp):Prop:=∀a o,A a=some o->B a=some o
theorem Sub.refl(A:PHp):Sub A A:=fun _ _ h=>h
theorem Sub.trans{A B C:PHp}(a:Sub A B)(b:Sub B C):Sub A C:=fun c o h=>b c o (a c o h)
theorem Sub.put{A B:PHp}{p:Addr}{o:PO}(a:Sub A B)(n:A p=none):Sub A (put B p o):=fun c u h=>by rw[put_ne (ne_none h n)];exact a c u h
theorem Sub.free{A B:PHp}(a:Sub A B){p:Addr}(n:B p=none):A p=none:=by
 cases q:A p with
 | none=>rfl
 | some o=>rw[a p o q]at n;cases n
theorem HR.sub{A B:PHp}{H:Hp}(h:HR K B H)(s:Sub A B):HR K A H:=fun a o e=>h a o (s a o e)
theorem Ev.sub{H':PHp}{H:Hp}{A B:PHp}{H1:Hp}(e:Ev H' H B H1)(s:Sub A B):Ev H' H A H1:=fun a o q n=>by
 obtain⟨x,y⟩:=e a o q n
 exact⟨x,s.free y⟩
end
end U
set_option linter.all false
set_option maxRecDepth 100000
set_option maxHeartbeats 4000000
namespace U
open PySem PySem.Spec PyProof.Rows L2
variable {B:Bs}
abbrev VK':=PV->PHp->Prop
abbrev TE':=St'->PHp->VK'->Prop
abbrev TT':=St'->PHp->(Bool->PHp->Prop)->Prop
abbrev TA':=St'->PHp->(List PV->PHp->Prop)->Prop
abbrev XK':=Value->Option Addr->PHp->Prop
structure Ends' where
 nx:St'->PHp->Prop
 rt:VK'
 bk:St'->PHp->Prop:=fun _ _=>False
 ct:St'->PHp->Prop:=fun _ _=>False
abbrev TS':=Ends'->St'->PHp->Prop
abbrev TG':=PV->St'->PHp->(St'->PHp->Prop)->Prop
abbrev TGs':=List PV->St'->PHp->(St'->PHp->Prop)->Prop
structure It' where
 items:List PV
 ok:PHp->Prop
abbrev TI':=St'->PHp->(It'->PHp->Prop)->Prop
section
variable (K:PySem.W.Frag)(B:Bs)
def low(t:TE'):TE:=fun σ H Q=>∃σ' H' Q',SR K B σ' H' σ H/\t σ' H' Q'/\∀v' H1' v H1,Q' v' H1'->RP K H1 v' v->SR K B σ' H1' σ H1->Ev H' H H1' H1->Q v H1
def lowT(t:TT'):TT:=fun σ H Q=>∃σ' H' Q',SR K B σ' H' σ H/\t σ' H' Q'/\∀b H1' H1,Q' b H1'->SR K B σ' H1' σ H1->Ev H' H H1' H1->Q b H1
def lowA(t:TA'):TA:=fun σ H Q=>∃σ' H' Q',SR K B σ' H' σ H/\t σ' H' Q'/\∀vs' H1' vs H1,Q' vs' H1'->RPs K H1 vs' vs->SR K B σ' H1' σ H1->Ev H' H H1' H1->Q vs H1
structure DR (D':Ends') (D:Ends) (H':PHp) (H:Hp):Prop where
 nx:∀σ1' H1' σ1 H1,D'.nx σ1' H1'->SR K B σ1' H1' σ1 H1->Ev H' H H1' H1->D.nx σ1 H1
 rt:∀v' H1' v H1,D'.rt v' H1'->RP K H1 v' v->HR K H1' H1->Ev H' H H1' H1->D.rt v H1
 bk:∀σ1' H1' σ1 H1,D'.bk σ1' H1'->SR K B σ1' H1' σ1 H1->Ev H' H H1' H1->D.bk σ1 H1
 ct:∀σ1' H1' σ1 H1,D'.ct σ1' H1'->SR K B σ1' H1' σ1 H1->Ev H' H H1' H1->D.ct σ1 H1
theorem DR.ev{D':Ends'}{D:Ends}{H':PHp}{H:Hp}{H1':PHp}{H1:Hp}(d:DR K B D' D H' H)(e:Ev H' H H1' H1):DR K B D' D H1' H1 :=
 ⟨fun a b c f p q r=>d.nx a b c f p q (e.trans r),fun a b c f p q r s=>d.rt a b c f p q r (e.trans s),fun a b c f p q r=>d.bk a b c f p q (e.trans r),fun a b c f p q r=>d.ct a b c f p q (e.trans r)⟩
def lowS(t:TS'):TS:=fun D σ H=>∃σ' H' D',SR K B σ' H' σ H/\t D' σ' H'/\DR K B D' D H' H
def lowG(t:TG'):TG:=fun v σ H Q=>∃v' σ' H' Q',RP K H v' v/\SR K B σ' H' σ H/\t v' σ' H' Q'/\∀σ1' H1' σ1 H1,Q' σ1' H1'->SR K B σ1' H1' σ1 H1->Ev H' H H1' H1->Q σ1 H1
def lowGs(t:TGs'):TGs:=fun vs σ H Q=>∃vs' σ' H' Q',RPs K H vs' vs/\SR K B σ' H' σ H/\t vs' σ' H' Q'/\∀σ1' H1' σ1 H1,Q' σ1' H1'->SR K B σ1' H1' σ1 H1->Ev H' H H1' H1->Q σ1 H1
structure Walks (H1:Hp) (J:It) (J':It'):Prop where
 go:∀H' H i,Kp H1 H->HR K H' H->J'.ok H'->i<J'.items.length->J.go i H
 yld:∀H' H i x H2,Kp H1 H->HR K H' H->J'.ok H'->J.yld i H x H2->H2=H/\∀x',J'.items[i]?=some x'->RP K H x' x
 stop:∀H' H i,Kp H1 H->HR K H' H->J'.ok H'->J'.items.length≤i->J.stop i H
def lowI(t:TI'):TI:=fun σ H R=>∃σ' H' R',SR K B σ' H' σ H/\t σ' H' R'/\∀J' H1' J H1,R' J' H1'->Walks K H1 J J'->SR K B σ' H1' σ H1->Ev H' H H1' H1->R J H1
end
section
variable {X:Cx}
theorem pe_imp{e:Expr}{t1 t2:TE}(h:PE X e t2)(i:∀σ H Q,t1 σ H Q->t2 σ H Q):PE X e t1:=fun pins s σ H Q I q=>h pins s σ H Q I (i σ H Q q)
theorem pt_imp{e:Expr}{t1 t2:TT}(h:PT X e t2)(i:∀σ H Q,t1 σ H Q->t2 σ H Q):PT X e t1:=fun pins s σ H Q I q=>h pins s σ H Q I (i σ H Q q)
theorem pw_imp{e:Expr}{t1 t2:TT}(h:PW X e t2)(i:∀σ H Q,t1 σ H Q->t2 σ H Q):PW X e t1:=fun w pins s σ H Q I q=>h w pins s σ H Q I (i σ H Q q)
theorem pa_imp{e:List Expr}{t1 t2:TA}(h:PA X e t2)(i:∀σ H Q,t1 σ H Q->t2 σ H Q):PA X e t1:=fun p pins s σ H Q I q=>h p pins s σ H Q I (i σ H Q q)
theorem ps_imp{e:Stmt}{t1 t2:TS}(h:PS X e t2)(i:∀D σ H,t1 D σ H->t2 D σ H):PS X e t1:=fun pins s σ H D I q=>h pins s σ H D I (i D σ H q)
theorem pss_imp{e:List Stmt}{t1 t2:TS}(h:PSs X e t2)(i:∀D σ H,t1 D σ H->t2 D σ H):PSs X e t1:=fun pins s σ H D I q=>h pins s σ H D I (i D σ H q)
theorem pg_imp{e:Expr}{t1 t2:TG}(h:PG X e t2)(i:∀v σ H Q,t1 v σ H Q->t2 v σ H Q):PG X e t1:=fun pins s σ H v u Q I r q=>h pins s σ H v u Q I r (i v σ H Q q)
theorem pgs_imp{e:List Expr}{t1 t2:TGs}(h:PGs X e t2)(i:∀v σ H Q,t1 v σ H Q->t2 v σ H Q):PGs X e t1:=fun pins s σ H v u Q I r q=>h pins s σ H v u Q I r (i v σ H Q q)
theorem pi_imp{tg e:Expr}{t1 t2:TI}(h:PI X tg e t2)(i:∀σ H Q,t1 σ H Q->t2 σ H Q):PI X tg e t1:=fun pins s σ H Q I q=>h pins s σ H Q I (i σ H Q q)
abbrev PE'(X:Cx)(B:Bs)(e:Expr)(t:TE'):Prop:=PE X e (low X.K B t)
abbrev PT'(X:Cx)(B:Bs)(e:Expr)(t:TT'):Prop:=PT X e (lowT X.K B t)
abbrev PW'(X:Cx)(B:Bs)(e:Expr)(t:TT'):Prop:=PW X e (lowT X.K B t)
abbrev PA'(X:Cx)(B:Bs)(e:List Expr)(t:TA'):Prop:=PA X e (lowA X.K B t)
abbrev PS'(X:Cx)(B:Bs)(e:Stmt)(t:TS'):Prop:=PS X e (lowS X.K B t)
abbrev PSs'(X:Cx)(B:Bs)(e:List Stmt)(t:TS'):Prop:=PSs X e (lowS X.K B t)
abbrev PG'(X:Cx)(B:Bs)(e:Expr)(t:TG'):Prop:=PG X e (lowG X.K B t)
abbrev PGs'(X:Cx)(B:Bs)(e:List Expr)(t:TGs'):Prop:=PGs X e (lowGs X.K B t)
abbrev PI'(X:Cx)(B:Bs)(tg e:Expr)(t:TI'):Prop:=PI X tg e (lowI X.K B t)
def withV(o:Option (Option PV))(k:PV->Prop):Prop:=match o with
 | some (some v)=>k v
 | _=>False
theorem withV.ex{o:Option (Option PV)}{k:PV->Prop}(h:withV o k):∃v,o=some (some v)/\k v:=by
 unfold withV at h;split at h
 ·exact⟨_,rfl,h⟩
 ·exact h.elim
def uVar(i:Nat):TE':=fun σ H Q=>withV σ[i]? fun v=>Q v H
def uC(v:PV):TE':=fun _ H Q=>Q v H
theorem qv(i:Nat){x:Str}{pos:Pos}(hN:X.N[i]?=some x:=by rfl)(hv:Vis X.env.scope x:=by first | exact Or.inl rfl | exact Or.inr (Or.inl rfl) | exact Or.inr (Or.inr rfl))(hd:(x==("__debug__":Str))=false:=by decide)
  (hcd:(x==("__classdict__":Str))=false:=by decide):PE' X B (.Name x pos) (uVar i):=pe_imp (pv i hN hv hd hcd) fun σ H Q ⟨σ',H',Q',s,h,k⟩=>by
 obtain⟨v',e,q⟩:=h.ex
 obtain⟨v,a,b⟩:=s.loc i v' e
 exact⟨v,a,k v' H' v H q b s (Ev.refl _ _)⟩
theorem lowC{K:PySem.W.Frag}{v':PV}{v:V}(r:∀H,RP K H v' v){σ:L2.St}{H:Hp}{Q:VK}(h:low K B (uC v') σ H Q):tC v σ H Q:=by
 obtain⟨σ',H',Q',s,h,k⟩:=h
 exact k v' H' v H h (r H) s (Ev.refl _ _)
theorem qe_int{i j pos}:PE' X B (.Constant (.int i) j pos) (uC (.int i)):=pe_imp pe_int fun _ _ _ h=>lowC (fun _=>by simp[RP]) h
theorem qe_bl{i j pos}:PE' X B (.Constant (.bool i) j pos) (uC (.bl i)):=pe_imp pe_bl fun _ _ _ h=>lowC (fun _=>by simp[RP]) h
theorem qe_str{i j pos}:PE' X B (.Constant (.str i) j pos) (uC (.str i)):=pe_imp pe_str fun _ _ _ h=>lowC (fun _=>by simp[RP]) h
theorem qe_non{j pos}:PE' X B (.Constant .none j pos) (uC .non):=pe_imp pe_non fun _ _ _ h=>lowC (fun _=>by simp[RP]) h
theorem qe_glob{x:Str}{v':PV}{v:V}{u:Value}{pos:Pos}(hg:Gl X x)(hm:X.mg x=some u)(r:RelV v u)(r':∀H,RP X.K H v' v)(hd:(x==("__debug__":Str))=false:=by decide):PE' X B (.Name x pos) (uC v') :=
 pe_imp (pe_glob hg hm r hd) fun _ _ _ h=>lowC r' h
abbrev R2':=PV->PV->PHp->VK'->Prop
def VR(K:PySem.W.Frag)(B:Bs)(r':R2')(r:R2):Prop:=∀(σ':St') (σ:L2.St) (H':PHp) (H:Hp) x' y' x y (Q':VK') (Q:VK),SR K B σ' H' σ H->RP K H x' x->RP K H y' y->r' x' y' H' Q' ->
 (∀v' H1' v H1,Q' v' H1'->RP K H1 v' v->SR K B σ' H1' σ H1->Ev H' H H1' H1->Q v H1)->r x y H Q
def uOp(r:R2')(ta tb:TE'):TE':=fun σ H Q=>ta σ H fun x H1=>tb σ H1 fun y H2=>r x y H2 Q
theorem low_op{K:PySem.W.Frag}{r':R2'}{r:R2}{ta tb:TE'}(v:VR K B r' r){σ:L2.St}{H:Hp}{Q:VK}(h:low K B (uOp r' ta tb) σ H Q):tOp r (low K B ta) (low K B tb) σ H Q:=by
 obtain⟨σ',H',Q',s,h,k⟩:=h
 refine⟨σ',H',_,s,h,fun x' H1' x H1 h1 rx s1 e1=>⟨σ',H1',_,s1,h1,fun y' H2' y H2 h2 ry s2 e2=>?_⟩⟩
 exact v σ' σ H2' H2 x' y' x y Q' Q s2 (RP.kp K (e2.kp s1.hp) rx) ry h2 fun v' H3' v H3 q rv s3 e3=>k v' H3' v H3 q rv s3 (e1.trans (e2.trans e3))
variable {a b c:Expr}{ta tb tc:TE'}{pos:Pos}
theorem qe_op{op:Operator}{r':R2'}{r:R2}(ho:OpR X (binaryOp op) r)(v:VR X.K B r' r)(ha:PE' X B a ta)(hb:PE' X B b tb):PE' X B (.BinOp a op b pos) (uOp r' ta tb):=pe_imp (pe_op ho ha hb) fun _ _ _ h=>low_op v h
theorem qe_cmp{op:CmpOp}{r':R2'}{r:R2}(ho:OpR X (compareOp op) r)(v:VR X.K B r' r)(ha:PE' X B a ta)(hb:PE' X B b tb)(hm:behindInMarks op b=false):PE' X B (.Compare a [op] [b] pos) (uOp r' ta tb) :=
 pe_imp (pe_cmpR ho ha hb hm) fun _ _ _ h=>low_op v h
def cif(b:Bool)(A B:Prop):Prop:=match b with
 | true=>A
 | false=>B
theorem cif_t{A B:Prop}:cif true A B=A:=rfl
theorem cif_f{A B:Prop}:cif false A B=B:=rfl
theorem cif_by{b:Bool}{A B:Prop}(h1:b=true->A)(h2:b=false->B):cif b A B:=by
 cases b
 ·exact h2 rfl
 ·exact h1 rfl
theorem cif_pos{b:Bool}{A B:Prop}(h:b=true)(h1:A):cif b A B:=by subst h;exact h1
theorem cif_neg{b:Bool}{A B:Prop}(h:b=false)(h1:B):cif b A B:=by subst h;exact h1
theorem cif_dec{c:Prop}[Decidable c]{A B:Prop}(h1:c->A)(h2:¬c->B):cif (decide c) A B:=by
 by_cases h:c
 ·exact cif_pos (decide_eq_true h) (h1 h)
 ·exact cif_neg (decide_eq_false h) (h2 h)
def withB(x:PV)(k:Bool->Prop):Prop:=match x with
 | .bl b=>k b
 | _=>False
theorem withB.ex{x:PV}{k:Bool->Prop}(h:withB x k):∃v,x=.bl v/\k v:=by
 unfold withB at h;split at h
 ·exact⟨_,rfl,h⟩
 ·exact h.elim
def withI(x:PV)(k:Int->Prop):Prop:=match x with
 | .int i=>k i
 | _=>False
theorem withI.ex{x:PV}{k:Int->Prop}(h:withI x k):∃v,x=.int v/\k v:=by
 unfold withI at h;split at h
 ·exact⟨_,rfl,h⟩
 ·exact h.elim
def uTest(t:TE'):TT':=fun σ H Q=>t σ H fun x H1=>withB x fun b=>Q b H1
theorem low_test{K:PySem.W.Frag}{t:TE'}{σ:L2.St}{H:Hp}{Q:Bool->Hp->Prop}(h:lowT K B (uTest t) σ H Q):tTest (low K B t) σ H Q:=by
 obtain⟨σ',H',Q',s,h,k⟩:=h
 refine⟨σ',H',_,s,h,fun x' H1' x H1 h1 rx s1 e1=>?_⟩
 obtain⟨b,rfl,q⟩:=h1.ex
 simp only[RP]at rx
 exact⟨b,rx,k b H1' H1 q s1 e1⟩
theorem qt_val{e:Expr}{t:TE'}(h:PE' X B e t)(he:∀whole,isTrue e X.env whole=(do let v←whole;standAt e.pos;holding [v] (truthy v)):=by intro _;rfl):PT' X B e (uTest t):=pt_imp (pt_val h he) fun _ _ _ h=>low_test h
theorem qt_cmp{op:CmpOp}{r':R2'}{r:R2}(ho:OpR X (compareOp op) r)(v:VR X.K B r' r)(ha:PE' X B a ta)(hb:PE' X B b tb)(hm:behindInMarks op b=false):PT' X B (.Compare a [op] [b] pos) (uTest (uOp r' ta tb)) :=
 pt_imp (pt_cmpR ho ha hb hm) fun _ _ _ h=>by
  obtain⟨σ',H',Q',s,h,k⟩:=low_test h
  exact low_op v ⟨σ',H',Q',s,h,k⟩
def uChain(r r':R2')(ta tb tc:TE'):TE':=fun σ H Q=>ta σ H fun x H1=>tb σ H1 fun y H2=>r x y H2 fun z H3=>withB z fun k=>cif k (tc σ H3 fun w' H4=>r' y w' H4 Q) (Q (.bl false) H3)
def uI(C:Int->Int->Prop)(g:Int->Int->PV):R2':=fun x y H Q=>withI x fun i=>withI y fun j=>C i j/\Q (g i j) H
def uI0(g:Int->Int->PV):R2':=fun x y H Q=>withI x fun i=>withI y fun j=>Q (g i j) H
theorem vr_I{K:PySem.W.Frag}{C:Int->Int->Prop}{g':Int->Int->PV}{g:Int->Int->V}(r:∀i j H,RP K H (g' i j) (g i j)):VR K B (uI C g') (rI C g):=by
 intro σ' σ H' H x' y' x y Q' Q s rx ry h k
 obtain⟨i,rfl,h1⟩:=withI.ex h
 obtain⟨j,rfl,hc,h⟩:=withI.ex h1
 simp only[RP]at rx ry
 exact⟨i,j,rx,ry,hc,k _ H' _ H h (r i j H) s (Ev.refl _ _)⟩
theorem vr_I0{K:PySem.W.Frag}{g':Int->Int->PV}{g:Int->Int->V}(r:∀i j H,RP K H (g' i j) (g i j)):VR K B (uI0 g') (rI0 g):=by
 intro σ' σ H' H x' y' x y Q' Q s rx ry h k
 obtain⟨i,rfl,h1⟩:=withI.ex h
 obtain⟨j,rfl,h⟩:=withI.ex h1
 simp only[RP]at rx ry
 exact⟨i,j,rx,ry,k _ H' _ H h (r i j H) s (Ev.refl _ _)⟩
abbrev uAdd:R2':=uI0 fun i j=>.int (i+j)
abbrev uSub:R2':=uI0 fun i j=>.int (i - j)
abbrev uLt:R2':=uI0 fun i j=>.bl (decide (i<j))
abbrev uLe:R2':=uI0 fun i j=>.bl (decide (i≤j))
abbrev uGt:R2':=uI0 fun i j=>.bl (decide (j<i))
abbrev uGe:R2':=uI0 fun i j=>.bl (decide (j≤i))
def Fit(i:Int):Prop:=i.natAbs.log2<9000
def CMulN(i j:Int):Prop:=CMul i j∨(Fit i/\Fit j)
def CDivB(i j:Int):Prop:=j≠0/\Fit j
theorem CMulN.ok{i j:Int}(h:CMulN i j):IntMulOk i j:=by
 rcases h with h |⟨h1,h2⟩
 ·exact h.ok
 ·unfold IntMulOk
  have e:∀x:Int,Fit x->Builtin.Int.intBits x≤9000:=fun x hx=>by
   unfold Builtin.Int.intBits Fit at *
   split<;>omega
  have e1:=e i h1
  have e2:=e j h2
  have e3:Builtin.Int.intTooBig (Builtin.Int.intBits i+Builtin.Int.intBits j)=false:=by
   unfold Builtin.Int.intTooBig
   refine decide_eq_false ?_
   show ¬(bitsLine:Int)<_
   have hb:(18000:Nat)≤bitsLine:=by decide +kernel
   omega
  rw[e3]
  simp
abbrev uMul:R2':=uI CMulN fun i j=>.int (i*j)
abbrev uFdiv:R2':=uI CDivB fun i j=>.int (i.fdiv j)
theorem op_mulB{X:Cx}:OpR X (binaryOp .Mult) (rI CMulN fun i j=>.int (i*j)):=opI fun _ _ _ _ _ _ _ hc q=>mul_int q hc.ok
theorem op_fdivB{X:Cx}:OpR X (binaryOp .FloorDiv) (rI CDivB fun i j=>.int (i.fdiv j)):=opI fun _ _ _ _ _ _ _ hc q=>floordiv_int hc.1 q (.inl (PyProof.noPylong_of_log2 hc.2))
abbrev uMod:R2':=uI (fun _ j=>j≠0) fun i j=>.int (i.fmod j)
abbrev uPow:R2':=uI CPow fun i j=>.int (i ^ j.toNat)
theorem qe_add(ha:PE' X B a ta)(hb:PE' X B b tb):PE' X B (.BinOp a .Add b pos) (uOp uAdd ta tb):=qe_op op_add (vr_I0 fun _ _ _=>by simp[RP]) ha hb
theorem qe_sub(ha:PE' X B a ta)(hb:PE' X B b tb):PE' X B (.BinOp a .Sub b pos) (uOp uSub ta tb):=qe_op op_sub (vr_I0 fun _ _ _=>by simp[RP]) ha hb
theorem qe_mul(ha:PE' X B a ta)(hb:PE' X B b tb):PE' X B (.BinOp a .Mult b pos) (uOp uMul ta tb):=qe_op op_mulB (vr_I fun _ _ _=>by simp[RP]) ha hb
theorem qe_fdiv(ha:PE' X B a ta)(hb:PE' X B b tb):PE' X B (.BinOp a .FloorDiv b pos) (uOp uFdiv ta tb):=qe_op op_fdivB (vr_I fun _ _ _=>by simp[RP]) ha hb
theorem qe_mod(ha:PE' X B a ta)(hb:PE' X B b tb):PE' X B (.BinOp a .Mod b pos) (uOp uMod ta tb):=qe_op op_modN (vr_I fun _ _ _=>by simp[RP]) ha hb
theorem qe_pow(ha:PE' X B a ta)(hb:PE' X B b tb):PE' X B (.BinOp a .Pow b pos) (uOp uPow ta tb):=qe_op op_pow (vr_I fun _ _ _=>by simp[RP]) ha hb
theorem vr_lt{K:PySem.W.Frag}:VR K B uLt (rI0 fun i j=>.bl (decide (i<j))):=vr_I0 fun _ _ _=>by simp[RP]
theorem vr_le{K:PySem.W.Frag}:VR K B uLe (rI0 fun i j=>.bl (decide (i≤j))):=vr_I0 fun _ _ _=>by simp[RP]
theorem vr_gt{K:PySem.W.Frag}:VR K B uGt (rI0 fun i j=>.bl (decide (j<i))):=vr_I0 fun _ _ _=>by simp[RP]
theorem vr_ge{K:PySem.W.Frag}:VR K B uGe (rI0 fun i j=>.bl (decide (j≤i))):=vr_I0 fun _ _ _=>by simp[RP]
end
end U
set_option linter.all false
set_option maxRecDepth 100000
set_option maxHeartbeats 4000000
namespace U
open PySem PySem.Spec PyProof.Rows L2
variable {B:Bs}
section
variable {X:Cx}{a b c e o:Expr}{es rest:List Expr}{ta tb tc:TE'}{tA tB:TT'}{t:TA'}{pos:Pos}
def uAnd(t u:TT'):TT':=fun σ H Q=>t σ H fun c H1=>cif c (u σ H1 Q) (Q false H1)
def uOr(t u:TT'):TT':=fun σ H Q=>t σ H fun c H1=>cif c (Q true H1) (u σ H1 Q)
def uNot(t:TT'):TT':=fun σ H Q=>t σ H fun c H1=>Q (!c) H1
theorem qw_and1(ha:PT' X B a tA):PW' X B (.BoolOp .And [a] pos) tA:=pw_and1 ha
theorem qw_or1(ha:PT' X B a tA):PW' X B (.BoolOp .Or [a] pos) tA:=pw_or1 ha
theorem qw_and(ha:PT' X B a tA)(hb:PW' X B (.BoolOp .And (b::rest) pos) tB):PW' X B (.BoolOp .And (a::b::rest) pos) (uAnd tA tB):=pw_imp (pw_and ha hb) fun σ H Q ⟨σ',H',Q',s,h,k⟩=>by
 refine⟨σ',H',_,s,h,fun x H1' H1 h1 s1 e1=>?_⟩
 cases x with
 | true=>exact iteT ⟨σ',H1',_,s1,h1,fun y H2' H2 h2 s2 e2=>k y H2' H2 h2 s2 (e1.trans e2)⟩
 | false=>exact iteF (k false H1' H1 h1 s1 e1)
theorem qw_or(ha:PT' X B a tA)(hb:PW' X B (.BoolOp .Or (b::rest) pos) tB):PW' X B (.BoolOp .Or (a::b::rest) pos) (uOr tA tB):=pw_imp (pw_or ha hb) fun σ H Q ⟨σ',H',Q',s,h,k⟩=>by
 refine⟨σ',H',_,s,h,fun x H1' H1 h1 s1 e1=>?_⟩
 cases x with
 | false=>exact iteF ⟨σ',H1',_,s1,h1,fun y H2' H2 h2 s2 e2=>k y H2' H2 h2 s2 (e1.trans e2)⟩
 | true=>exact iteT (k true H1' H1 h1 s1 e1)
theorem qt_bool(h:PW' X B e tA):PT' X B e tA:=PW.pt h
theorem qt_not(ha:PT' X B a tA):PT' X B (.UnaryOp .Not a pos) (uNot tA):=pt_imp (pt_not ha) fun σ H Q ⟨σ',H',Q',s,h,k⟩=>⟨σ',H',_,s,h,fun x H1' H1 h1 s1 e1=>k _ H1' H1 h1 s1 e1⟩
def uAndV(ta tb:TE'):TE':=fun σ H Q=>ta σ H fun x H1=>withB x fun c=>cif c (tb σ H1 Q) (Q (.bl false) H1)
def uOrV(ta tb:TE'):TE':=fun σ H Q=>ta σ H fun x H1=>withB x fun c=>cif c (Q (.bl true) H1) (tb σ H1 Q)
def uNotV(ta:TE'):TE':=fun σ H Q=>ta σ H fun x H1=>withB x fun c=>Q (.bl (!c)) H1
theorem qe_one{op}(h:PE' X B a ta):PE' X B (.BoolOp op [a] pos) ta:=pe_one h
theorem qe_and(ha:PE' X B a ta)(hb:PE' X B (.BoolOp .And (b::rest) pos) tb):PE' X B (.BoolOp .And (a::b::rest) pos) (uAndV ta tb):=pe_imp (pe_and ha hb) fun σ H Q ⟨σ',H',Q',s,h,k⟩=>by
 refine⟨σ',H',_,s,h,fun x H1' v H1 h1 r1 s1 e1=>?_⟩
 obtain⟨y,rfl,h1⟩:=h1.ex
 simp only[RP]at r1
 refine⟨y,r1,?_⟩
 cases y with
 | true=>exact iteT ⟨σ',H1',_,s1,h1,fun y H2' v2 H2 h2 r2 s2 e2=>k y H2' v2 H2 h2 r2 s2 (e1.trans e2)⟩
 | false=>exact iteF (k _ H1' _ H1 h1 (by simp[RP]) s1 e1)
def uIf(t:TT')(ta tb:TE'):TE':=fun σ H Q=>t σ H fun c H1=>cif c (ta σ H1 Q) (tb σ H1 Q)
def uUn(r:PV->PHp->VK'->Prop)(ta:TE'):TE':=fun σ H Q=>ta σ H fun x H1=>r x H1 Q
theorem qe_neg(ha:PE' X B a ta):PE' X B (.UnaryOp .USub a pos) (uUn (fun x H Q=>withI x fun i=>Q (.int (-i)) H) ta):=pe_imp (pe_un un_neg ha) fun σ H Q ⟨σ',H',Q',s,h,k⟩=>by
 refine⟨σ',H',_,s,h,fun x H1' v H1 h1 r1 s1 e1=>?_⟩
 obtain⟨i,rfl,h1⟩:=withI.ex h1
 simp only[RP]at r1
 exact⟨i,r1,k _ H1' _ H1 h1 (by simp[RP]) s1 e1⟩
def uNil:TA':=fun _ H Q=>Q [] H
def uCons(ta:TE')(tr:TA'):TA':=fun σ H Q=>ta σ H fun x H1=>tr σ H1 fun xs H2=>Q (x::xs) H2
theorem qa_nil:PA' X B [] uNil:=pa_imp pa_nil fun σ H Q ⟨σ',H',Q',s,h,k⟩=>k [] H' [] H h (RPs.nil _) s (Ev.refl _ _)
theorem qa_cons(ha:PE' X B e ta)(hr:PA' X B es t)(hs:starEach (e::es) X.env=(false,eval e X.env)::starEach es X.env:=by rfl):PA' X B (e::es) (uCons ta t):=pa_imp (pa_cons ha hr hs) fun σ H Q ⟨σ',H',Q',s,h,k⟩=>by
 refine⟨σ',H',_,s,h,fun x H1' v H1 h1 r1 s1 e1=>⟨σ',H1',_,s1,h1,fun xs H2' vs H2 h2 r2 s2 e2=>?_⟩⟩
 exact k _ H2' _ H2 h2 (RPs.cons _ (RP.kp _ (e2.kp s1.hp) r1) r2) s2 (e1.trans e2)
def uTup(t:TA'):TE':=fun σ H Q=>t σ H fun xs H1=>xs.length≤sizeLine/\Q (.tup xs) H1
def uLst(t:TA'):TE':=fun σ H Q=>t σ H fun xs H1=>xs.length≤sizeLine/\∀p,H1 p=none->Q (.ref p) (put H1 p (.lst xs))
theorem SR.hid{K:PySem.W.Frag}{σ':St'}{σ:L2.St}{H':PHp}{H:Hp}{p:Addr}{o:HO}(s:SR K B σ' H' σ H)(n:H p=none):SR K B σ' H' σ (upd H p o):=s.kp (Ev.hid n) (s.hp.hid n)
theorem SR.new{K:PySem.W.Frag}{σ':St'}{σ:L2.St}{H':PHp}{H:Hp}{p:Addr}{o:HO}{o':PO}(s:SR K B σ' H' σ H)(n:H p=none)(w:OAt K (upd H p o) p o'):SR K B σ' (put H' p o') σ (upd H p o):=s.kp (Ev.new n) (s.hp.new n w)
theorem SR.wr{K:PySem.W.Frag}{σ':St'}{σ:L2.St}{H':PHp}{H:Hp}{p:Addr}{o:HO}{o' u':PO}(s:SR K B σ' H' σ H)(n:H' p=some u')(w:OAt K (upd H p o) p o'):SR K B σ' (put H' p o') σ (upd H p o):=s.kp (Ev.wr n) (s.hp.wr n w)
theorem newT{K:PySem.W.Frag}{H:Hp}{p:Addr}{xs:List PV}{us:List V}(n:H p=none)(r:RPs K H xs us):RP K (upd H p (.tup us)) (.tup xs) (.ref p):=by
 simp only[RP]
 exact⟨p,us,rfl,SqT.of upd_same,RPs.kp K (kp_fresh n) r⟩
theorem newL{K:PySem.W.Frag}{H:Hp}{p:Addr}{xs:List PV}{us:List V}(n:H p=none)(r:RPs K H xs us):OAt K (upd H p (.lst us)) p (.lst xs):=⟨us,upd_same,RPs.kp K (kp_fresh n) r⟩
theorem wrL{K:PySem.W.Frag}{H':PHp}{H:Hp}{p:Addr}{u':PO}{xs:List PV}{us:List V}(h:HR K H' H)(n:H' p=some u')(r:RPs K H xs us):OAt K (upd H p (.lst us)) p (.lst xs):=⟨us,upd_same,RPs.kp K (h.kpw n) r⟩
theorem qe_tup{x1}(h:PA' X B es t):PE' X B (.Tuple es x1 pos) (uTup t):=pe_imp (pe_tup h) fun σ H Q ⟨σ',H',Q',s,h,k⟩=>by
 refine⟨σ',H',_,s,h,fun xs H1' us H1 h1 r1 s1 e1=>⟨by rw[RPs.length _ r1];exact h1.1,fun p n=>?_⟩⟩
 exact k _ H1' _ _ h1.2 (newT n r1) (s1.hid n) (e1.trans (Ev.hid n))
theorem qe_lst(h:PA' X B es t):PE' X B (.List es pos) (uLst t):=pe_imp (pe_lst h) fun σ H Q ⟨σ',H',Q',s,h,k⟩=>by
 refine⟨σ',H',_,s,h,fun xs H1' us H1 h1 r1 s1 e1=>⟨by rw[RPs.length _ r1];exact h1.1,fun p n=>?_⟩⟩
 exact k _ _ _ _ (h1.2 p (s1.hp.free n)) (by simp[RP]) (s1.new n (newL n r1)) (e1.trans (Ev.new n))
def withS(x:PV)(H:PHp)(k:List PV->Prop):Prop:=match x with
 | .tup l=>k l
 | .fls l=>k l
 | .ref a=>∃l,H a=some (.lst l)/\k l
 | _=>False
theorem withS.ex{K:PySem.W.Frag}{σ':St'}{σ:L2.St}{x:PV}{v:V}{H':PHp}{H:Hp}{k:List PV->Prop}(h:withS x H' k)(s:SR K B σ' H' σ H)(r:RP K H x v):∃l us p,v=.ref p/\RPs K H l us/\(SqL K H p us∨SqT K H p us)/\k l:=by
 unfold withS at h
 split at h
 ·simp only[RP]at r;obtain⟨a,us,e,q,r⟩:=r;exact⟨_,us,a,e,r,.inr q,h⟩
 ·simp only[RP]at r;obtain⟨a,us,e,q,r⟩:=r;exact⟨_,us,a,e,r,.inl q.sq,h⟩
 ·simp only[RP]at r
  obtain⟨l,e,h⟩:=h
  obtain⟨us,q,r2⟩:=s.hp _ _ e
  exact⟨l,us,_,r,r2,.inl (SqL.of q),h⟩
 ·exact h.elim
theorem atI_ps{K:PySem.W.Frag}{H:Hp}{l:List PV}{us:List V}{i:Int}{x:PV}(r:RPs K H l us)(e:atI l i=some x):∃u,atI us i=some u/\RP K H x u:=by
 unfold atI at e ⊢
 rw[RPs.length _ r]
 cases q:ixN l.length i with
 | none=>rw[q]at e;cases e
 | some j =>
  rw[q]at e
  obtain⟨u,e1,e2⟩:=RPs.get _ r (show l[j]?=some x from e)
  exact⟨u,e1,e2⟩
def withO(o:Option PV)(k:PV->Prop):Prop:=match o with
 | some v=>k v
 | none=>False
theorem withO.ex{o:Option PV}{k:PV->Prop}(h:withO o k):∃v,o=some v/\k v:=by
 unfold withO at h;split at h
 ·exact⟨_,rfl,h⟩
 ·exact h.elim
def uIx:R2':=fun x y H Q=>withS x H fun l=>withI y fun i=>withO (atI l i) fun v=>Q v H
theorem ix_both{X:Cx}:IxR X (fun x y H Q=>rIxL X.K x y H Q∨rIxT X.K x y H Q):=ix_list.or ix_tup
theorem vr_ix{K:PySem.W.Frag}:VR K B uIx (fun x y H Q=>rIxL K x y H Q∨rIxT K x y H Q):=by
 intro σ' σ H' H x' y' x y Q' Q s rx ry h k
 obtain⟨l,us,p,rfl,r,q,h1⟩:=withS.ex h s rx
 obtain⟨i,rfl,h2⟩:=withI.ex h1
 obtain⟨v,e,h3⟩:=withO.ex h2
 simp only[RP]at ry
 obtain⟨u,e1,e2⟩:=atI_ps r e
 have:=k v H' u H h3 e2 s (Ev.refl _ _)
 rcases q with q | q
 ·exact .inl ⟨p,us,i,u,rfl,ry,q,e1,this⟩
 ·exact .inr ⟨p,us,i,u,rfl,ry,q,e1,this⟩
theorem qe_ix(ha:PE' X B a ta)(hb:PE' X B b tb)(hs:PlainIx b):PE' X B (.Subscript a b pos) (uOp uIx ta tb):=pe_imp (pe_ix ix_both ha hb hs) fun _ _ _ h=>low_op vr_ix h
abbrev TO':=St'->PHp->(Option Int->PHp->Prop)->Prop
def lowO(K:PySem.W.Frag)(B:Bs)(t:TO'):TO:=fun σ H Q=>∃σ' H' Q',SR K B σ' H' σ H/\t σ' H' Q'/\∀b H1' H1,Q' b H1'->SR K B σ' H1' σ H1->Ev H' H H1' H1->Q b H1
abbrev PO'(X:Cx)(B:Bs)(e:Option Expr)(t:TO'):Prop:=L2.PO X e (lowO X.K B t)
theorem po_imp{e:Option Expr}{t1 t2:TO}(h:L2.PO X e t2)(i:∀σ H Q,t1 σ H Q->t2 σ H Q):L2.PO X e t1:=fun pins s σ H Q I q=>h pins s σ H Q I (i σ H Q q)
def uNoPart:TO':=fun _ H Q=>Q none H
def uPart(t:TE'):TO':=fun σ H Q=>t σ H fun x H1=>withI x fun i=>Q (some i) H1
theorem qo_none:PO' X B none uNoPart:=po_imp po_none fun σ H Q ⟨σ',H',Q',s,h,k⟩=>k none H' H h s (Ev.refl _ _)
theorem qo_some(h:PE' X B e ta):PO' X B (some e) (uPart ta):=po_imp (po_some h) fun σ H Q ⟨σ',H',Q',s,h,k⟩=>by
 refine⟨σ',H',_,s,h,fun x H1' v H1 h1 r1 s1 e1=>?_⟩
 obtain⟨i,rfl,h1⟩:=withI.ex h1
 simp only[RP]at r1
 exact⟨i,r1,k _ H1' H1 h1 s1 e1⟩
def cutP(xs:List PV)(lo hi:Option Int):List PV:=(xs.drop (HT.sIx xs.length 0 lo)).take (HT.sIx xs.length xs.length hi - HT.sIx xs.length 0 lo)
theorem cut_ps{K:PySem.W.Frag}{H:Hp}{l:List PV}{us:List V}{lo hi:Option Int}(r:RPs K H l us):RPs K H (cutP l lo hi) (cutV us lo hi):=by
 unfold cutP cutV
 rw[RPs.length _ r]
 exact RPs.take _ _ (RPs.drop _ _ r)
def sliceOf(x:PV)(lo hi:Option Int)(H3:PHp)(Q:VK'):Prop:=match x with
 | .fls l=>∀p,H3 p=none->Q (.ref p) (put H3 p (.lst (cutP l lo hi)))
 | .ref a=>∃l,H3 a=some (.lst l)/\∀p,H3 p=none->Q (.ref p) (put H3 p (.lst (cutP l lo hi)))
 | .tup l=>¬(HT.sIx l.length 0 lo=0/\HT.sIx l.length l.length hi=l.length)/\Q (.tup (cutP l lo hi)) H3
 | _=>False
def uSlice(ta:TE')(tl th:TO'):TE':=fun σ H Q=>ta σ H fun x H1=>tl σ H1 fun lo H2=>th σ H2 fun hi H3=>sliceOf x lo hi H3 Q
def VC(K:PySem.W.Frag)(B:Bs)(r':List PV->PHp->VK'->Prop)(r:List V->Hp->VK->Prop):Prop:=∀(σ':St') (σ:L2.St) (H':PHp) (H:Hp) xs' xs (Q':VK') (Q:VK),SR K B σ' H' σ H->RPs K H xs' xs->r' xs' H' Q' ->
 (∀v' H1' v H1,Q' v' H1'->RP K H1 v' v->SR K B σ' H1' σ H1->Ev H' H H1' H1->Q v H1)->r xs H Q
def uCB(r:List PV->PHp->VK'->Prop)(t:TA'):TE':=fun σ H Q=>t σ H fun vs H1=>r vs H1 Q
theorem low_cb{K:PySem.W.Frag}{r':List PV->PHp->VK'->Prop}{r:List V->Hp->VK->Prop}{t:TA'}(v:VC K B r' r){σ:L2.St}{H:Hp}{Q:VK}(h:low K B (uCB r' t) σ H Q):tCB r (lowA K B t) σ H Q:=by
 obtain⟨σ',H',Q',s,h,k⟩:=h
 exact⟨σ',H',_,s,h,fun xs' H1' xs H1 h1 rx s1 e1=>v σ' σ H1' H1 xs' xs Q' Q s1 rx h1 fun v' H3' v H3 q rv s3 e3=>k v' H3' v H3 q rv s3 (e1.trans e3)⟩
variable {x:Str}{p:Pos}
theorem qe_callB{id:String}{r':List PV->PHp->VK'->Prop}{r:List V->Hp->VK->Prop}(hc:CallR X (.builtin id) r)(v:VC X.K B r' r)(hg:Gl X x)(hm:X.mg x=none)(hv:bootBuiltins x=some (.builtin id))(ha:PA' X B (e::es) t)
  (hn:x≠"__name__":=by decide) (hdb:(x==("__debug__":Str))=false:=by decide) (he:starEach (e::es) X.env=(false,eval e X.env)::starEach es X.env:=by rfl) (hpl:(backTo pos (starEach es X.env)).any (·.1)=false:=by rfl) :
  PE' X B (.Call (.Name x p) (e::es) [] pos) (uCB r' t):=pe_imp (pe_callB hc hg hm hv ha hn hdb he hpl) fun _ _ _ h=>low_cb v h
theorem qe_callTy{id:String}{r':List PV->PHp->VK'->Prop}{r:List V->Hp->VK->Prop}(hc:CallR X (.type id) r)(v:VC X.K B r' r)(hg:Gl X x)(hm:X.mg x=none)(hv:bootBuiltins x=some (.type id))(ha:PA' X B (e::es) t)
  (hn:x≠"__name__":=by decide) (hdb:(x==("__debug__":Str))=false:=by decide) (he:starEach (e::es) X.env=(false,eval e X.env)::starEach es X.env:=by rfl) (hpl:(backTo pos (starEach es X.env)).any (·.1)=false:=by rfl) :
  PE' X B (.Call (.Name x p) (e::es) [] pos) (uCB r' t):=pe_imp (pe_callTy hc hg hm hv ha hn hdb he hpl) fun _ _ _ h=>low_cb v h
def arg1(f:PV->PHp->VK'->Prop):List PV->PHp->VK'->Prop:=fun xs H Q=>match xs with
 | [x]=>f x H Q
 | _=>False
theorem arg1.ex{K:PySem.W.Frag}{H:Hp}{f:PV->PHp->VK'->Prop}{xs':List PV}{xs:List V}{H':PHp}{Q':VK'}(h:arg1 f xs' H' Q')(r:RPs K H xs' xs):∃x' x,xs'=[x']/\xs=[x]/\RP K H x' x/\f x' H' Q':=by
 unfold arg1 at h
 split at h
 ·simp only[RPs]at r
  obtain⟨u,r,rfl,q,rfl⟩:=r
  exact⟨_,u,rfl,rfl,q,h⟩
 ·exact h.elim
def uLen:List PV->PHp->VK'->Prop:=arg1 fun x H Q=>withS x H fun l=>Q (.int l.length) H
theorem vc_len{K:PySem.W.Frag}:VC K B uLen (fun xs H Q=>∃p ys,xs=[.ref p]/\(SqL K H p ys∨SqT K H p ys)/\Q (.int ys.length) H):=by
 intro σ' σ H' H xs' xs Q' Q s r h k
 obtain⟨x',x,rfl,rfl,rx,h⟩:=arg1.ex h r
 obtain⟨l,us,p,rfl,r,q,h⟩:=withS.ex h s rx
 exact⟨p,us,rfl,q,k _ H' _ H h (by simp[RP,RPs.length _ r]) s (Ev.refl _ _)⟩
def uAbs:List PV->PHp->VK'->Prop:=arg1 fun x H Q=>withI x fun i=>Q (.int (if i<0 then -i else i)) H
def b2n(b:Bool):Int:=if b then 1 else 0
def intOf(x:PV)(k:Int->Prop):Prop:=match x with
 | .int i=>k i
 | .bl b=>k (b2n b)
 | _=>False
def uInt:List PV->PHp->VK'->Prop:=arg1 fun x H Q=>intOf x fun i=>Q (.int i) H
theorem vc_int{K:PySem.W.Frag}:VC K B uInt (fun xs H Q=>(∃i,xs=[.int i]/\Q (.int i) H)∨∃k,xs=[.bl k]/\Q (.int (if k then 1 else 0)) H):=by
 intro σ' σ H' H xs' xs Q' Q s r h k
 obtain⟨x',x,rfl,rfl,rx,h⟩:=arg1.ex h r
 cases x' with
 | int i=>simp only[RP]at rx;subst rx;exact .inl ⟨i,rfl,k _ H' _ H h (by simp[RP]) s (Ev.refl _ _)⟩
 | bl i=>simp only[RP]at rx;subst rx;exact .inr ⟨i,rfl,k _ H' _ H h (by simp[RP,b2n]) s (Ev.refl _ _)⟩
 | _=>exact h.elim
def uList:List PV->PHp->VK'->Prop:=arg1 fun x H Q=>withS x H fun l=>∀p,H p=none->Q (.ref p) (put H p (.lst l))
theorem vc_list{K:PySem.W.Frag}:VC K B uList (fun xs H Q=>∃p ys,xs=[.ref p]/\(SqL K H p ys∨SqT K H p ys)/\∀l,H l=none->Q (.ref l) (upd H l (.lst ys))):=by
 intro σ' σ H' H xs' xs Q' Q s r h k
 obtain⟨x',x,rfl,rfl,rx,h⟩:=arg1.ex h r
 obtain⟨l,us,p,rfl,r,q,h⟩:=withS.ex h s rx
 exact⟨p,us,rfl,q,fun p n=>k _ _ _ _ (h p (s.hp.free n)) (by simp[RP]) (s.new n (newL n r)) (Ev.new n)⟩
def uTuple:List PV->PHp->VK'->Prop:=arg1 fun x H Q=>withS x H fun l=>Q (.tup l) H
theorem vc_tuple{K:PySem.W.Frag}:VC K B uTuple (fun xs H Q=>∃p ys,xs=[.ref p]/\((SqL K H p ys/\∀l,H l=none->Q (.ref l) (upd H l (.tup ys)))∨(SqT K H p ys/\Q (.ref p) H))):=by
 intro σ' σ H' H xs' xs Q' Q s r h k
 obtain⟨x',x,rfl,rfl,rx,h⟩:=arg1.ex h r
 obtain⟨l,us,p,rfl,r,q,h⟩:=withS.ex h s rx
 refine⟨p,us,rfl,?_⟩
 rcases q with q | q
 ·exact .inl ⟨q,fun p n=>k _ _ _ _ h (newT n r) (s.hid n) (Ev.hid n)⟩
 ·exact .inr ⟨q,k _ _ _ _ h (by simp only[RP];exact⟨p,us,rfl,q,r⟩) s (Ev.refl _ _)⟩
end
end U
set_option linter.all false
set_option maxRecDepth 100000
set_option maxHeartbeats 4000000
namespace U
open PySem PySem.Spec PyProof.Rows L2
variable {B:Bs}
section
variable {X:Cx}{a b c e o:Expr}{es:List Expr}{ta tb te:TE'}{tA tB:TT'}{st:Stmt}{sts:List Stmt}{t u:TS'}{pos:Pos}
def uNext:TS':=fun D σ H=>D.nx σ H
def uSeq(t u:TS'):TS':=fun D σ H=>t { D with nx:=u D } σ H
theorem qss_nil:PSs' X B [] uNext:=pss_imp pss_nil fun D σ H ⟨σ',H',D',s,h,d⟩=>d.nx _ _ _ _ h s (Ev.refl _ _)
theorem qss_cons(h1:PS' X B st t)(h2:PSs' X B sts u):PSs' X B (st::sts) (uSeq t u):=pss_imp (pss_cons h1 h2) fun D σ H ⟨σ',H',D',s,h,d⟩ =>
 ⟨σ',H',_,s,h,fun σ1' H1' σ1 H1 h1 s1 e1=>⟨σ1',H1',D',s1,h1,d.ev _ _ e1⟩,d.rt,d.bk,d.ct⟩
theorem qss_one(h1:PS' X B st t):PSs' X B [st] t:=pss_one h1
def uBreak:TS':=fun D σ H=>D.bk σ H
def uCont:TS':=fun D σ H=>D.ct σ H
def uDrop(te:TE'):TS':=fun D σ H=>te σ H fun _ H1=>D.nx σ H1
theorem qs_expr(he:PE' X B e te)(hs:swapsWith e none pos.line X.env=pure false:=by rfl):PS' X B (.Expr e pos) (uDrop te):=ps_imp (ps_expr he hs) fun D σ H ⟨σ',H',D',s,h,d⟩ =>
 ⟨σ',H',_,s,h,fun v' H1' v H1 h1 r1 s1 e1=>d.nx _ _ _ _ h1 s1 e1⟩
def uRet(te:TE'):TS':=fun D σ H=>te σ H D.rt
theorem qs_ret(he:PE' X B e te):PS' X B (.Return (some e) pos) (uRet te):=ps_imp (ps_ret he) fun D σ H ⟨σ',H',D',s,h,d⟩ =>
 ⟨σ',H',_,s,h,fun v' H1' v H1 h1 r1 s1 e1=>d.rt _ _ _ _ h1 r1 s1.hp e1⟩
def uRetN:TS':=fun D _ H=>D.rt .non H
def uIfS(c:TT')(t u:TS'):TS':=fun D σ H=>c σ H fun b H1=>cif b (t D σ H1) (u D σ H1)
theorem qs_if{l1 l2:List Stmt}(hc:PT' X B c tA)(ha:PSs' X B l1 t)(hb:PSs' X B l2 u):PS' X B (.If c l1 l2 pos) (uIfS tA t u):=ps_imp (ps_if hc ha hb) fun D σ H ⟨σ',H',D',s,h,d⟩=>by
 refine⟨σ',H',_,s,h,fun x H1' H1 h1 s1 e1=>?_⟩
 cases x with
 | true=>exact iteT ⟨σ',H1',D',s1,h1,d.ev _ _ e1⟩
 | false=>exact iteF ⟨σ',H1',D',s1,h1,d.ev _ _ e1⟩
def uNever:TS':=fun _ _ _=>False
theorem qss_never:PSs' X B sts uNever:=fun _ _ _ _ _ _ ⟨_,_,_,_,h,_⟩=>h.elim
def vName(i:Nat):TG':=fun v σ H Q=>Q (σ.set i (some v)) H
theorem SR.set{K:PySem.W.Frag}{σ':St'}{H':PHp}{σ:L2.St}{H:Hp}{v':PV}{v:V}(s:SR K B σ' H' σ H)(r:RP K H v' v)(i:Nat):SR K B (σ'.set i (some v')) H' (σ.set i (some v)) H:=by
 refine⟨by simp[s.len],fun j w e=>?_,s.hp,s.ev⟩
 by_cases hj:i=j
 ·subst hj
  have hl:i<σ'.length:=by
   rcases Nat.lt_or_ge i σ'.length with h | h
   ·exact h
   ·rw[List.getElem?_eq_none (by simpa using h)]at e;cases e
  rw[List.getElem?_set_self hl]at e
  cases e
  exact⟨v,List.getElem?_set_self (by rw[←s.len];exact hl),r⟩
 ·rw[List.getElem?_set_ne hj]at e ⊢
  exact s.loc j w e
theorem qg_name{i:Nat}{x:Str}(hN:X.N.Nodup)(hi:X.N[i]?=some x)(hx:Loc X.env.scope x)(hf:X.fn x=true∨X.env.scope.names.lookup x=some .local:=by first | exact .inl rfl | exact .inr rfl | assumption):PG' X B (.Name x pos) (vName i) :=
 pg_imp (pg_name hN hi hx hf) fun v σ H Q ⟨v',σ',H',Q',r,s,h,k⟩=>k _ _ _ _ h (s.set r i) (Ev.refl _ _)
def vNil:TGs':=fun vs σ H Q=>vs=[]/\Q σ H
def vCons(t:TG')(u:TGs'):TGs':=fun vs σ H Q=>match vs with
 | v::r=>t v σ H fun σ' H'=>u r σ' H' Q
 | []=>False
theorem qgs_nil:PGs' X B [] vNil:=pgs_imp pgs_nil fun vs σ H Q ⟨v',σ',H',Q',r,s,h,k⟩=>by
 obtain⟨rfl,h⟩:=h
 simp only[RPs]at r
 exact⟨r,k _ _ _ _ h s (Ev.refl _ _)⟩
theorem qgs_cons{t:TG'}{u:TGs'}(h1:PG' X B e t)(h2:PGs' X B es u)(hs:(assignEach (e::es) X.env).map (·.2)=assign e X.env::(assignEach es X.env).map (·.2):=by rfl):PGs' X B (e::es) (vCons t u) :=
 pgs_imp (pgs_cons h1 h2 hs) fun vs σ H Q ⟨vs',σ',H',Q',r,s,h,k⟩=>by
 cases vs' with
 | nil=>exact h.elim
 | cons v' r' =>
  simp only[RPs]at r
  obtain⟨v,w,rfl,rv,rw'⟩:=r
  refine⟨v,w,rfl,v',σ',H',_,rv,s,h,fun σ1' H1' σ1 H1 h1 s1 e1=>⟨r',σ1',H1',Q',RPs.kp _ (e1.kp s.hp) rw',s1,h1,fun σ2' H2' σ2 H2 h2 s2 e2=>k _ _ _ _ h2 s2 (e1.trans e2)⟩⟩
def vTup(n:Nat)(t:TGs'):TG':=fun v σ H Q=>match v with
 | .tup l=>l.length=n/\t l σ H Q
 | _=>False
theorem qg_tup{k:Nat}{t:TGs'}{n:Nat}(hc:X.calm=true)(h:PGs' X B es t)(hn:(assignEach es X.env).length=n:=by rfl)(hst:(assignEach es X.env).findIdx? (·.1)=none:=by rfl):PG' X B (.Tuple es k pos) (vTup n t) :=
 pg_imp (pg_tup hc h hn hst) fun v σ H Q ⟨v',σ',H',Q',r,s,h,k⟩=>by
 cases v' with
 | tup l =>
  obtain⟨hl,h⟩:=h
  simp only[RP]at r
  obtain⟨a,us,rfl,q,r⟩:=r
  exact⟨a,us,rfl,q,by rw[RPs.length _ r];exact hl,l,σ',H',Q',r,s,h,k⟩
 | _=>exact h.elim
def uAsg(te:TE')(g:TG'):TS':=fun D σ H=>te σ H fun x H1=>g x σ H1 D.nx
theorem low_asg{K:PySem.W.Frag}{te:TE'}{g:TG'}{D:Ends}{σ:L2.St}{H:Hp}(h:lowS K B (uAsg te g) D σ H):tAsg (low K B te) (lowG K B g) D σ H:=by
 obtain⟨σ',H',D',s,h,d⟩:=h
 exact⟨σ',H',_,s,h,fun x H1' v H1 h1 r1 s1 e1=>⟨x,σ',H1',_,r1,s1,h1,fun σ2' H2' σ2 H2 h2 s2 e2=>d.nx _ _ _ _ h2 s2 (e1.trans e2)⟩⟩
theorem qs_asg{tg:Expr}{g:TG'}(he:PE' X B e te)(hg:PG' X B tg g)(hs:swapsWithSole [tg] e pos.line X.env=pure false:=by rfl)(hw:swappedStores [tg] e X.env=pure none:=by rfl)
  (h1:(assignEach [tg] X.env).map (·.2)=[assign tg X.env]:=by rfl):PS' X B (.Assign [tg] e pos) (uAsg te g):=ps_imp (ps_asg he hg hs hw h1) fun _ _ _ h=>low_asg h
theorem qs_set{i:Nat}{x:Str}{pos':Pos}(hN:X.N.Nodup)(hi:X.N[i]?=some x)(hx:Loc X.env.scope x)(he:PE' X B e te)(hs:swapsWith e (some (.Name x pos')) pos.line X.env=pure false:=by rfl)(hf:X.fn x=true∨X.env.scope.names.lookup x=some .local:=by first | exact .inl rfl | exact .inr rfl | assumption) :
  PS' X B (.Assign [.Name x pos'] e pos) (uAsg te (vName i)):=ps_imp (ps_set hN hi hx he hs hf) fun D σ H h=>by
 obtain⟨σ',H',D',s,h,d⟩:=h
 exact⟨σ',H',_,s,h,fun x H1' v H1 h1 r1 s1 e1=>d.nx _ _ _ _ h1 (s1.set r1 i) e1⟩
def uWhile(c:TT')(tb:TS'):TS':=fun D σ H=>∃W:Nat->St'->PHp->Prop,(∃m,W m σ H)/\∀m σ H,W m σ H ->
 c σ H fun b H1=>cif b (∃N:St'->PHp->Prop,(∀σ' H',N σ' H'->∃m',m'<m/\W m' σ' H')/\tb { D with nx:=N,ct:=N,bk:=D.nx } σ H1) (D.nx σ H1)
theorem qs_while{body:List Stmt}(hp:PassesOwn (model X.prog X.w) X.A X.env X.xe)(hc:PT' X B c tA)(hb:PSs' X B body t):PS' X B (.While c body [] pos) (uWhile tA t):=ps_imp (ps_while hp hc hb) fun D σ H ⟨σ',H',D',s,⟨W,⟨m0,w0⟩,turn⟩,d⟩=>by
 refine⟨fun m σ1 H1=>∃σ1' H1',SR X.K B σ1' H1' σ1 H1/\Ev H' H H1' H1/\W m σ1' H1',⟨m0,σ',H',s,Ev.refl _ _,w0⟩,?_⟩
 rintro m σ1 H1 ⟨σ1',H1',s1,e1,w1⟩
 refine⟨σ1',H1',_,s1,turn m σ1' H1' w1,fun x H2' H2 h2 s2 e2=>?_⟩
 cases x with
 | false=>exact iteF (d.nx _ _ _ _ h2 s2 (e1.trans e2))
 | true =>
  obtain⟨N,hN,h2⟩:=(show ∃N:St'->PHp->Prop,_ from h2)
  refine iteT ⟨fun σ3 H3=>∃σ3' H3',SR X.K B σ3' H3' σ3 H3/\Ev H' H H3' H3/\N σ3' H3',?_,σ1',H2',_,s2,h2,?_,?_,?_,?_⟩
  ·rintro σ3 H3 ⟨σ3',H3',s3,e3,n3⟩
   obtain⟨m',hm,w'⟩:=hN _ _ n3
   exact⟨m',hm,σ3',H3',s3,e3,w'⟩
  ·intro σ3' H3' σ3 H3 n3 s3 e3
   exact⟨σ3',H3',s3,(e1.trans e2).trans e3,n3⟩
  ·intro v' H3' v H3 n3 r3 s3 e3
   exact d.rt _ _ _ _ n3 r3 s3 ((e1.trans e2).trans e3)
  ·intro σ3' H3' σ3 H3 n3 s3 e3
   exact d.nx _ _ _ _ n3 s3 ((e1.trans e2).trans e3)
  ·intro σ3' H3' σ3 H3 n3 s3 e3
   exact⟨σ3',H3',s3,(e1.trans e2).trans e3,n3⟩
theorem while_by{c:TT'}{tb:TS'}{D:Ends'}{σ:St'}{H:PHp}(Pv:Nat->St'->PHp->Prop)(m0:Nat)(h0:Pv m0 σ H)
  (hs:∀m σ H,Pv m σ H->c σ H fun b H1=>cif b (∃N:St'->PHp->Prop,(∀σ' H',N σ' H'->∃m',m'<m/\Pv m' σ' H')/\tb { D with nx:=N,ct:=N,bk:=D.nx } σ H1) (D.nx σ H1)):uWhile c tb D σ H:=⟨Pv,⟨m0,h0⟩,hs⟩
def uForL(ok:PHp->Prop)(g:TG')(tb:TS')(D:Ends'):List PV->St'->PHp->Prop
 | [],σ,H=>ok H/\D.nx σ H
 | x::r,σ,H=>ok H/\g x σ H fun σ2 H2=>tb { D with nx:=uForL ok g tb D r,ct:=uForL ok g tb D r,bk:=D.nx } σ2 H2
def uFor(wi:TI')(g:TG')(tb:TS'):TS':=fun D σ H=>wi σ H fun J H1=>uForL J.ok g tb D J.items σ H1
theorem qs_for{iter tg:Expr}{body:List Stmt}{wi:TI'}{g:TG'}(hp:PassesOwn (model X.prog X.w) X.A X.env X.xe)(hc:X.calm=true)(hi:PI' X B tg iter wi)(hg:PG' X B tg g)(hb:PSs' X B body t)
  (hs:∀x,foldedSetIterable iter X.env x=pure x:=by intro _;rfl):PS' X B (.For tg iter body [] pos) (uFor wi g t):=ps_imp (ps_for hp hc hi hg hb hs) fun D σ H ⟨σ',H',D',s,h,d⟩=>by
 refine⟨σ',H',_,s,h,fun J' H1' J H1 h1 wk s1 e1=>?_⟩
 refine⟨fun i m σ2 H2=>i≤J'.items.length/\m=J'.items.length - i/\∃σ2' H2',SR X.K B σ2' H2' σ2 H2/\Ev H1' H1 H2' H2/\uForL J'.ok g t D' (J'.items.drop i) σ2' H2',⟨J'.items.length,Nat.zero_le _,by simp,σ',H1',s1,Ev.refl _ _,h1⟩,?_⟩
 rintro i m σ2 H2 ⟨hi,rfl,σ2',H2',s2,e2,h2⟩
 have k2:=e2.kp s1.hp
 by_cases hlt:i<J'.items.length
 ·obtain⟨x',hx⟩:∃x',J'.items[i]?=some x':=⟨_,List.getElem?_eq_getElem hlt⟩
  have hd:J'.items.drop i=x'::J'.items.drop (i+1):=by
   rw[List.drop_eq_getElem_cons hlt]
   rw[List.getElem?_eq_getElem hlt]at hx
   cases hx;rfl
  rw[hd]at h2
  obtain⟨ok2,h2⟩:=(show J'.ok H2'/\_ from h2)
  refine .inr ⟨wk.go H2' H2 i k2 s2.hp ok2 hlt,fun σ3 H3=>∃σ3' H3',SR X.K B σ3' H3' σ3 H3/\Ev H1' H1 H3' H3/\uForL J'.ok g t D' (J'.items.drop (i+1)) σ3' H3',?_,fun x H3 y=>?_⟩
  ·rintro σ3 H3 ⟨σ3',H3',s3,e3,h3⟩
   exact⟨J'.items.length - (i+1),by omega,hlt,rfl,σ3',H3',s3,e3,h3⟩
  ·obtain⟨rfl,rx⟩:=wk.yld H2' H2 i x H3 k2 s2.hp ok2 y
   refine⟨x',σ2',H2',_,rx x' hx,s2,h2,fun σ3' H3' σ3 H3 h3 s3 e3=>⟨σ3',H3',_,s3,h3,?_,?_,?_,?_⟩⟩
   ·intro σ4' H4' σ4 H4 h4 s4 e4
    exact⟨σ4',H4',s4,e2.trans (e3.trans e4),h4⟩
   ·intro v' H4' v H4 h4 r4 s4 e4
    exact d.rt _ _ _ _ h4 r4 s4 (e1.trans (e2.trans (e3.trans e4)))
   ·intro σ4' H4' σ4 H4 h4 s4 e4
    exact d.nx _ _ _ _ h4 s4 (e1.trans (e2.trans (e3.trans e4)))
   ·intro σ4' H4' σ4 H4 h4 s4 e4
    exact⟨σ4',H4',s4,e2.trans (e3.trans e4),h4⟩
 ·have hi':i=J'.items.length:=by omega
  subst hi'
  rw[List.drop_length]at h2
  obtain⟨ok2,h2⟩:=(show J'.ok H2'/\_ from h2)
  exact .inl ⟨wk.stop H2' H2 _ k2 s2.hp ok2 (Nat.le_refl _),d.nx _ _ _ _ h2 s2 (e1.trans e2)⟩
def itOf(x:PV)(H1:PHp)(R:It'->PHp->Prop):Prop:=match x with
 | .tup l=>R ⟨l,fun _=>True⟩ H1
 | .fls l=>R ⟨l,fun _=>True⟩ H1
 | .ref a=>∃l,H1 a=some (.lst l)/\R ⟨l,fun H=>H a=some (.lst l)⟩ H1
 | _=>False
def uSeqI(ta:TE'):TI':=fun σ H R=>ta σ H fun x H1=>itOf x H1 R
def iSeq(K:PySem.W.Frag)(tl:TE):TI:=fun σ H R=>tl σ H fun x H1=>∃a,x=.ref a/\((∃xs,SqL K H1 a xs)/\R (Itl K a) H1∨(∃xs,SqT K H1 a xs)/\R (Itt K a) H1)
theorem pi_seq{tg l:Expr}{tl:TE}(hl:PE X l tl):PI X tg l (iSeq X.K tl):=by
 intro pins s σ H R I h
 refine thn (hl pins s σ H _ I h) fun v s1 ⟨x,H1,I1,r1,q1⟩=>?_
 obtain⟨a,e,⟨⟨xs,hq⟩,q⟩ |⟨⟨xs,hq⟩,q⟩⟩:=q1
 ·subst e
  cases r1
  obtain⟨its,rv,p,hz⟩:=I1.list hq
  refine wpAny_pyIter_list p.isList ?_
  refine⟨s1.heap.objs.size,[s1.heap.objs.size],_,_,H1,rfl,I1.kept (t':=s1.toks) fun b o e=>Heap.get?_push_of_some _ e,turn_list a _,⟨_,Heap.get?_push_size _ rfl,rfl,rfl⟩,fun b hb=>?_,q⟩
  have e:b=s1.heap.objs.size:=by simpa using hb
  subst e
  exact I1.fpOk (Nat.le_refl _) (I1.hok.fresh (Nat.le_refl _))
 ·subst e
  cases r1
  obtain⟨its,rv,p,hz⟩:=I1.tuple hq
  refine wpAny_pyIter_tuple (show s1.heap.IsTuple a its.toArray from p) ?_
  refine⟨s1.heap.objs.size,[s1.heap.objs.size],_,_,H1,rfl,I1.kept (t':=s1.toks) fun b o e=>Heap.get?_push_of_some _ e,turn_tuple a _,⟨_,Heap.get?_push_size _ rfl,rfl,rfl⟩,fun b hb=>?_,q⟩
  have e:b=s1.heap.objs.size:=by simpa using hb
  subst e
  exact I1.fpOk (Nat.le_refl _) (I1.hok.fresh (Nat.le_refl _))
theorem walks_list{K:PySem.W.Frag}{H1:Hp}{J':It'}{a:Addr}(h:∀H' H,Kp H1 H->HR K H' H->J'.ok H'->∃us,SqL K H a us/\RPs K H J'.items us):Walks K H1 (Itl K a) J' where
 go:=fun H' H i k s o hi=>by
  obtain⟨us,q,r⟩:=h H' H k s o
  obtain⟨u,e,_⟩:=RPs.get _ r (List.getElem?_eq_getElem hi)
  exact⟨us,u,q,e⟩
 yld:=fun H' H i x H2 k s o y=>by
  obtain⟨us,q,r⟩:=h H' H k s o
  refine⟨y.1,fun x' hx=>?_⟩
  obtain⟨u,e,ru⟩:=RPs.get _ r hx
  have:=y.2 us q
  rw[e]at this;cases this;exact ru
 stop:=fun H' H i k s o hi=>by
  obtain⟨us,q,r⟩:=h H' H k s o
  exact⟨us,q,by rw[RPs.length _ r];exact hi⟩
theorem walks_tup{K:PySem.W.Frag}{H1:Hp}{J':It'}{a:Addr}(h:∀H' H,Kp H1 H->HR K H' H->J'.ok H'->∃us,SqT K H a us/\RPs K H J'.items us):Walks K H1 (Itt K a) J' where
 go:=fun H' H i k s o hi=>by
  obtain⟨us,q,r⟩:=h H' H k s o
  obtain⟨u,e,_⟩:=RPs.get _ r (List.getElem?_eq_getElem hi)
  exact⟨us,u,q,e⟩
 yld:=fun H' H i x H2 k s o y=>by
  obtain⟨us,q,r⟩:=h H' H k s o
  refine⟨y.1,fun x' hx=>?_⟩
  obtain⟨u,e,ru⟩:=RPs.get _ r hx
  have:=y.2 us q
  rw[e]at this;cases this;exact ru
 stop:=fun H' H i k s o hi=>by
  obtain⟨us,q,r⟩:=h H' H k s o
  exact⟨us,q,by rw[RPs.length _ r];exact hi⟩
theorem qi_seq{tg:Expr}(ha:PE' X B a ta):PI' X B tg a (uSeqI ta):=pi_imp (pi_seq ha) fun σ H R ⟨σ',H',R',s,h,k⟩=>by
 refine⟨σ',H',_,s,h,fun x' H1' x H1 h1 r1 s1 e1=>?_⟩
 cases x' with
 | tup l =>
  simp only[RP]at r1
  obtain⟨p,us,rfl,q,r⟩:=r1
  exact⟨p,rfl,.inr ⟨⟨us,q⟩,k _ H1' _ H1 h1 (walks_tup fun _ H2 k2 _ _=>⟨us,k2.sqT q,RPs.kp _ k2 r⟩) s1 e1⟩⟩
 | fls l =>
  simp only[RP]at r1
  obtain⟨p,us,rfl,q,r⟩:=r1
  exact⟨p,rfl,.inl ⟨⟨us,q.sq⟩,k _ H1' _ H1 h1 (walks_list fun _ H2 k2 _ _=>⟨us,(k2.fzL q).sq,RPs.kp _ k2 r⟩) s1 e1⟩⟩
 | ref p =>
  simp only[RP]at r1
  obtain⟨l,q,h1⟩:=h1
  obtain⟨us,q2,r⟩:=s1.hp _ _ q
  refine⟨p,r1,.inl ⟨⟨us,SqL.of q2⟩,k _ H1' _ H1 h1 (walks_list fun H2' H2 k2 s2 o2=>?_) s1 e1⟩⟩
  obtain⟨us2,q3,r3⟩:=s2 _ _ o2
  exact⟨us2,SqL.of q3,r3⟩
 | _=>exact h1.elim
def rngL(lo:Int)(n:Nat):List PV:=(List.range n).map fun k=>PV.int (lo+(k:Nat))
theorem walks_rng{K:PySem.W.Frag}{H1:Hp}{lo:Int}{n:Nat}:Walks K H1 (Itr lo n) ⟨rngL lo n,fun _=>True⟩ where
 go:=fun H' H i k s o hi=>by
  have h:i<n:=by simpa[rngL]using hi
  exact h
 yld:=fun H' H i x H2 k s o y=>by
  obtain⟨e,rfl⟩:=y
  refine⟨e,fun x' hx=>?_⟩
  simp only[rngL,List.getElem?_map]at hx
  cases q:(List.range n)[i]? with
  | none=>rw[q]at hx;cases hx
  | some j =>
   rw[q]at hx
   obtain⟨h1,h2⟩:=List.getElem?_eq_some_iff.mp q
   rw[List.getElem_range]at h2
   subst h2
   cases hx
   simp[RP]
 stop:=fun H' H i k s o hi=>by
  have h:n≤i:=by simpa[rngL]using hi
  exact h
def rng1(vs:List PV)(H1:PHp)(R:It'->PHp->Prop):Prop:=match vs with
 | [.int j]=>(-(2 ^ 62)≤j/\j<2 ^ 62)/\R ⟨rngL 0 j.toNat,fun _=>True⟩ H1
 | _=>False
def uRng1(t:TA'):TI':=fun σ H R=>t σ H fun vs H1=>rng1 vs H1 R
def rng2(vs:List PV)(H1:PHp)(R:It'->PHp->Prop):Prop:=match vs with
 | [.int i,.int j]=>(-(2 ^ 62)≤i/\i<2 ^ 62/\-(2 ^ 62)≤j/\j<2 ^ 62)/\R ⟨rngL i (j - i).toNat,fun _=>True⟩ H1
 | _=>False
def uRng2(t:TA'):TI':=fun σ H R=>t σ H fun vs H1=>rng2 vs H1 R
theorem qi_range1{tg:Expr}{t:TA'}{p:Pos}(hg:Gl X "range")(hm:X.mg "range"=none)(ha:PA' X B [a] t)(hs:starEach [a] X.env=[(false,eval a X.env)]:=by rfl):PI' X B tg (.Call (.Name "range" p) [a] [] pos) (uRng1 t) :=
 pi_imp (pi_range1 hg hm ha hs) fun σ H R ⟨σ',H',R',s,h,k⟩=>by
 refine⟨σ',H',_,s,h,fun vs' H1' vs H1 h1 r1 s1 e1=>?_⟩
 unfold rng1 at h1
 split at h1
 ·rename_i j
  simp only[RPs,RP]at r1
  obtain⟨u,r,rfl,rfl,rfl⟩:=r1
  exact⟨j,rfl,h1.1.1,h1.1.2,k _ H1' _ H1 h1.2 walks_rng s1 e1⟩
 ·exact h1.elim
end
end U
set_option linter.all false
set_option maxRecDepth 100000
set_option maxHeartbeats 4000000
namespace U
open PySem PySem.Spec PyProof.Rows L2
variable {B:Bs}
abbrev Sp':=List PV->PHp->VK'->XK'->Prop
def lowSp(K:PySem.W.Frag)(sp:Sp'):Sp:=fun vs H Q E=>∃vs' H' Q' E',RPs K H vs' vs/\HR K H' H/\sp vs' H' Q' E'/\(∀v' H1' v H1,Q' v' H1'->RP K H1 v' v->HR K H1' H1->Ev H' H H1' H1->Q v H1) /\
 (∀c d H1' H1,E' c d H1'->HR K H1' H1->Ev H' H H1' H1->E c d H1)
abbrev FnOk'(P:Program)(w:World)(K:PySem.W.Frag)(mg:Str->Option Value)(base:Heap)(CX:CXT)(k:Nat)(f:Addr)(fd:FuncData)(ps:List Str)(sp:Sp'):Prop:=FnOk P w K mg base CX k f fd ps (lowSp K sp)
def start'(N:List Str)(vs:List PV):St':=vs.map some++List.replicate (N.length - vs.length) none
theorem sr_start{K:PySem.W.Frag}{N:List Str}{vs':List PV}{vs:List V}{H':PHp}{H:Hp}(r:RPs K H vs' vs)(h:HR K H' H):SR K (H',H) (start' N vs') H' (L2.start N vs) H:=by
 have hl:=RPs.length _ r
 refine⟨by simp[start',L2.start,hl],fun i v' e=>?_,h,Ev.refl _ _⟩
 unfold start' at e
 unfold L2.start
 by_cases hi:i<vs'.length
 ·rw[List.getElem?_append_left (by simpa using hi)]at e
  rw[List.getElem?_append_left (by simpa[hl]using hi)]
  rw[List.getElem?_map]at e ⊢
  cases q:vs'[i]? with
  | none=>rw[q]at e;cases e
  | some w =>
   rw[q]at e
   cases e
   obtain⟨u,e1,e2⟩:=RPs.get _ r q
   exact⟨u,by rw[e1];rfl,e2⟩
 ·rw[List.getElem?_append_right (by simpa using hi)]at e
  rw[List.getElem?_replicate]at e
  split at e<;>cases e
def ends(Q:VK'):Ends' where
 nx:=fun _ H=>∃H3,Sub H3 H/\Q .non H3
 rt:=fun v H=>∃H3,Sub H3 H/\Q v H3
section
variable {P:Program}{w:World}{K:PySem.W.Frag}{mg:Str->Option Value}{base:Heap}
theorem okU{x qual:Str}{st:Stmt}{f:Addr}{fd:FuncData}{N ps:List Str}{k:Nat}{sp:Sp'}(F:Fun K x qual st f fd)(S:FnScope N ps (defScope st))(len:∀vs H Q E,sp vs H Q E->vs.length=ps.length)
  (hbody:∀(cdv:Value) (A:Around) (outer:List Env) (s:Shared) (H:Hp) (E:XK) (B:Bs),Room k (A.deeper (envOfC qual (defScope st) s.heap.objs.size f cdv)) ->
   ∃t,PSs' (cxOf CX0 P w K mg base N qual (defScope st) f cdv A outer s H E).nox B (defBody st) t/\∀vs' H' Q' E',sp vs' H' Q' E'->t (ends Q') (start' N vs') H'):FnOk' P w K mg base CX0 (k+1) f fd ps sp:=by
 refine F.ok S (fun vs H Q E zz=>?_) (fun cdv A outer s H vs Q E hr h=>?_)
 ·obtain⟨vs',H',Q',E',r,hr,h,_⟩:=zz
  rw[RPs.length _ r];exact len _ _ _ _ h
 ·obtain⟨vs',H',Q',E',r,hh,h,k1,k2⟩:=h
  obtain⟨t,ht,hq⟩:=hbody cdv A outer s H E (H',H) hr
  refine⟨_,ht,start' N vs',H',_,sr_start r hh,hq vs' H' Q' E' h,?_,?_,?_,?_⟩
  ·rintro σ1' H1' σ1 H1 ⟨H3,sb,q⟩ s1 e1
   exact k1 _ H3 _ H1 q (by simp[RP]) (s1.hp.sub sb) (e1.sub sb)
  ·rintro v' H1' v H1 ⟨H3,sb,q⟩ r1 s1 e1
   exact k1 _ H3 _ H1 q r1 (s1.sub sb) (e1.sub sb)
  ·intro _ _ _ _ z;exact z.elim
  ·intro _ _ _ _ z;exact z.elim
end
section
variable {X:Cx}{CX:CXT}{k:Nat}{f C:Addr}{fd:FuncData}{ps:List Str}{sp:Sp'}{E:XK}{E':XK'}{x m:Str}{p pos apos:Pos}{e o:Expr}{es:List Expr}{ta:TE'}{t:TA'}
def uCall(sp:Sp')(E':XK')(t:TA'):TE':=fun σ H Q=>t σ H fun vs H1=>sp vs H1 Q E'
abbrev X0:XK':=fun _ _ _=>False
theorem low_call0{K:PySem.W.Frag}{σ:L2.St}{H:Hp}{Q:VK}(h:low K B (uCall sp X0 t) σ H Q):tCall (lowSp K sp) [] E0 (lowA K B t) σ H Q:=by
 obtain⟨σ',H',Q',s,h,k⟩:=h
 refine⟨σ',H',_,s,h,fun vs' H1' vs H1 h1 r1 s1 e1=>?_⟩
 show lowSp K sp (vs++[]) H1 Q E0
 rw[List.append_nil]
 exact⟨vs',H1',Q',X0,r1,s1.hp,h1,fun v' H2' v H2 q r2 h2 e2=>k v' H2' v H2 q r2 (s1.kp e2 h2) (e1.trans e2),fun _ _ _ _ z=>z.elim⟩
theorem qe_call(F:FnOk' X.prog X.w X.K X.mg X.base CX0 k f fd ps sp)(hr:Room k X.A)(hg:Gl X x)(hm:X.mg x=some (.ref f))(hk:PySem.W.keepIn X.K (.ref f)=true)(hb:Binds X.K fd ps [])
  (ha:PA' X B (e::es) t) (hdb:(x==("__debug__":Str))=false:=by decide) (he:starEach (e::es) X.env=(false,eval e X.env)::starEach es X.env:=by rfl) (hpl:(backTo pos (starEach es X.env)).any (·.1)=false:=by rfl) :
  PE' X B (.Call (.Name x p) (e::es) [] pos) (uCall sp X0 t):=pe_imp (pe_call F hr hg hm hk hb .nil pass0 ha hdb he hpl) fun _ _ _ h=>low_call0 h
theorem fz_of{K:PySem.W.Frag}{H:Hp}{a:Addr}{xs:List V}(o:Only H)(h:SqL K H a xs):FzL K H a xs:=by
 rcases h with(h | h) | h
 ·rcases o a with z |⟨ob,ys,z⟩
  ·rw[z]at h;cases h
  ·rw[z]at h;cases h
 ·exact .inl h
 ·exact .inr h
def spL:Sp':=fun vs H Q _=>match vs with
 | [.fls l]=>∃ns:List Int,l=ns.map PV.int/\ns.length≤63/\Q (.bl true) H
 | _=>False
theorem spL_start{K:PySem.W.Frag}{H:Hp}{a:Addr}{ns:List Int}(hl:ns.length≤63)(o:Only H)(h:SqL K H a (ns.map V.int)):lowSp K spL [.ref a] H (fun v _=>v=.bl true) fun _ _ _=>False:=by
 refine⟨[.fls (ns.map PV.int)],fun _=>none,fun v _=>v=.bl true,X0,?_,fun _ _ z=>(nomatch z),⟨ns,rfl,hl,rfl⟩,fun v' _ v _ q r _ _=>?_,fun _ _ _ _ z=>z.elim⟩
 ·refine RPs.cons _ ?_ (RPs.nil _)
  simp only[RP]
  exact⟨a,_,rfl,fz_of o h,RPs.ints _ _⟩
 ·subst q
  simpa[RP]using r
end
end U
set_option linter.all false
set_option maxRecDepth 100000
set_option maxHeartbeats 4000000
namespace U
open PySem PySem.Spec PyProof.Rows L2
variable {B:Bs}
mutual
def deq:PV->PV->Bool
 | .non,.non=>true
 | .bl a,.bl b=>a==b
 | .int a,.int b=>a==b
 | .bl a,.int b=>(if a then 1 else 0)==b
 | .int a,.bl b=>a==(if b then 1 else 0)
 | .str a,.str b=>a==b
 | .tup l,.tup m=>deqs l m
 | .fls l,.fls m=>deqs l m
 | _,_=>false
def deqs:List PV->List PV->Bool
 | [],[]=>true
 | x::l,y::m=>deq x y&&deqs l m
 | _,_=>false
end
def flat:Nat->PV->Bool
 | _,.non=>true
 | _,.bl _=>true
 | _,.int _=>true
 | _,.str _=>true
 | n+1,.tup l=>l.all (flat n)
 | n+1,.fls l=>l.all (flat n)
 | _,_=>false
theorem deqs_range:∀(l m:List PV),deqs l m=((List.range (min l.length m.length)).all (fun i=>deq (l.getD i .non) (m.getD i .non))&&l.length==m.length)
 | [],[]=>by simp[deqs]
 | [],_::_=>by simp[deqs]
 | _::_,[]=>by simp[deqs]
 | x::l,y::m=>by
  simp only[deqs,deqs_range l m,List.length_cons]
  rw[show min (l.length+1) (m.length+1)=min l.length m.length+1 by omega,List.range_succ_eq_map,List.all_cons,List.all_map]
  simp only[List.getD_cons_zero,Bool.and_assoc]
  congr 1
  congr 1
  simp
theorem deqs_refl{n:Nat}:∀(l:List PV),(∀x∈l,deq x x=true)->deqs l l=true
 | [],_=>rfl
 | x::l,h=>by
  have h1:=h x (by simp)
  have h2:=deqs_refl (n:=n) l fun y hy=>h y (by simp[hy])
  simp only[deqs,h1,h2,Bool.and_self]
theorem deq_refl:∀{n:Nat} {x:PV},flat n x=true->deq x x=true
 | _,.non,_=>by simp[deq]
 | _,.bl _,_=>by simp[deq]
 | _,.int _,_=>by simp[deq]
 | _,.str _,_=>by simp[deq]
 | n+1,.tup l,h=>by
  simp only[flat,List.all_eq_true]at h
  simp only[deq]
  exact deqs_refl (n:=0) l fun x hx=>deq_refl (h x hx)
 | n+1,.fls l,h=>by
  simp only[flat,List.all_eq_true]at h
  simp only[deq]
  exact deqs_refl (n:=0) l fun x hx=>deq_refl (h x hx)
 | 0,.tup _,h=>by cases h
 | 0,.fls _,h=>by cases h
 | n,.ref _,h=>by cases n<;>cases h
 | n,.oth _,h=>by cases n<;>cases h
section
variable {X:Cx}{pins:List (Addr×Obj)}{σ:L2.St}{H:Hp}{s:Shared}
def RR(K:PySem.W.Frag)(H:Hp)(x:PV)(u:Value):Prop:=∃v,RP K H x v/\RelV v u
def RL(K:PySem.W.Frag)(H:Hp)(l:List PV)(us:List Value):Prop:=∃vs,RPs K H l vs/\Vals vs us
def RD(K:PySem.W.Frag)(H:Hp)(x:PV)(u:Value):Prop:=match x with
 | .fls l=>∃a vs,u=.ref a/\SqL K H a vs/\RPs K H l vs
 | x=>RR K H x u
theorem RL.get{K:PySem.W.Frag}{l:List PV}{us:List Value}(r:RL K H l us){i:Nat}{u:Value}(e:us[i]?=some u):∃x,l[i]?=some x/\RR K H x u:=by
 obtain⟨vs,r1,r2⟩:=r
 have hl:=r2.length
 have hl2:=RPs.length _ r1
 have hi:i<l.length:=by
  have:=(List.getElem?_eq_some_iff.mp e).1
  omega
 obtain⟨v,e1,e2⟩:=RPs.get _ r1 (List.getElem?_eq_getElem hi)
 obtain⟨w,e3,e4⟩:=r2.get e1
 rw[e]at e3;cases e3
 exact⟨_,List.getElem?_eq_getElem hi,v,e2,e4⟩
theorem RL.length{K:PySem.W.Frag}{l:List PV}{us:List Value}(r:RL K H l us):us.length=l.length:=by
 obtain⟨vs,r1,r2⟩:=r
 rw[←r2.length,RPs.length _ r1]
theorem RR.rd{K:PySem.W.Frag}{x:PV}{u:Value}(r:RR K H x u):RD K H x u:=by
 cases x with
 | fls l =>
  obtain⟨v,r1,r2⟩:=r
  simp only[RP]at r1
  obtain⟨a,us,rfl,q,rr⟩:=r1
  cases r2
  exact⟨a,us,rfl,q.sq,rr⟩
 | _=>exact r
theorem rd_tup(I:Inv X pins σ H s){l:List PV}{u:Value}(r:RD X.K H (.tup l) u):∃a its,u=.ref a/\RL X.K H l its/\s.heap.IsTuple a its.toArray:=by
 obtain⟨v,r1,r2⟩:=r
 simp only[RP]at r1
 obtain⟨a,us,rfl,q,rr⟩:=r1
 cases r2
 obtain⟨its,rv,p,_⟩:=I.tuple q
 exact⟨a,its,rfl,⟨us,rr,rv⟩,p⟩
theorem rd_lst(I:Inv X pins σ H s){l:List PV}{u:Value}(r:RD X.K H (.fls l) u):∃a its,u=.ref a/\RL X.K H l its/\s.heap.IsList a its.toArray:=by
 obtain⟨a,us,rfl,q,rr⟩:=r
 obtain⟨its,rv,p,_⟩:=I.list q
 exact⟨a,its,rfl,⟨us,rr,rv⟩,p.isList⟩
theorem isTuple_inj{a:Addr}{x y:Array Value}(h1:s.heap.IsTuple a x)(h2:s.heap.IsTuple a y):x=y:=by
 obtain⟨o,e,c,n,d⟩:=h1
 obtain⟨o',e',c',n',d'⟩:=h2
 rw[e]at e';cases e';rw[d]at d';cases d';rfl
theorem isList_inj{a:Addr}{x y:Array Value}(h1:s.heap.IsList a x)(h2:s.heap.IsList a y):x=y:=by
 obtain⟨o,e,c,n,d⟩:=h1
 obtain⟨o',e',c',n',d'⟩:=h2
 rw[e]at e';cases e';rw[d]at d';cases d';rfl
theorem not_both{a:Addr}{x y:Array Value}(h1:s.heap.IsTuple a x)(h2:s.heap.IsList a y):False:=by
 obtain⟨o,e,c,n,d⟩:=h1
 obtain⟨o',e',c',n',d'⟩:=h2
 rw[e]at e';cases e';rw[c]at c';exact absurd c' (by decide)
theorem RL.list_inj{K:PySem.W.Frag}{n:Nat}(ih:∀{x y:PV} {u:Value},flat n x=true->flat n y=true->RD K H x u->RD K H y u->x=y){l m:List PV}{us:List Value}(h1:l.all (flat n)=true)(h2:m.all (flat n)=true)
  (r1:RL K H l us) (r2:RL K H m us):l=m:=by
 rw[List.all_eq_true]at h1 h2
 refine List.ext_getElem? fun i=>?_
 cases e:us[i]? with
 | none =>
  have:=List.getElem?_eq_none_iff.mp e
  rw[List.getElem?_eq_none (by rw[←r1.length];exact this),List.getElem?_eq_none (by rw[←r2.length];exact this)]
 | some u =>
  obtain⟨x,ex,rx⟩:=r1.get e
  obtain⟨y,ey,ry⟩:=r2.get e
  rw[ex,ey,ih (h1 x (List.mem_of_getElem? ex)) (h2 y (List.mem_of_getElem? ey)) rx.rd ry.rd]
theorem rd_inj(I:Inv X pins σ H s):∀(n:Nat) {x y:PV} {u:Value},flat n x=true->flat n y=true->RD X.K H x u->RD X.K H y u->x=y:=by
 have sc:∀{x:PV} {u:Value},RD X.K H x u->(∀l,x≠.fls l)->RR X.K H x u:=fun {x u} r h=>by
  cases x with
  | fls l=>exact absurd rfl (h l)
  | _=>exact r
 intro n
 induction n with
 | zero =>
  intro x y u hx hy rx ry
  cases x<;>first |(cases hx;done) | skip
  all_goals cases y<;>first |(cases hy;done) | skip
  all_goals
   obtain⟨v,r1,r2⟩:=sc rx (by intro l z;cases z)
   obtain⟨v',r1',r2'⟩:=sc ry (by intro l z;cases z)
   simp only[RP]at r1 r1'
   subst r1;subst r1'
   have:=RelV.inj r2 r2'
   first | rfl |(cases this;done) |(cases this;rfl)
 | succ n ih =>
  intro x y u hx hy rx ry
  cases x with
  | tup l =>
   obtain⟨a,its,rfl,rl,p⟩:=rd_tup I rx
   cases y with
   | tup m =>
    obtain⟨b,its',e,rl',p'⟩:=rd_tup I ry
    cases e
    have:=isTuple_inj p p'
    have e2:its=its':=by simpa using this
    subst e2
    rw[RL.list_inj (n:=n) ih hx hy rl rl']
   | fls m =>
    obtain⟨b,its',e,rl',p'⟩:=rd_lst I ry
    cases e
    exact(not_both p p').elim
   | ref a=>cases hy
   | oth a=>cases hy
   | _ =>
    obtain⟨v',r1',r2'⟩:=sc ry (by intro l z;cases z)
    simp only[RP]at r1'
    subst r1'
    simp[L2.RelV]at r2'
  | fls l =>
   obtain⟨a,its,rfl,rl,p⟩:=rd_lst I rx
   cases y with
   | tup m =>
    obtain⟨b,its',e,rl',p'⟩:=rd_tup I ry
    cases e
    exact(not_both p' p).elim
   | fls m =>
    obtain⟨b,its',e,rl',p'⟩:=rd_lst I ry
    cases e
    have:=isList_inj p p'
    have e2:its=its':=by simpa using this
    subst e2
    rw[RL.list_inj (n:=n) ih hx hy rl rl']
   | ref a=>cases hy
   | oth a=>cases hy
   | _ =>
    obtain⟨v',r1',r2'⟩:=sc ry (by intro l z;cases z)
    simp only[RP]at r1'
    subst r1'
    simp[L2.RelV]at r2'
  | ref a=>cases hx
  | oth a=>cases hx
  | _ =>
   cases y with
   | tup m =>
    obtain⟨b,its',e,rl',p'⟩:=rd_tup I ry
    subst e
    obtain⟨v',r1',r2'⟩:=sc rx (by intro l z;cases z)
    simp only[RP]at r1'
    subst r1'
    simp[L2.RelV]at r2'
   | fls m =>
    obtain⟨b,its',e,rl',p'⟩:=rd_lst I ry
    subst e
    obtain⟨v',r1',r2'⟩:=sc rx (by intro l z;cases z)
    simp only[RP]at r1'
    subst r1'
    simp[L2.RelV]at r2'
   | ref a=>cases hy
   | oth a=>cases hy
   | _ =>
    obtain⟨v,r1,r2⟩:=sc rx (by intro l z;cases z)
    obtain⟨v',r1',r2'⟩:=sc ry (by intro l z;cases z)
    simp only[RP]at r1 r1'
    subst r1;subst r1'
    have:=RelV.inj r2 r2'
    first | rfl |(cases this;done) |(cases this;rfl)
open SeqAt in
theorem eq_core(I:Inv X pins σ H s):∀(n:Nat) {A:Around} {x y:PV} {u w:Value},A.units+n<cLine->flat n x=true->flat n y=true->RD X.K H x u->RD X.K H y w->EqAt A s u w (deq x y)/\RcAt A s u w (deq x y):=by
 have sc:∀{x:PV} {u:Value},RD X.K H x u->(∀l,x≠.fls l)->RR X.K H x u:=fun {x u} r h=>by
  cases x with
  | fls l=>exact absurd rfl (h l)
  | _=>exact r
 have v_non:∀{u:Value},RD X.K H .non u->u=.none:=fun {u} r=>by
  obtain⟨v,r1,r2⟩:=sc r (by intro l z;cases z);simp only[RP]at r1;subst r1;exact r2
 have v_bl:∀{b:Bool} {u:Value},RD X.K H (.bl b) u->u=.bool b:=fun {b u} r=>by
  obtain⟨v,r1,r2⟩:=sc r (by intro l z;cases z);simp only[RP]at r1;subst r1;exact r2
 have v_int:∀{i:Int} {u:Value},RD X.K H (.int i) u->∃t,u=.int i t:=fun {b u} r=>by
  obtain⟨v,r1,r2⟩:=sc r (by intro l z;cases z);simp only[RP]at r1;subst r1;exact r2
 have v_str:∀{i:Str} {u:Value},RD X.K H (.str i) u->∃t,u=.str i t:=fun {b u} r=>by
  obtain⟨v,r1,r2⟩:=sc r (by intro l z;cases z);simp only[RP]at r1;subst r1;exact r2
 intro n
 induction n with
 | zero =>
  intro A x y u w hu hx hy rx ry
  cases x with
  | non =>
   rw[v_non rx]
   cases y with
   | non=>rw[v_non ry];exact⟨EqAt.same _,RcAt.none_none⟩
   | bl b=>rw[v_bl ry];exact⟨EqAt.none_bool b,RcAt.none_bool b⟩
   | int b=>obtain⟨t,rfl⟩:=v_int ry;exact⟨EqAt.none_int b t,RcAt.none_int b t⟩
   | str b=>obtain⟨t,rfl⟩:=v_str ry;exact⟨EqAt.none_str b t,RcAt.none_str b t⟩
   | _=>cases hy
  | bl a =>
   rw[v_bl rx]
   cases y with
   | non=>rw[v_non ry];exact⟨EqAt.bool_none a,RcAt.bool_none a⟩
   | bl b=>rw[v_bl ry];exact⟨EqAt.bool_bool a b,RcAt.bool_bool a b⟩
   | int b=>obtain⟨t,rfl⟩:=v_int ry;exact⟨EqAt.bool_int a b t,RcAt.bool_int a b t⟩
   | str b=>obtain⟨t,rfl⟩:=v_str ry;exact⟨EqAt.bool_str a b t,RcAt.bool_str a b t⟩
   | _=>cases hy
  | int a =>
   obtain⟨t0,rfl⟩:=v_int rx
   cases y with
   | non=>rw[v_non ry];exact⟨EqAt.int_none a t0,RcAt.int_none a t0⟩
   | bl b=>rw[v_bl ry];exact⟨EqAt.int_bool a t0 b,RcAt.int_bool a t0 b⟩
   | int b=>obtain⟨t,rfl⟩:=v_int ry;exact⟨EqAt.int_int a t0 b t,RcAt.int_int a t0 b t⟩
   | str b=>obtain⟨t,rfl⟩:=v_str ry;exact⟨EqAt.int_str a t0 b t,RcAt.int_str a t0 b t⟩
   | _=>cases hy
  | str a =>
   obtain⟨t0,rfl⟩:=v_str rx
   cases y with
   | non=>rw[v_non ry];exact⟨EqAt.str_none a t0,RcAt.str_none a t0⟩
   | bl b=>rw[v_bl ry];exact⟨EqAt.str_bool a t0 b,RcAt.str_bool a t0 b⟩
   | int b=>obtain⟨t,rfl⟩:=v_int ry;exact⟨EqAt.str_int a t0 b t,RcAt.str_int a t0 b t⟩
   | str b=>obtain⟨t,rfl⟩:=v_str ry;exact⟨EqAt.str_str a t0 b t,RcAt.str_str a t0 b t⟩
   | _=>cases hy
  | _=>cases hx
 | succ n ih =>
  intro A x y u w hu hx hy rx ry
  have hu0:A.units<cLine:=by omega
  have hu1:A.in1.units+n<cLine:=by show A.units+1+n<cLine;omega
  cases x with
  | tup l =>
   obtain⟨a,its,rfl,rl,p⟩:=rd_tup I rx
   cases y with
   | non=>rw[v_non ry];exact⟨EqAt.tuple_none p hu0,RcAt.tuple_none p hu0⟩
   | bl b=>rw[v_bl ry];exact⟨EqAt.tuple_bool b p hu0,RcAt.tuple_bool b p hu0⟩
   | int b=>obtain⟨t,rfl⟩:=v_int ry;exact⟨EqAt.tuple_int b t p hu0,RcAt.tuple_int b t p hu0⟩
   | str b=>obtain⟨t,rfl⟩:=v_str ry;exact⟨EqAt.tuple_str b t p hu0,RcAt.tuple_str b t p hu0⟩
   | tup m =>
    obtain⟨b,its',rfl,rl',p'⟩:=rd_tup I ry
    have key:RcAt A s (.ref a) (.ref b) (deq (.tup l) (.tup m)):=by
     have:=RcAt.tuples (e:=fun i=>deq (l.getD i .non) (m.getD i .non)) p p' hu0 fun j h1 h2=>by
      have h1':j<its.length:=by simpa using h1
      have h2':j<its'.length:=by simpa using h2
      obtain⟨x,ex,rx'⟩:=rl.get (List.getElem?_eq_getElem h1')
      obtain⟨y,ey,ry'⟩:=rl'.get (List.getElem?_eq_getElem h2')
      have q:=ih hu1 (List.all_eq_true.mp hx x (List.mem_of_getElem? ex)) (List.all_eq_true.mp hy y (List.mem_of_getElem? ey)) rx'.rd ry'.rd
      have e1:l.getD j .non=x:=by rw[List.getD_eq_getElem?_getD,ex];rfl
      have e2:m.getD j .non=y:=by rw[List.getD_eq_getElem?_getD,ey];rfl
      rw[e1,e2]
      simpa using q.1
     have e:deq (.tup l) (.tup m)=((List.range (min its.toArray.size its'.toArray.size)).all (fun i=>deq (l.getD i .non) (m.getD i .non))&&its.toArray.size==its'.toArray.size):=by
      simp only[deq,deqs_range,List.size_toArray,rl.length,rl'.length]
     rw[e];exact this
    refine⟨?_,key⟩
    by_cases hab:a=b
    ·subst hab
     have:=rd_inj I (n+1) hx hy rx ry
     rw[←this,deq_refl hx];exact EqAt.same _
    ·exact EqAt.of_refs hab key
   | fls m =>
    obtain⟨b,its',rfl,rl',p'⟩:=rd_lst I ry
    exact⟨EqAt.tuple_list p p' hu0,RcAt.tuple_list p p' hu0⟩
   | _=>cases hy
  | fls l =>
   obtain⟨a,its,rfl,rl,p⟩:=rd_lst I rx
   cases y with
   | non=>rw[v_non ry];exact⟨EqAt.list_none p hu0,RcAt.list_none p hu0⟩
   | bl b=>rw[v_bl ry];exact⟨EqAt.list_bool b p hu0,RcAt.list_bool b p hu0⟩
   | int b=>obtain⟨t,rfl⟩:=v_int ry;exact⟨EqAt.list_int b t p hu0,RcAt.list_int b t p hu0⟩
   | str b=>obtain⟨t,rfl⟩:=v_str ry;exact⟨EqAt.list_str b t p hu0,RcAt.list_str b t p hu0⟩
   | tup m =>
    obtain⟨b,its',rfl,rl',p'⟩:=rd_tup I ry
    exact⟨EqAt.list_tuple p p' hu0,RcAt.list_tuple p p' hu0⟩
   | fls m =>
    obtain⟨b,its',rfl,rl',p'⟩:=rd_lst I ry
    have key:RcAt A s (.ref a) (.ref b) (deq (.fls l) (.fls m)):=by
     by_cases hs:its.length=its'.length
     ·have:=RcAt.lists (e:=fun i=>deq (l.getD i .non) (m.getD i .non)) p p' (by simpa using hs) hu0 fun j h1 h2=>by
       have h1':j<its.length:=by simpa using h1
       have h2':j<its'.length:=by simpa using h2
       obtain⟨x,ex,rx'⟩:=rl.get (List.getElem?_eq_getElem h1')
       obtain⟨y,ey,ry'⟩:=rl'.get (List.getElem?_eq_getElem h2')
       have q:=ih hu1 (List.all_eq_true.mp hx x (List.mem_of_getElem? ex)) (List.all_eq_true.mp hy y (List.mem_of_getElem? ey)) rx'.rd ry'.rd
       have e1:l.getD j .non=x:=by rw[List.getD_eq_getElem?_getD,ex];rfl
       have e2:m.getD j .non=y:=by rw[List.getD_eq_getElem?_getD,ey];rfl
       rw[e1,e2]
       simpa using q.1
      have e:deq (.fls l) (.fls m)=(List.range its.toArray.size).all (fun i=>deq (l.getD i .non) (m.getD i .non)):=by
       have e0:l.length=m.length:=by rw[←rl.length,← rl'.length];exact hs
       simp[deq,deqs_range,rl.length,e0]
      rw[e];exact this
     ·have e:deq (.fls l) (.fls m)=false:=by
       have e0:l.length≠m.length:=by rw[←rl.length,← rl'.length];exact hs
       simp[deq,deqs_range,e0]
      rw[e]
      exact RcAt.lists_lengths p p' (by simpa using hs) hu0
    refine⟨?_,key⟩
    by_cases hab:a=b
    ·subst hab
     have:=rd_inj I (n+1) hx hy rx ry
     rw[←this,deq_refl hx];exact EqAt.same _
    ·exact EqAt.of_refs hab key
   | _=>cases hy
  | ref a=>cases hx
  | oth a=>cases hx
  | non =>
   cases y with
   | tup m=>obtain⟨b,its',rfl,rl',p'⟩:=rd_tup I ry;rw[v_non rx];exact⟨EqAt.none_tuple p' hu0,RcAt.none_tuple p' hu0⟩
   | fls m=>obtain⟨b,its',rfl,rl',p'⟩:=rd_lst I ry;rw[v_non rx];exact⟨EqAt.none_list p' hu0,RcAt.none_list p' hu0⟩
   | ref a=>cases hy
   | oth a=>cases hy
   | _=>exact ih (by omega) (by cases n<;>rfl) (by cases n<;>rfl) rx ry
  | bl i =>
   cases y with
   | tup m=>obtain⟨b,its',rfl,rl',p'⟩:=rd_tup I ry;rw[v_bl rx];exact⟨EqAt.bool_tuple i p' hu0,RcAt.bool_tuple i p' hu0⟩
   | fls m=>obtain⟨b,its',rfl,rl',p'⟩:=rd_lst I ry;rw[v_bl rx];exact⟨EqAt.bool_list i p' hu0,RcAt.bool_list i p' hu0⟩
   | ref a=>cases hy
   | oth a=>cases hy
   | _=>exact ih (by omega) (by cases n<;>rfl) (by cases n<;>rfl) rx ry
  | int i =>
   cases y with
   | tup m=>obtain⟨b,its',rfl,rl',p'⟩:=rd_tup I ry;obtain⟨t,rfl⟩:=v_int rx;exact⟨EqAt.int_tuple i t p' hu0,RcAt.int_tuple i t p' hu0⟩
   | fls m=>obtain⟨b,its',rfl,rl',p'⟩:=rd_lst I ry;obtain⟨t,rfl⟩:=v_int rx;exact⟨EqAt.int_list i t p' hu0,RcAt.int_list i t p' hu0⟩
   | ref a=>cases hy
   | oth a=>cases hy
   | _=>exact ih (by omega) (by cases n<;>rfl) (by cases n<;>rfl) rx ry
  | str i =>
   cases y with
   | tup m=>obtain⟨b,its',rfl,rl',p'⟩:=rd_tup I ry;obtain⟨t,rfl⟩:=v_str rx;exact⟨EqAt.str_tuple i t p' hu0,RcAt.str_tuple i t p' hu0⟩
   | fls m=>obtain⟨b,its',rfl,rl',p'⟩:=rd_lst I ry;obtain⟨t,rfl⟩:=v_str rx;exact⟨EqAt.str_list i t p' hu0,RcAt.str_list i t p' hu0⟩
   | ref a=>cases hy
   | oth a=>cases hy
   | _=>exact ih (by omega) (by cases n<;>rfl) (by cases n<;>rfl) rx ry
end
end U
set_option linter.all false
set_option maxRecDepth 100000
set_option maxHeartbeats 4000000
namespace U
open PySem PySem.Spec PyProof.Rows L2
variable {B:Bs}
section
variable {X:Cx}{pins:List (Addr×Obj)}{σ:L2.St}{H:Hp}{s:Shared}
open SeqAt in
theorem ne_core(I:Inv X pins σ H s):∀(n:Nat) {A:Around} {x y:PV} {u w:Value},A.units+n<cLine->flat n x=true->flat n y=true->RD X.K H x u->RD X.K H y w->RcNeAt A s u w (!deq x y):=by
 have sc:∀{x:PV} {u:Value},RD X.K H x u->(∀l,x≠.fls l)->RR X.K H x u:=fun {x u} r h=>by
  cases x with
  | fls l=>exact absurd rfl (h l)
  | _=>exact r
 have v_non:∀{u:Value},RD X.K H .non u->u=.none:=fun {u} r=>by
  obtain⟨v,r1,r2⟩:=sc r (by intro l z;cases z);simp only[RP]at r1;subst r1;exact r2
 have v_bl:∀{b:Bool} {u:Value},RD X.K H (.bl b) u->u=.bool b:=fun {b u} r=>by
  obtain⟨v,r1,r2⟩:=sc r (by intro l z;cases z);simp only[RP]at r1;subst r1;exact r2
 have v_int:∀{i:Int} {u:Value},RD X.K H (.int i) u->∃t,u=.int i t:=fun {b u} r=>by
  obtain⟨v,r1,r2⟩:=sc r (by intro l z;cases z);simp only[RP]at r1;subst r1;exact r2
 have v_str:∀{i:Str} {u:Value},RD X.K H (.str i) u->∃t,u=.str i t:=fun {b u} r=>by
  obtain⟨v,r1,r2⟩:=sc r (by intro l z;cases z);simp only[RP]at r1;subst r1;exact r2
 intro n
 induction n with
 | zero =>
  intro A x y u w hu hx hy rx ry
  cases x with
  | non =>
   rw[v_non rx]
   cases y with
   | non=>rw[v_non ry];exact RcNeAt.none_none
   | bl b=>rw[v_bl ry];exact RcNeAt.none_bool b
   | int b=>obtain⟨t,rfl⟩:=v_int ry;exact RcNeAt.none_int b t
   | str b=>obtain⟨t,rfl⟩:=v_str ry;exact RcNeAt.none_str b t
   | _=>cases hy
  | bl a =>
   rw[v_bl rx]
   cases y with
   | non=>rw[v_non ry];exact RcNeAt.bool_none a
   | bl b=>rw[v_bl ry];exact RcNeAt.bool_bool a b
   | int b=>obtain⟨t,rfl⟩:=v_int ry;exact RcNeAt.bool_int a b t
   | str b=>obtain⟨t,rfl⟩:=v_str ry;exact RcNeAt.bool_str a b t
   | _=>cases hy
  | int a =>
   obtain⟨t0,rfl⟩:=v_int rx
   cases y with
   | non=>rw[v_non ry];exact RcNeAt.int_none a t0
   | bl b=>rw[v_bl ry];exact RcNeAt.int_bool a t0 b
   | int b=>obtain⟨t,rfl⟩:=v_int ry;exact RcNeAt.int_int a t0 b t
   | str b=>obtain⟨t,rfl⟩:=v_str ry;exact RcNeAt.int_str a t0 b t
   | _=>cases hy
  | str a =>
   obtain⟨t0,rfl⟩:=v_str rx
   cases y with
   | non=>rw[v_non ry];exact RcNeAt.str_none a t0
   | bl b=>rw[v_bl ry];exact RcNeAt.str_bool a t0 b
   | int b=>obtain⟨t,rfl⟩:=v_int ry;exact RcNeAt.str_int a t0 b t
   | str b=>obtain⟨t,rfl⟩:=v_str ry;exact RcNeAt.str_str a t0 b t
   | _=>cases hy
  | _=>cases hx
 | succ n ih =>
  intro A x y u w hu hx hy rx ry
  have hu0:A.units<cLine:=by omega
  have hu1:A.in1.units+n<cLine:=by show A.units+1+n<cLine;omega
  cases x with
  | tup l =>
   obtain⟨a,its,rfl,rl,p⟩:=rd_tup I rx
   cases y with
   | non=>rw[v_non ry];exact RcNeAt.tuple_none p hu0
   | bl b=>rw[v_bl ry];exact RcNeAt.tuple_bool b p hu0
   | int b=>obtain⟨t,rfl⟩:=v_int ry;exact RcNeAt.tuple_int b t p hu0
   | str b=>obtain⟨t,rfl⟩:=v_str ry;exact RcNeAt.tuple_str b t p hu0
   | tup m =>
    obtain⟨b,its',rfl,rl',p'⟩:=rd_tup I ry
    have key:RcNeAt A s (.ref a) (.ref b) (!deq (.tup l) (.tup m)):=by
     have:=RcNeAt.tuples (e:=fun i=>deq (l.getD i .non) (m.getD i .non)) p p' hu0 fun j h1 h2=>by
      have h1':j<its.length:=by simpa using h1
      have h2':j<its'.length:=by simpa using h2
      obtain⟨x,ex,rx'⟩:=rl.get (List.getElem?_eq_getElem h1')
      obtain⟨y,ey,ry'⟩:=rl'.get (List.getElem?_eq_getElem h2')
      have q:=eq_core I n hu1 (List.all_eq_true.mp hx x (List.mem_of_getElem? ex)) (List.all_eq_true.mp hy y (List.mem_of_getElem? ey)) rx'.rd ry'.rd
      have e1:l.getD j .non=x:=by rw[List.getD_eq_getElem?_getD,ex];rfl
      have e2:m.getD j .non=y:=by rw[List.getD_eq_getElem?_getD,ey];rfl
      rw[e1,e2]
      simpa using q.1
     have e:deq (.tup l) (.tup m)=((List.range (min its.toArray.size its'.toArray.size)).all (fun i=>deq (l.getD i .non) (m.getD i .non))&&its.toArray.size==its'.toArray.size):=by
      simp only[deq,deqs_range,List.size_toArray,rl.length,rl'.length]
     rw[e];exact this
    exact key
   | fls m =>
    obtain⟨b,its',rfl,rl',p'⟩:=rd_lst I ry
    exact RcNeAt.tuple_list p p' hu0
   | _=>cases hy
  | fls l =>
   obtain⟨a,its,rfl,rl,p⟩:=rd_lst I rx
   cases y with
   | non=>rw[v_non ry];exact RcNeAt.list_none p hu0
   | bl b=>rw[v_bl ry];exact RcNeAt.list_bool b p hu0
   | int b=>obtain⟨t,rfl⟩:=v_int ry;exact RcNeAt.list_int b t p hu0
   | str b=>obtain⟨t,rfl⟩:=v_str ry;exact RcNeAt.list_str b t p hu0
   | tup m =>
    obtain⟨b,its',rfl,rl',p'⟩:=rd_tup I ry
    exact RcNeAt.list_tuple p p' hu0
   | fls m =>
    obtain⟨b,its',rfl,rl',p'⟩:=rd_lst I ry
    have key:RcNeAt A s (.ref a) (.ref b) (!deq (.fls l) (.fls m)):=by
     by_cases hs:its.length=its'.length
     ·have:=RcNeAt.lists (e:=fun i=>deq (l.getD i .non) (m.getD i .non)) p p' (by simpa using hs) hu0 fun j h1 h2=>by
       have h1':j<its.length:=by simpa using h1
       have h2':j<its'.length:=by simpa using h2
       obtain⟨x,ex,rx'⟩:=rl.get (List.getElem?_eq_getElem h1')
       obtain⟨y,ey,ry'⟩:=rl'.get (List.getElem?_eq_getElem h2')
       have q:=eq_core I n hu1 (List.all_eq_true.mp hx x (List.mem_of_getElem? ex)) (List.all_eq_true.mp hy y (List.mem_of_getElem? ey)) rx'.rd ry'.rd
       have e1:l.getD j .non=x:=by rw[List.getD_eq_getElem?_getD,ex];rfl
       have e2:m.getD j .non=y:=by rw[List.getD_eq_getElem?_getD,ey];rfl
       rw[e1,e2]
       simpa using q.1
      have e:deq (.fls l) (.fls m)=(List.range its.toArray.size).all (fun i=>deq (l.getD i .non) (m.getD i .non)):=by
       have e0:l.length=m.length:=by rw[←rl.length,← rl'.length];exact hs
       simp[deq,deqs_range,rl.length,e0]
      rw[e];exact this
     ·have e:deq (.fls l) (.fls m)=false:=by
       have e0:l.length≠m.length:=by rw[←rl.length,← rl'.length];exact hs
       simp[deq,deqs_range,e0]
      rw[e]
      exact RcNeAt.lists_lengths p p' (by simpa using hs) hu0
    exact key
   | _=>cases hy
  | ref a=>cases hx
  | oth a=>cases hx
  | non =>
   cases y with
   | tup m=>obtain⟨b,its',rfl,rl',p'⟩:=rd_tup I ry;rw[v_non rx];exact RcNeAt.none_tuple p' hu0
   | fls m=>obtain⟨b,its',rfl,rl',p'⟩:=rd_lst I ry;rw[v_non rx];exact RcNeAt.none_list p' hu0
   | ref a=>cases hy
   | oth a=>cases hy
   | _=>exact ih (by omega) (by cases n<;>rfl) (by cases n<;>rfl) rx ry
  | bl i =>
   cases y with
   | tup m=>obtain⟨b,its',rfl,rl',p'⟩:=rd_tup I ry;rw[v_bl rx];exact RcNeAt.bool_tuple i p' hu0
   | fls m=>obtain⟨b,its',rfl,rl',p'⟩:=rd_lst I ry;rw[v_bl rx];exact RcNeAt.bool_list i p' hu0
   | ref a=>cases hy
   | oth a=>cases hy
   | _=>exact ih (by omega) (by cases n<;>rfl) (by cases n<;>rfl) rx ry
  | int i =>
   cases y with
   | tup m=>obtain⟨b,its',rfl,rl',p'⟩:=rd_tup I ry;obtain⟨t,rfl⟩:=v_int rx;exact RcNeAt.int_tuple i t p' hu0
   | fls m=>obtain⟨b,its',rfl,rl',p'⟩:=rd_lst I ry;obtain⟨t,rfl⟩:=v_int rx;exact RcNeAt.int_list i t p' hu0
   | ref a=>cases hy
   | oth a=>cases hy
   | _=>exact ih (by omega) (by cases n<;>rfl) (by cases n<;>rfl) rx ry
  | str i =>
   cases y with
   | tup m=>obtain⟨b,its',rfl,rl',p'⟩:=rd_tup I ry;obtain⟨t,rfl⟩:=v_str rx;exact RcNeAt.str_tuple i t p' hu0
   | fls m=>obtain⟨b,its',rfl,rl',p'⟩:=rd_lst I ry;obtain⟨t,rfl⟩:=v_str rx;exact RcNeAt.str_list i t p' hu0
   | ref a=>cases hy
   | oth a=>cases hy
   | _=>exact ih (by omega) (by cases n<;>rfl) (by cases n<;>rfl) rx ry
def RDv(K:PySem.W.Frag)(H:Hp)(d:PV)(x:V):Prop:=match d with
 | .fls l=>∃a vs,x=.ref a/\SqL K H a vs/\RPs K H l vs
 | d=>RP K H d x
theorem RDv.rd{K:PySem.W.Frag}{d:PV}{x:V}{u:Value}(h:RDv K H d x)(r:L2.RelV x u):RD K H d u:=by
 cases d with
 | fls l=>obtain⟨a,vs,rfl,q,rr⟩:=h;cases r;exact⟨a,vs,rfl,q,rr⟩
 | _=>exact⟨x,h,r⟩
def withD(x:PV)(H:PHp)(k:PV->Prop):Prop:=match x with
 | .ref a=>∃l,H a=some (.lst l)/\k (.fls l)
 | x=>k x
theorem withD.ex{K:PySem.W.Frag}{σ':St'}{x:PV}{v:V}{H':PHp}{k:PV->Prop}(h:withD x H' k)(s:SR K B σ' H' σ H)(r:RP K H x v):∃d,RDv K H d v/\k d:=by
 cases x with
 | ref a =>
  obtain⟨l,e,h⟩:=h
  obtain⟨us,q,r2⟩:=s.hp _ _ e
  simp only[RP]at r
  exact⟨.fls l,⟨a,us,r,SqL.of q,r2⟩,h⟩
 | fls l =>
  simp only[RP]at r
  obtain⟨a,us,e,q,r⟩:=r
  exact⟨.fls l,⟨a,us,e,q.sq,r⟩,h⟩
 | non=>exact⟨.non,r,h⟩
 | bl b=>exact⟨.bl b,r,h⟩
 | int b=>exact⟨.int b,r,h⟩
 | str b=>exact⟨.str b,r,h⟩
 | tup b=>exact⟨.tup b,r,h⟩
 | oth b=>exact⟨.oth b,r,h⟩
def rEqU(K:PySem.W.Frag)(g:Bool->Bool):R2:=fun x y H Q=>∃d1 d2,flat 9 d1=true/\flat 9 d2=true/\RDv K H d1 x/\RDv K H d2 y/\Q (.bl (g (deq d1 d2))) H
theorem op_eqU(hu:X.A.units+64<cLine):OpR X (compareOp .Eq) (rEqU X.K fun b=>b):=by
 intro pins s σ H x y v u Q I rx ry h
 obtain⟨d1,d2,f1,f2,r1,r2,q⟩:=h
 exact(eq_core I 9 (by omega) f1 f2 (r1.rd rx) (r2.rd ry)).2 _ _ _ _ ⟨.bl _,H,I,rfl,q⟩
theorem op_neU(hu:X.A.units+64<cLine):OpR X (compareOp .NotEq) (rEqU X.K fun b=>!b):=by
 intro pins s σ H x y v u Q I rx ry h
 obtain⟨d1,d2,f1,f2,r1,r2,q⟩:=h
 exact ne_core I 9 (by omega) f1 f2 (r1.rd rx) (r2.rd ry) _ _ _ _ ⟨.bl _,H,I,rfl,q⟩
def uEqG(g:Bool->Bool):R2':=fun x y H Q=>withD x H fun d1=>withD y H fun d2=>flat 9 d1=true/\flat 9 d2=true/\Q (.bl (g (deq d1 d2))) H
theorem vr_eq{K:PySem.W.Frag}{g:Bool->Bool}:VR K B (uEqG g) (rEqU K g):=by
 intro σ' σ H' H x' y' x y Q' Q s rx ry h k
 obtain⟨d1,r1,h1⟩:=withD.ex h s rx
 obtain⟨d2,r2,f1,f2,q⟩:=withD.ex h1 s ry
 exact⟨d1,d2,f1,f2,r1,r2,k _ H' _ H q (by simp[RP]) s (Ev.refl _ _)⟩
def rInU(K:PySem.W.Frag)(g:Bool->Bool):R2:=fun x y H Q=>∃d p l us,flat 8 d=true/\RDv K H d x/\y=.ref p/\l.all (flat 8)=true/\RPs K H l us/\(SqL K H p us∨SqT K H p us)/\Q (.bl (g (l.any fun z=>deq z d))) H
open Classical in
theorem in_items(I:Inv X pins σ H s){A:Around}{d:PV}{v:Value}{l:List PV}{its:List Value}(hu:A.units+20<cLine)(fd:flat 8 d=true)(rd:RD X.K H d v)(fl:l.all (flat 8)=true)(rl:RL X.K H l its) :
  ∃e:Value->Bool,(∀y,y∈its.toArray->SeqAt.EqAt A.in1 s y v (e y))/\its.toArray.any e=l.any fun z=>deq z d:=by
 refine⟨fun u=>decide (∃z,flat 8 z=true/\RD X.K H z u/\deq z d=true),fun y hy=>?_,?_⟩
 ·have hy':y∈its:=by simpa using hy
  obtain⟨i,hi⟩:=List.mem_iff_getElem?.mp hy'
  obtain⟨z,ez,rz⟩:=rl.get hi
  have fz:=List.all_eq_true.mp fl z (List.mem_of_getElem? ez)
  have q:=(eq_core I 8 (A:=A.in1) (by show A.units+1+8<cLine;omega) fz fd rz.rd rd).1
  have e:decide (∃z,flat 8 z=true/\RD X.K H z y/\deq z d=true)=deq z d:=by
   rw[Bool.eq_iff_iff,decide_eq_true_iff]
   constructor
   ·rintro⟨z',f',r',e'⟩
    rw[rd_inj I 8 fz f' rz.rd r'];exact e'
   ·intro e;exact⟨z,fz,rz.rd,e⟩
  show SeqAt.EqAt A.in1 s y v (decide _)
  rw[e];exact q
 ·rw[Bool.eq_iff_iff]
  simp only[List.any_toArray,List.any_eq_true,decide_eq_true_iff]
  constructor
  ·rintro⟨u,hu',z,fz,rz,ez⟩
   obtain⟨i,hi⟩:=List.mem_iff_getElem?.mp hu'
   obtain⟨z2,ez2,rz2⟩:=rl.get hi
   have fz2:=List.all_eq_true.mp fl z2 (List.mem_of_getElem? ez2)
   refine⟨z2,List.mem_of_getElem? ez2,?_⟩
   rw[rd_inj I 8 fz2 fz rz2.rd rz];exact ez
  ·rintro⟨z,hz,ez⟩
   obtain⟨i,hi⟩:=List.mem_iff_getElem?.mp hz
   have hlt:i<its.length:=by
    have:=(List.getElem?_eq_some_iff.mp hi).1
    rw[rl.length];exact this
   obtain⟨z2,ez2,rz2⟩:=rl.get (List.getElem?_eq_getElem hlt)
   rw[hi]at ez2;cases ez2
   exact⟨_,List.getElem_mem hlt,z,List.all_eq_true.mp fl z hz,rz2.rd,ez⟩
theorem op_inU(hu:X.A.units+64<cLine):OpR X (compareOp .In) (rInU X.K fun b=>b):=by
 intro pins s σ H x y v u Q I rx ry h
 obtain⟨d,p,l,us,fd,rd,rfl,fl,rl,hq,q⟩:=h
 cases ry
 rcases hq with hq | hq
 ·obtain⟨its,rv,pl,_⟩:=I.list hq
  obtain⟨e,h1,h2⟩:=in_items I (A:=X.A) (by omega) fd (rd.rd rx) fl ⟨us,rl,rv⟩
  exact SeqAt.in_listAt e pl.isList h1 (by rw[h2];exact⟨.bl _,H,I,rfl,q⟩)
 ·obtain⟨its,rv,pl,_⟩:=I.tuple hq
  obtain⟨e,h1,h2⟩:=in_items I (A:=X.A) (by omega) fd (rd.rd rx) fl ⟨us,rl,rv⟩
  exact SeqAt.in_tupleAt e pl h1 (by rw[h2];exact⟨.bl _,H,I,rfl,q⟩)
theorem op_notInU(hu:X.A.units+64<cLine):OpR X (compareOp .NotIn) (rInU X.K fun b=>!b):=by
 intro pins s σ H x y v u Q I rx ry h
 obtain⟨d,p,l,us,fd,rd,rfl,fl,rl,hq,q⟩:=h
 cases ry
 rcases hq with hq | hq
 ·obtain⟨its,rv,pl,_⟩:=I.list hq
  obtain⟨e,h1,h2⟩:=in_items I (A:=X.A) (by omega) fd (rd.rd rx) fl ⟨us,rl,rv⟩
  exact SeqAt.notIn_listAt e pl.isList h1 (by rw[h2];exact⟨.bl _,H,I,rfl,q⟩)
 ·obtain⟨its,rv,pl,_⟩:=I.tuple hq
  obtain⟨e,h1,h2⟩:=in_items I (A:=X.A) (by omega) fd (rd.rd rx) fl ⟨us,rl,rv⟩
  exact SeqAt.notIn_tupleAt e pl h1 (by rw[h2];exact⟨.bl _,H,I,rfl,q⟩)
def uInG(g:Bool->Bool):R2':=fun x y H Q=>withD x H fun d=>withS y H fun l=>flat 8 d=true/\l.all (flat 8)=true/\Q (.bl (g (l.any fun z=>deq z d))) H
theorem vr_in{K:PySem.W.Frag}{g:Bool->Bool}:VR K B (uInG g) (rInU K g):=by
 intro σ' σ H' H x' y' x y Q' Q s rx ry h k
 obtain⟨d1,r1,h1⟩:=withD.ex h s rx
 obtain⟨l,us,p,rfl,r2,hq,f1,f2,q⟩:=withS.ex h1 s ry
 exact⟨d1,p,l,us,f1,r1,rfl,f2,r2,hq,k _ H' _ H q (by simp[RP]) s (Ev.refl _ _)⟩
def uIsN(g:Bool->Bool):R2':=fun x y H Q=>match y,x with
 | .non,.non=>Q (.bl (g true)) H
 | .non,.oth _=>False
 | .non,_=>Q (.bl (g false)) H
 | _,_=>False
theorem isN_ex{K:PySem.W.Frag}{g:Bool->Bool}{x y:PV}{v w:V}{H':PHp}{Q':VK'}(h:uIsN g x y H' Q')(rx:RP K H x v)(ry:RP K H y w):w=.non/\Q' (.bl (g (decide (v=.non)))) H':=by
 cases y with
 | non =>
  simp only[RP]at ry
  refine⟨ry,?_⟩
  cases x with
  | non=>simp only[RP]at rx;subst rx;exact h
  | oth _=>exact h.elim
  | tup l =>
   simp only[RP]at rx
   obtain⟨a,us,rfl,_⟩:=rx
   exact h
  | fls l =>
   simp only[RP]at rx
   obtain⟨a,us,rfl,_⟩:=rx
   exact h
  | _=>simp only[RP]at rx;subst rx;exact h
 | _=>cases x<;>exact h.elim
theorem vr_notN{K:PySem.W.Frag}:VR K B (uIsN fun b=>!b) (fun x y H Q=>y=.non/\Q (.bl (!decide (x=.non))) H):=by
 intro σ' σ H' H x' y' x y Q' Q s rx ry h k
 obtain⟨e,q⟩:=isN_ex h rx ry
 exact⟨e,k _ H' _ H q (by simp[RP]) s (Ev.refl _ _)⟩
inductive BT where | non | bool | int | str | list | tuple
def BT.nm:BT->String | .non=>"NoneType" | .bool=>"bool" | .int=>"int" | .str=>"str" | .list=>"list" | .tuple=>"tuple"
def BT.sub:BT->BT->Bool
 | .non,.non=>true | .bool,.bool=>true | .int,.int=>true | .str,.str=>true | .list,.list=>true | .tuple,.tuple=>true
 | .bool,.int=>true
 | _,_=>false
theorem kit_bt(K:PySem.W.Frag)(t c:BT):PySem.W.kitOne K (.type t.nm) (.type c.nm)=some (t.sub c):=by
 cases t<;>cases c<;>kernel_rfl
def btV(K:PySem.W.Frag)(H:Hp)(t:BT)(x:V):Prop:=match t with
 | .non=>x=.non
 | .bool=>∃b,x=.bl b
 | .int=>∃b,x=.int b
 | .str=>∃b,x=.str b
 | .list=>∃a us,x=.ref a/\SqL K H a us
 | .tuple=>∃a us,x=.ref a/\SqT K H a us
theorem call_isiB(c:BT):CallR X (.builtin "isinstance") (fun xs H Q=>∃x t,xs=[x,.ty c.nm]/\btV X.K H t x/\Q (.bl (t.sub c)) H):=by
 intro pins s σ H xs us Q I r h
 obtain⟨x,t,rfl,ht,q⟩:=h
 obtain⟨u,w',rfl,rx,rc⟩:=vals2 r
 have e1:w'=Value.type c.nm:=rc
 subst e1
 have k:=kit_bt X.K t c
 have fin:∀tk,EP X pins σ Q (.bool (t.sub c)) { s with toks:=tk }:=fun tk=>⟨.bl _,H,I.tok _,rfl,q⟩
 cases t with
 | non=>cases (show x=V.non from ht);exact isinst_ok I rx .non k fin
 | bool=>obtain⟨b,rfl⟩:=ht;exact isinst_ok I rx (.bl b) k fin
 | int=>obtain⟨b,rfl⟩:=ht;exact isinst_ok I rx (.int b) k fin
 | str=>obtain⟨b,rfl⟩:=ht;exact isinst_ok I rx (.str b) k fin
 | list =>
  obtain⟨a,us,rfl,hq⟩:=ht
  cases rx
  obtain⟨its,rv,pl,_⟩:=I.list hq
  obtain⟨o,e,hc,_⟩:=pl.isList
  exact PySem.W.kia_one PySem.W.kitx_list I.kIn ⟨o,e,hc⟩ k (fun z=>nomatch z) fin
 | tuple =>
  obtain⟨a,us,rfl,hq⟩:=ht
  cases rx
  obtain⟨its,rv,pl,_⟩:=I.tuple hq
  obtain⟨o,e,hc,_⟩:=pl
  exact PySem.W.kia_one PySem.W.kitx_tuple I.kIn ⟨o,e,hc⟩ k (fun z=>nomatch z) fin
def withTy(x:PV)(H:PHp)(k:BT->Prop):Prop:=match x with
 | .non=>k .non
 | .bl _=>k .bool
 | .int _=>k .int
 | .str _=>k .str
 | .tup _=>k .tuple
 | .fls _=>k .list
 | .ref a=>∃l,H a=some (.lst l)/\k .list
 | _=>False
theorem withTy.ex{K:PySem.W.Frag}{σ':St'}{x:PV}{v:V}{H':PHp}{k:BT->Prop}(h:withTy x H' k)(s:SR K B σ' H' σ H)(r:RP K H x v):∃t,btV K H t v/\k t:=by
 cases x with
 | non=>simp only[RP]at r;exact⟨.non,r,h⟩
 | bl b=>simp only[RP]at r;exact⟨.bool,⟨b,r⟩,h⟩
 | int b=>simp only[RP]at r;exact⟨.int,⟨b,r⟩,h⟩
 | str b=>simp only[RP]at r;exact⟨.str,⟨b,r⟩,h⟩
 | tup l=>simp only[RP]at r;obtain⟨a,us,e,q,_⟩:=r;exact⟨.tuple,⟨a,us,e,q⟩,h⟩
 | fls l=>simp only[RP]at r;obtain⟨a,us,e,q,_⟩:=r;exact⟨.list,⟨a,us,e,q.sq⟩,h⟩
 | ref a =>
  simp only[RP]at r
  obtain⟨l,e,h⟩:=h
  obtain⟨us,q,_⟩:=s.hp _ _ e
  exact⟨.list,⟨a,us,r,SqL.of q⟩,h⟩
 | oth _=>exact h.elim
def uIsi(c:BT):List PV->PHp->VK'->Prop:=fun xs H Q=>match xs with
 | [x,.oth (.ty n)]=>n=c.nm/\withTy x H fun t=>Q (.bl (t.sub c)) H
 | _=>False
theorem vc_isi{K:PySem.W.Frag}(c:BT):VC K B (uIsi c) (fun xs H Q=>∃x t,xs=[x,.ty c.nm]/\btV K H t x/\Q (.bl (t.sub c)) H):=by
 intro σ' σ H' H xs' xs Q' Q s r h k
 unfold uIsi at h
 split at h
 ·rename_i x n
  obtain⟨rfl,h⟩:=h
  simp only[RPs,RP]at r
  obtain⟨u,r1,rfl,rx,w,r2,rfl,rfl,rfl⟩:=r
  obtain⟨t,bt,h⟩:=withTy.ex h s rx
  exact⟨u,t,rfl,bt,k _ H' _ H h (by simp[RP]) s (Ev.refl _ _)⟩
 ·exact h.elim
theorem qe_bty{x:Str}{n:String}{pos:Pos}(hg:Gl X x)(hm:X.mg x=none)(hv:bootBuiltins x=some (.type n))(hn:x≠"__name__":=by decide)(hd:(x==("__debug__":Str))=false:=by decide):PE' X B (.Name x pos) (uC (.oth (.ty n))) :=
 pe_imp (pe_bltn (v:=.ty n) hg hm hv rfl hn hd) fun _ _ _ h=>lowC (fun _=>by simp[RP]) h
variable {e o:Expr}{es:List Expr}{to:TE'}{t:TA'}{name:Str}{apos cpos:Pos}
def isL(x:PV)(H1:PHp):Prop:=match x with
 | .ref a=>∃l,H1 a=some (.lst l)
 | _=>False
def uBM(r:PV->List PV->PHp->VK'->Prop)(to:TE')(t:TA'):TE':=fun σ H Q=>to σ H fun x H1=>isL x H1/\t σ H1 fun xs H2=>r x xs H2 Q
def uBM0(r:PV->List PV->PHp->VK'->Prop)(to:TE'):TE':=fun σ H Q=>to σ H fun x H1=>r x [] H1 Q
def VM(K:PySem.W.Frag)(B:Bs)(r':PV->List PV->PHp->VK'->Prop)(r:V->List V->Hp->VK->Prop):Prop:=∀(σ':St') (σ:L2.St) (H':PHp) (H:Hp) x' xs' x xs (Q':VK') (Q:VK),SR K B σ' H' σ H->RP K H x' x->RPs K H xs' xs->r' x' xs' H' Q' ->
 (∀v' H1' v H1,Q' v' H1'->RP K H1 v' v->SR K B σ' H1' σ H1->Ev H' H H1' H1->Q v H1)->r x xs H Q
theorem low_bm{K:PySem.W.Frag}{r':PV->List PV->PHp->VK'->Prop}{r:V->List V->Hp->VK->Prop}(v:VM K B r' r){σ:L2.St}{H:Hp}{Q:VK}(h:low K B (uBM r' to t) σ H Q):tBM K "list" r (low K B to) (lowA K B t) σ H Q:=by
 obtain⟨σ',H',Q',s,h,k⟩:=h
 refine⟨σ',H',_,s,h,fun x' H1' x H1 h1 rx s1 e1=>?_⟩
 obtain⟨ty,h1⟩:=h1
 constructor
 ·cases x' with
  | ref a =>
   obtain⟨l,e⟩:=ty
   obtain⟨us,q,_⟩:=s1.hp _ _ e
   simp only[RP]at rx
   subst rx
   exact .inl ⟨rfl,us,SqL.of q⟩
  | _=>exact ty.elim
 ·refine⟨σ',H1',_,s1,h1,fun xs' H2' xs H2 h2 r2 s2 e2=>?_⟩
  exact v σ' σ H2' H2 x' xs' x xs Q' Q s2 (RP.kp K (e2.kp s1.hp) rx) r2 h2 fun v' H3' v H3 q rv s3 e3=>k v' H3' v H3 q rv s3 (e1.trans (e2.trans e3))
theorem qe_bm{id:String}{r':PV->List PV->PHp->VK'->Prop}{r:V->List V->Hp->VK->Prop}(slot:Slot "list" name id)(hty:typeOf (.builtin id)=pure (.type "method_descriptor"))(hm:MtR X id r)(v:VM X.K B r' r)(ho:PE' X B o to)(ha:PA' X B (e::es) t)
  (hbase:attributeBase o name X.env (eval o X.env)=eval o X.env:=by rfl)
  (hfew:((backTo cpos (starEach (e::es) X.env)).all (fun x=>!x.1)&&(backToKw cpos (keywordEach [] X.env)).all (fun x=>x.1.isSome)
   && decide ((e::es).length+([]:List Keyword).length+(if ([]:List Keyword).isEmpty then 0 else 1)<30))=true:=by rfl)
  (hline:(apos.endLine==cpos.line)=true:=by rfl) (hs:starEach (e::es) X.env=(false,eval e X.env)::starEach es X.env:=by rfl) (hplain:(backTo cpos (starEach es X.env)).any (·.1)=false:=by rfl) :
  PE' X B (.Call (.Attribute o name apos) (e::es) [] cpos) (uBM r' to t):=pe_imp (pe_bm PySem.F.plainAttrs_list slot hty hm ho ha hbase hfew hline hs hplain) fun _ _ _ h=>low_bm v h
theorem qe_bm0{id:String}{r':PV->List PV->PHp->VK'->Prop}{r:V->List V->Hp->VK->Prop}(slot:Slot "list" name id)(hty:typeOf (.builtin id)=pure (.type "method_descriptor"))(hm:MtR X id r)(v:VM X.K B r' r)
  (hl:∀x H Q,r' x [] H Q->match x with | .ref a=>∃l,H a=some (.lst l) | _=>False) (ho:PE' X B o to)
  (hbase:attributeBase o name X.env (eval o X.env)=eval o X.env:=by rfl) (hline:(apos.endLine==cpos.line)=true:=by rfl) :
  PE' X B (.Call (.Attribute o name apos) [] [] cpos) (uBM0 r' to):=pe_imp (pe_bm0 PySem.F.plainAttrs_list slot hty hm ho hbase hline) fun σ H Q h=>by
 obtain⟨σ',H',Q',s,h,k⟩:=h
 refine⟨σ',H',_,s,h,fun x' H1' x H1 h1 rx s1 e1=>?_⟩
 constructor
 ·have ty:=hl _ _ _ h1
  cases x' with
  | ref a =>
   obtain⟨l,e⟩:=ty
   obtain⟨us,q,_⟩:=s1.hp _ _ e
   simp only[RP]at rx
   subst rx
   exact .inl ⟨rfl,us,SqL.of q⟩
  | _=>exact ty.elim
 ·exact v σ' σ H1' H1 x' [] x [] Q' Q s1 rx (RPs.nil _) h1 fun v' H3' v H3 q rv s3 e3=>k v' H3' v H3 q rv s3 (e1.trans e3)
def uAppend:PV->List PV->PHp->VK'->Prop:=fun x vs H Q=>match x,vs with
 | .ref a,[y]=>∃l,H a=some (.lst l)/\l.length<sizeLine/\Q .non (put H a (.lst (l++[y])))
 | _,_=>False
theorem vm_append{K:PySem.W.Frag}:VM K B uAppend rAppend:=by
 intro σ' σ H' H x' xs' x xs Q' Q s rx r h k
 unfold uAppend at h
 split at h
 ·rename_i a y
  obtain⟨l,e,hl,h⟩:=h
  obtain⟨us,q,r2⟩:=s.hp _ _ e
  simp only[RP,RPs]at rx r
  obtain⟨u,r1,rfl,ru,rfl⟩:=r
  subst rx
  exact⟨a,us,u,rfl,rfl,q,by rw[RPs.length _ r2];exact hl,k _ _ _ _ h (by simp[RP]) (s.wr e (wrL s.hp e (RPs.append _ r2 (RPs.cons _ ru (RPs.nil _))))) (Ev.wr e)⟩
 ·exact h.elim
def uExtend:PV->List PV->PHp->VK'->Prop:=fun x vs H Q=>match x,vs with
 | .ref a,[.ref b]=>∃l m,H a=some (.lst l)/\H b=some (.lst m)/\l.length+m.length≤sizeLine/\Q .non (put H a (.lst (l++m)))
 | _,_=>False
def uPop:PV->List PV->PHp->VK'->Prop:=fun x vs H Q=>match x,vs with
 | .ref a,[]=>∃l y,H a=some (.lst l)/\l[l.length - 1]?=some y/\Q y (put H a (.lst l.dropLast))
 | _,_=>False
theorem vm_pop{K:PySem.W.Frag}:VM K B uPop rPop:=by
 intro σ' σ H' H x' xs' x xs Q' Q s rx r h k
 unfold uPop at h
 split at h
 ·rename_i a
  obtain⟨l,y,e,hl,h⟩:=h
  obtain⟨us,q,r2⟩:=s.hp _ _ e
  simp only[RP,RPs]at rx r
  subst rx;subst r
  obtain⟨u,e1,e2⟩:=RPs.get _ r2 hl
  exact⟨a,us,u,rfl,rfl,q,by rw[RPs.length _ r2];exact e1,k _ _ _ _ h (RP.kp _ (s.hp.kpw e) e2) (s.wr e (wrL s.hp e (RPs.dropLast _ r2))) (Ev.wr e)⟩
 ·exact h.elim
end
end U
set_option linter.all false
set_option maxRecDepth 100000
set_option maxHeartbeats 4000000
namespace U
open PySem L2
variable {B:Bs}
theorem rngL_drop(lo:Int)(n i:Nat)(h:i<n):(rngL lo n).drop i=PV.int (lo+(i:Nat))::(rngL lo n).drop (i+1):=by
 have hl:i<(rngL lo n).length:=by simpa[rngL]using h
 rw[List.drop_eq_getElem_cons hl]
 simp[rngL]
theorem rngL_end(lo:Int)(n:Nat):(rngL lo n).drop n=[]:=by
 apply List.drop_of_length_le
 simp[rngL]
theorem for_rng{ok:PHp->Prop}{g:TG'}{tb:TS'}{D:Ends'}{lo:Int}{n:Nat}(Pv:Nat->St'->PHp->Prop)(hd:∀σ H,Pv n σ H->ok H/\D.nx σ H)
  (hs:∀(G:St'->PHp->Prop) i σ H,i<n->Pv i σ H->(∀σ' H',Pv (i+1) σ' H'->G σ' H')->ok H/\g (.int (lo+(i:Nat))) σ H fun σ2 H2=>tb { D with nx:=G,ct:=G,bk:=D.nx } σ2 H2)
  {σ:St'} {H:PHp} (h0:Pv 0 σ H):uForL ok g tb D (rngL lo n) σ H:=by
 have key:∀(k i:Nat) {σ:St'} {H:PHp},i+k=n->Pv i σ H->uForL ok g tb D ((rngL lo n).drop i) σ H:=by
  intro k
  induction k with
  | zero =>
   intro i σ H hk p
   have:i=n:=hk
   subst this
   rw[rngL_end]
   exact hd σ H p
  | succ k ih =>
   intro i σ H hk p
   have hi:i<n:=hk▸Nat.lt_add_of_pos_right (Nat.succ_pos k)
   rw[rngL_drop lo n i hi]
   exact hs _ i σ H hi p fun σ' H' p'=>ih (i+1) ((Nat.succ_add_eq_add_succ i k).trans hk) p'
 exact key n 0 (Nat.zero_add n) h0
theorem for_at{ok:PHp->Prop}{g:TG'}{tb:TS'}{D:Ends'}{xs:List PV}(Pv:Nat->St'->PHp->Prop)(hd:∀σ H,Pv xs.length σ H->ok H/\D.nx σ H)
  (hs:∀(G:St'->PHp->Prop) i x σ H,xs[i]?=some x->Pv i σ H->(∀σ' H',Pv (i+1) σ' H'->G σ' H')->ok H/\g x σ H fun σ2 H2=>tb { D with nx:=G,ct:=G,bk:=D.nx } σ2 H2)
  {σ:St'} {H:PHp} (h0:Pv 0 σ H):uForL ok g tb D xs σ H:=by
 have key:∀(k i:Nat) {σ:St'} {H:PHp},xs.length - i=k->i≤xs.length->Pv i σ H->uForL ok g tb D (xs.drop i) σ H:=by
  intro k
  induction k with
  | zero =>
   intro i σ H hk hi p
   have:i=xs.length:=by omega
   subst this
   rw[List.drop_length]
   exact hd σ H p
  | succ k ih =>
   intro i σ H hk hi p
   have hl:i<xs.length:=by omega
   rw[List.drop_eq_getElem_cons hl]
   exact hs _ i _ σ H (List.getElem?_eq_getElem hl) p fun σ' H' p'=>ih (i+1) (by omega) (by omega) p'
 have:=key xs.length 0 (by omega) (by omega) h0
 simpa using this
theorem atI_int{m:List Int}{z:Int}(h0:0≤z)(h1:z<m.length):atI (m.map PV.int) z=some (.int (m.getD z.toNat 0)):=by
 unfold atI ixN
 rw[if_pos h0,List.length_map,if_pos h1]
 show(m.map PV.int)[z.toNat]?=_
 rw[List.getElem?_map,List.getD_eq_getElem?_getD]
 have:z.toNat<m.length:=by omega
 rw[List.getElem?_eq_getElem this]
 rfl
theorem w_V{v:PV}{k:PV->Prop}:withV (some (some v)) k=k v:=rfl
theorem w_B{b:Bool}{k:Bool->Prop}:withB (.bl b) k=k b:=rfl
theorem w_I{b:Int}{k:Int->Prop}:withI (.int b) k=k b:=rfl
theorem w_O{b:PV}{k:PV->Prop}:withO (some b) k=k b:=rfl
theorem w_St{l:List PV}{H:PHp}{k:List PV->Prop}:withS (.tup l) H k=k l:=rfl
theorem w_Sf{l:List PV}{H:PHp}{k:List PV->Prop}:withS (.fls l) H k=k l:=rfl
theorem w_Sr{a:Addr}{H:PHp}{k:List PV->Prop}:withS (.ref a) H k=∃l,H a=some (.lst l)/\k l:=rfl
theorem w_Dr{a:Addr}{H:PHp}{k:PV->Prop}:withD (.ref a) H k=∃l,H a=some (.lst l)/\k (.fls l):=rfl
theorem w_Dn{H:PHp}{k:PV->Prop}:withD .non H k=k .non:=rfl
theorem w_Db{b:Bool}{H:PHp}{k:PV->Prop}:withD (.bl b) H k=k (.bl b):=rfl
theorem w_Di{b:Int}{H:PHp}{k:PV->Prop}:withD (.int b) H k=k (.int b):=rfl
theorem w_Ds{b:Str}{H:PHp}{k:PV->Prop}:withD (.str b) H k=k (.str b):=rfl
theorem w_Dt{b:List PV}{H:PHp}{k:PV->Prop}:withD (.tup b) H k=k (.tup b):=rfl
theorem w_Df{b:List PV}{H:PHp}{k:PV->Prop}:withD (.fls b) H k=k (.fls b):=rfl
theorem w_Tn{H:PHp}{k:BT->Prop}:withTy .non H k=k .non:=rfl
theorem w_Tb{b:Bool}{H:PHp}{k:BT->Prop}:withTy (.bl b) H k=k .bool:=rfl
theorem w_Ti{b:Int}{H:PHp}{k:BT->Prop}:withTy (.int b) H k=k .int:=rfl
theorem w_Ts{b:Str}{H:PHp}{k:BT->Prop}:withTy (.str b) H k=k .str:=rfl
theorem w_Tt{b:List PV}{H:PHp}{k:BT->Prop}:withTy (.tup b) H k=k .tuple:=rfl
theorem w_Tf{b:List PV}{H:PHp}{k:BT->Prop}:withTy (.fls b) H k=k .list:=rfl
theorem w_Tr{a:Addr}{H:PHp}{k:BT->Prop}:withTy (.ref a) H k=∃l,H a=some (.lst l)/\k .list:=rfl
theorem w_Ni{b:Int}{k:Int->Prop}:intOf (.int b) k=k b:=rfl
theorem w_Nb{b:Bool}{k:Int->Prop}:intOf (.bl b) k=k (b2n b):=rfl
theorem w_Lf{l:List PV}{lo hi:Option Int}{H:PHp}{Q:VK'}:sliceOf (.fls l) lo hi H Q=∀p,H p=none->Q (.ref p) (put H p (.lst (cutP l lo hi))):=rfl
theorem w_Lr{a:Addr}{lo hi:Option Int}{H:PHp}{Q:VK'}:sliceOf (.ref a) lo hi H Q=∃l,H a=some (.lst l)/\∀p,H p=none->Q (.ref p) (put H p (.lst (cutP l lo hi))):=rfl
theorem w_Lt{l:List PV}{lo hi:Option Int}{H:PHp}{Q:VK'}:sliceOf (.tup l) lo hi H Q=(¬(HT.sIx l.length 0 lo=0/\HT.sIx l.length l.length hi=l.length)/\Q (.tup (cutP l lo hi)) H):=rfl
theorem w_Xt{l:List PV}{H:PHp}{R:It'->PHp->Prop}:itOf (.tup l) H R=R ⟨l,fun _=>True⟩ H:=rfl
theorem w_Xf{l:List PV}{H:PHp}{R:It'->PHp->Prop}:itOf (.fls l) H R=R ⟨l,fun _=>True⟩ H:=rfl
theorem w_Xr{a:Addr}{H:PHp}{R:It'->PHp->Prop}:itOf (.ref a) H R=∃l,H a=some (.lst l)/\R ⟨l,fun H=>H a=some (.lst l)⟩ H:=rfl
theorem w_1{f:PV->PHp->VK'->Prop}{x:PV}{H:PHp}{Q:VK'}:arg1 f [x] H Q=f x H Q:=rfl
theorem w_isi{c:BT}{x:PV}{n:String}{H:PHp}{Q:VK'}:uIsi c [x,.oth (.ty n)] H Q=(n=c.nm/\withTy x H fun t=>Q (.bl (t.sub c)) H):=rfl
theorem w_n0{g:Bool->Bool}{H:PHp}{Q:VK'}:uIsN g .non .non H Q=Q (.bl (g true)) H:=rfl
theorem w_n1{g:Bool->Bool}{a:Addr}{H:PHp}{Q:VK'}:uIsN g (.ref a) .non H Q=Q (.bl (g false)) H:=rfl
theorem w_n2{g:Bool->Bool}{l:List PV}{H:PHp}{Q:VK'}:uIsN g (.tup l) .non H Q=Q (.bl (g false)) H:=rfl
theorem w_n3{g:Bool->Bool}{l:Int}{H:PHp}{Q:VK'}:uIsN g (.int l) .non H Q=Q (.bl (g false)) H:=rfl
theorem w_n4{g:Bool->Bool}{l:Bool}{H:PHp}{Q:VK'}:uIsN g (.bl l) .non H Q=Q (.bl (g false)) H:=rfl
theorem w_vt{n:Nat}{t:TGs'}{l:List PV}{σ:St'}{H:PHp}{Q:St'->PHp->Prop}:vTup n t (.tup l) σ H Q=(l.length=n/\t l σ H Q):=rfl
theorem w_vc{t:TG'}{u:TGs'}{v:PV}{r:List PV}{σ:St'}{H:PHp}{Q:St'->PHp->Prop}:vCons t u (v::r) σ H Q=t v σ H fun σ' H'=>u r σ' H' Q:=rfl
theorem w_vn{σ:St'}{H:PHp}{Q:St'->PHp->Prop}:vNil [] σ H Q=(True/\Q σ H):=by simp[vNil]
theorem w_r1{t:TA'}{σ:St'}{H:PHp}{R:It'->PHp->Prop}:uRng1 t σ H R=t σ H fun vs H1=>rng1 vs H1 R:=rfl
theorem w_r1'{j:Int}{H1:PHp}{R:It'->PHp->Prop}:rng1 [.int j] H1 R=((-(2 ^ 62)≤j/\j<2 ^ 62)/\R ⟨rngL 0 j.toNat,fun _=>True⟩ H1):=rfl
theorem w_r2{t:TA'}{σ:St'}{H:PHp}{R:It'->PHp->Prop}:uRng2 t σ H R=t σ H fun vs H1=>rng2 vs H1 R:=rfl
theorem w_r2'{i j:Int}{H1:PHp}{R:It'->PHp->Prop}:rng2 [.int i,.int j] H1 R=((-(2 ^ 62)≤i/\i<2 ^ 62/\-(2 ^ 62)≤j/\j<2 ^ 62)/\R ⟨rngL i (j - i).toNat,fun _=>True⟩ H1):=rfl
theorem w_ap{a:Addr}{y:PV}{H:PHp}{Q:VK'}:uAppend (.ref a) [y] H Q=∃l,H a=some (.lst l)/\l.length<sizeLine/\Q .non (put H a (.lst (l++[y]))):=rfl
theorem w_ex{a b:Addr}{H:PHp}{Q:VK'}:uExtend (.ref a) [.ref b] H Q=∃l m,H a=some (.lst l)/\H b=some (.lst m)/\l.length+m.length≤sizeLine/\Q .non (put H a (.lst (l++m))):=rfl
theorem w_po{a:Addr}{H:PHp}{Q:VK'}:uPop (.ref a) [] H Q=∃l y,H a=some (.lst l)/\l[l.length - 1]?=some y/\Q y (put H a (.lst l.dropLast)):=rfl
theorem w_bm{r:PV->List PV->PHp->VK'->Prop}{to:TE'}{t:TA'}{σ:St'}{H:PHp}{Q:VK'}:uBM r to t σ H Q=to σ H fun x H1=>isL x H1/\t σ H1 fun xs H2=>r x xs H2 Q:=rfl
theorem w_il{a:Addr}{H:PHp}:isL (.ref a) H=∃l,H a=some (.lst l):=rfl
theorem small_size{n:Nat}(h:n≤1000):n≤sizeLine:=Nat.le_of_lt (small1000 h)
end U
namespace U
open PySem L2
theorem seq_abs{t u:TS'}{D:Ends'}{σ:St'}{H:PHp}(h:∀R:TS',R=u->uSeq t R D σ H):uSeq t u D σ H:=h u rfl
end U
set_option linter.all false
set_option maxRecDepth 100000
set_option maxHeartbeats 4000000
namespace U
open PySem PySem.Spec PyProof.Rows L2
variable {B:Bs}
def FlyAt(h:Heap)(a C T:Addr)(fl:Value):Prop :=
 ∃(oe:Obj) (vs:Array Value) (oT:Obj) (ts:Array Value) (a0:Value),h.get? a=some oe/\oe.cls=.ref C/\vs[0]?=some a0/\oe.data=.fields vs/\vs[1]?=some (.ref T)/\T≠a/\h.get? T=some oT/\oT.data=.fields ts/\ts[3]?=some fl
theorem objOk_get{P:Program}{w:World}{H:Hp}{h:Heap}{a:Addr}{o:HO}(k:ObjOk P w H h a o):∃ob,h.get? a=some ob:=by
 cases o with
 | lst _=>obtain⟨_,_,_,_,e⟩:=k;exact⟨_,e⟩
 | tup _=>obtain⟨_,_,_,o,e,_⟩:=k;exact⟨o,e⟩
 | dK _=>obtain⟨_,_,_,_,o,_,_,e,_⟩:=k;exact⟨o,e⟩
 | dT _=>obtain⟨_,_,_,_,o,_,_,e,_⟩:=k;exact⟨o,e⟩
 | set _ _=>obtain⟨o,_,_,_,e,_⟩:=k;exact⟨o,e⟩
 | ins _ _ _=>obtain⟨_,_,_,e,_⟩:=k;exact⟨_,e⟩
 | own _=>obtain⟨o,e⟩:=k;exact⟨o,e⟩
 | xd _=>obtain⟨_,⟨o,_,_,e,_⟩,_⟩:=k;exact⟨o,e⟩
 | rng _ _=>obtain⟨_,_,_,e⟩:=k;exact⟨_,e⟩
 | frz o _=>obtain⟨e,_⟩:=k;exact⟨o,e⟩
 | tbl _=>exact⟨_,k⟩
 | met _ _=>exact⟨_,k⟩
 | ext _=>obtain⟨_,⟨o,e⟩,_⟩:=k;exact⟨o,e⟩
theorem hok_none{P:Program}{w:World}{H:Hp}{h:Heap}{a:Addr}(x:HOk P w H h)(e:h.get? a=none):H a=none:=by
 cases q:H a with
 | none=>rfl
 | some o=>obtain⟨ob,z⟩:=objOk_get (x a o q);rw[e]at z;cases z
section
variable {X:Cx}{pins:List (Addr×Obj)}{σ:L2.St}{H H':Hp}{s:Shared}{h':Heap}{a C T:Addr}{fl:Value}
structure Plain (X:Cx):Prop where
 ex:X.ex=[]
 stk:X.stack=X.env::X.outer
 fr:X.env.frame=some X.env.locals
theorem Plain.frs(pl:Plain X):L2.frs X.stack=X.env.locals::X.fs:=by
 rw[pl.stk]
 show(X.env::X.outer).filterMap (·.frame)=_
 rw[List.filterMap_cons,pl.fr]
 rfl
structure XAt (X:Cx) (pins:List (Addr × Obj)) (H:Hp) (s:Shared) (a C T:Addr) (fl:Value):Prop where
 fly:FlyAt s.heap a C T fl
 ha:H a=none
 hT:H T=none
 na:X.s₀.heap.get? a=none
 nT:X.s₀.heap.get? T=none
 pin:∀p∈X.pn++pins,p.1≠a/\p.1≠T
theorem entry_none(I:Inv X pins σ H s)(pl:Plain X){b:Addr}(e:s.heap.get? b=none):X.s₀.heap.get? b=none:=by
 cases q:X.s₀.heap.get? b with
 | none=>rfl
 | some o =>
  obtain⟨o',z⟩:=I.base.there b o q (by rw[pl.ex];simp)
  rw[e]at z;cases z
theorem step_x(I:Inv X pins σ H s)(pl:Plain X)(ha:H a=none)(hT:H T=none)(na:X.s₀.heap.get? a=none)(nT:X.s₀.heap.get? T=none)(pin:∀p∈X.pn++pins,p.1≠a/\p.1≠T)
  (fa:∀o,s.heap.get? a=some o->∃vs,o.data=.fields vs) (fT:∀o,s.heap.get? T=some o->∃vs,o.data=.fields vs)
  (keep:∀b o,s.heap.get? b=some o->b∉L2.frs X.stack->b≠a->b≠T->h'.get? b=some o) (up:s.heap.UpToSlots h'):Inv X pins σ H { s with heap:=h' }:=by
 have frData:∀b o,b∈L2.frs X.stack->s.heap.get? b=some o->∀vs,o.data≠.fields vs:=fun b o hb e=>by
  obtain⟨_,o',e',hd⟩:=I.stack.mem (b:=b) hb
  rw[e]at e';cases e';exact hd
 have inFr:∀b,b=X.env.locals∨b∈X.fs->b∈L2.frs X.stack:=fun b hb=>by
  rw[pl.frs];exact List.mem_cons.mpr hb
 have neA:∀b o,s.heap.get? b=some o->(∀vs,o.data≠.fields vs)->b≠a/\b≠T:=fun b o e hd=>by
  constructor
  ·rintro rfl;obtain⟨vs,z⟩:=fa o e;exact hd vs z
  ·rintro rfl;obtain⟨vs,z⟩:=fT o e;exact hd vs z
 have any:∀b o,b≠a->b≠T->s.heap.get? b=some o->∃sl,h'.get? b=some { o with slots:=sl }:=fun b o n1 n2 e=>by
  by_cases hb:b∈L2.frs X.stack
  ·exact up b o e (frData b o hb e)
  ·exact⟨o.slots,keep b o e hb n1 n2⟩
 have entry:∀b o,X.s₀.heap.get? b=some o->b≠a/\b≠T:=fun b o e=>⟨(fun z=>by subst z;rw[na]at e;cases e),(fun z=>by subst z;rw[nT]at e;cases e)⟩
 have neL:∀b o,X.s₀.heap.get? b=some o->b≠X.env.locals:=fun b o e=>Nat.ne_of_lt (Nat.lt_of_lt_of_le (Heap.lt_size e) I.ok.above)
 have hx:∀b,b∉X.ex:=fun b=>by rw[pl.ex];simp
 have notFr:∀b o,X.s₀.heap.get? b=some o->b∉X.fs->b∉L2.frs X.stack:=fun b o e hb hm=>by
  rw[pl.frs]at hm
  rcases List.mem_cons.mp hm with z | z
  ·exact neL b o e z
  ·exact hb z
 refine⟨I.ok,I.os,I.bare,⟨fun b o e n hb hx'=>?_,fun b o e n hb hx'=>?_,I.base.free,fun b o e hx'=>?_,I.base.tups,I.base.frzs,I.base.tbls⟩,?_,fun x c e=>?_,I.free,I.freeC,fun p hp=>?_,fun b u e=>?_,I.len⟩
 ·exact keep b o (I.base.keep b o e n hb hx') (notFr b o e hb) (entry b o e).1 (entry b o e).2
 ·obtain⟨sl,e1⟩:=I.base.slot b o e n hb hx'
  obtain⟨sl',e2⟩:=any b _ (entry b o e).1 (entry b o e).2 e1
  exact⟨sl',e2⟩
 ·obtain⟨o',e1⟩:=I.base.there b o e hx'
  obtain⟨sl',e2⟩:=any b _ (entry b o e).1 (entry b o e).2 e1
  exact⟨_,e2⟩
 ·obtain⟨m,hn,hl⟩:=I.loc
  refine⟨m,up.ns hn,fun i x v e1 e2 e3=>?_⟩
  obtain⟨u,r,l⟩:=hl i x v e1 e2 e3
  refine⟨u,r,?_⟩
  rcases l with l |⟨k,c,e,o,ho,hd⟩
  ·exact .inl l
  ·have nd:∀vs,o.data≠.fields vs:=fun vs z=>by rw[hd]at z;cases z
   obtain⟨sl,q⟩:=any c o (neA c o ho nd).1 (neA c o ho nd).2 ho
   exact .inr ⟨k,c,e,_,q,hd⟩
 ·obtain⟨v,o,ho,hd⟩:=I.cell x c e
  have nd:∀vs,o.data≠.fields vs:=fun vs z=>by rw[hd]at z;cases z
  obtain⟨sl,q⟩:=any c o (neA c o ho nd).1 (neA c o ho nd).2 ho
  exact⟨v,_,q,hd⟩
 ·obtain⟨e,n,ne,nf,d⟩:=I.pin p hp
  refine⟨keep p.1 p.2 e (fun z=>?_) (pin p hp).1 (pin p hp).2,n,ne,nf,d⟩
  rw[pl.frs]at z
  rcases List.mem_cons.mp z with z | z
  ·exact ne z
  ·exact nf z
 ·refine(I.hok b u e).stay (fun c v hc q=>?_) (fun _ q=>q) fun _ _ q=>q
  have hc':∃o,H c=some o:=by
   rcases hc with rfl | hc
   ·exact⟨_,e⟩
   ·exact⟨_,hc⟩
  obtain⟨oc,ec⟩:=hc'
  refine keep c v q (fun z=>?_) (fun z=>by subst z;rw[ha]at ec;cases ec) (fun z=>by subst z;rw[hT]at ec;cases ec)
  rw[I.stkFree c z]at ec;cases ec
open PySem.W in
theorem after_x(I:Inv X pins σ H s)(pl:Plain X)(ha:H a=none)(na:X.s₀.heap.get? a=none)(pa:∀p∈X.pn++pins,p.1≠a)(fa:∀o,s.heap.get? a=some o->∃vs,o.data=.fields vs)
  (T0:Addr) (hT0:H T0=none) (nT0:X.s₀.heap.get? T0=none) (pT0:∀p∈X.pn++pins,p.1≠T0) (fT0:∀o,s.heap.get? T0=some o->∃vs,o.data=.fields vs)
  (a0:Value) (st:(hideAll s.heap (L2.frs X.stack++[a,T0])).StaysIn h') (ff:h'.FunFrames (hideAll s.heap (L2.frs X.stack++[a,T0])) X.stack) (tr:h'.TracedAtW (hideAll s.heap (L2.frs X.stack++[a,T0])) a (.ref C) a0 fl) (up:s.heap.UpToSlots h') :
  Inv X pins σ H { s with heap:=h' }/\∃T,XAt X pins H { s with heap:=h' } a C T fl:=by
 have I':Inv X pins σ H { s with heap:=h' }:=step_x I pl ha hT0 na nT0 (fun p hp=>⟨pa p hp,pT0 p hp⟩) fa fT0 (fun b o e n1 n2 n3=>st b o (hideAll_get _ e (by simp[n1,n2,n3]))) up
 refine⟨I',?_⟩
 obtain⟨oe,vs,T,oT,ts,e1,⟨e2,e3⟩,e4,e5,e6,e7,e8,e9,e10⟩:=tr
 have key:T=T0∨s.heap.get? T=none:=by
  by_cases hT:T=T0
  ·exact .inl hT
  ·right
   cases q:s.heap.get? T with
   | none=>rfl
   | some o =>
    have nfr:T∉L2.frs X.stack:=fun hm=>by
     obtain⟨_,o',e',hd⟩:=ff.mem (b:=T) hm
     rw[e8]at e';cases e';exact hd ts e9
    have:=hideAll_get (L2.frs X.stack++[a,T0]) q (by simp[nfr,e7,hT])
    rw[e6]at this;cases this
 refine⟨T,⟨oe,vs,oT,ts,a0,e1,e2,e3,e4,e5,e7,e8,e9,e10⟩,ha,?_,na,?_,fun p hp=>⟨pa p hp,?_⟩⟩
 ·rcases key with rfl | k
  ·exact hT0
  ·exact hok_none I.hok k
 ·rcases key with rfl | k
  ·exact nT0
  ·exact entry_none I pl k
 ·rcases key with rfl | k
  ·exact pT0 p hp
  ·intro z
   have:=(I.pin p hp).1
   rw[z,k]at this;cases this
open PySem.W in
theorem hid_ok(I:Inv X pins σ H s)(as:List Addr):s.heap.FunFrames (hideAll s.heap (L2.frs X.stack++as)) X.stack :=
 funFrames_hide I.stack fun env he b hb=>List.mem_append_left _ (List.mem_filterMap.mpr ⟨env,he,hb⟩)
theorem XAt.data(x:XAt X pins H s a C T fl):(∀o,s.heap.get? a=some o->∃vs,o.data=.fields vs)/\∀o,s.heap.get? T=some o->∃vs,o.data=.fields vs:=by
 obtain⟨oe,vs,oT,ts,a0,e1,e2,e3,e4,e5,e7,e8,e9,e10⟩:=x.fly
 exact⟨fun o e=>by rw[e1]at e;cases e;exact⟨_,e4⟩,fun o e=>by rw[e8]at e;cases e;exact⟨_,e9⟩⟩
open PySem.W in
theorem XAt.traced(x:XAt X pins H s a C T fl):∃a0,s.heap.TracedAtW (hideAll s.heap (L2.frs X.stack++[a,T])) a (.ref C) a0 fl:=by
 obtain⟨oe,vs,oT,ts,a0,e1,e2,e3,e4,e5,e7,e8,e9,e10⟩:=x.fly
 exact⟨a0,oe,vs,T,oT,ts,e1,⟨e2,e3⟩,e4,e5,hideAll_none _ (by simp),e7,e8,e9,e10⟩
variable {M:Model}{E:Value->Shared->Prop}{Q:Unit->Shared->Prop}
open PySem.W in
theorem note_x(I:Inv X pins σ H s)(pl:Plain X)(x:XAt X pins H s a C T .none)
  (h:∀h' T',Inv X pins σ H { s with heap:=h' }->XAt X pins H { s with heap:=h' } a C T' (rawInt X.env.locals)->Q () { s with heap:=h' }):wpAny M X.A (noteFrame (.ref a) X.env) Q E s:=by
 obtain⟨a0,tr⟩:=x.traced
 obtain⟨d1,d2⟩:=x.data
 have ff:=hid_ok I [a,T]
 have hfr:=I.ok.frames
 rw[pl.stk]at ff tr hfr
 refine wpAny_noteFrame_onW hfr ff pl.fr tr (fun b o e=>of_hideAll _ e) (hideAll_none _ (by simp)) fun h' ⟨k1,k2,k3,k4⟩=>?_
 rw[←pl.stk]at k1 k2 k3
 obtain⟨I',T',x'⟩:=after_x I pl x.ha x.na (fun p hp=>(x.pin p hp).1) d1 T x.hT x.nT (fun p hp=>(x.pin p hp).2) d2 a0 k1 k2 k3 k4
 exact h h' T' I' x'
open PySem.W in
theorem land_x{A:Around}(I:Inv X pins σ H s)(pl:Plain X)(x:XAt X pins H s a C T fl)
  (h:∀h' T',Inv X pins σ H { s with heap:=h' }->XAt X pins H { s with heap:=h' } a C T' .none->Q () { s with heap:=h' }):wpAny M A (setFlight (.ref a) none) Q E s:=by
 obtain⟨a0,tr⟩:=x.traced
 obtain⟨d1,d2⟩:=x.data
 refine wpAny_setFlight_noneW (fun b o e=>of_hideAll _ e) (hid_ok I [a,T]) tr fun h' k1 k2 k3 k4=>?_
 obtain⟨I',T',x'⟩:=after_x I pl x.ha x.na (fun p hp=>(x.pin p hp).1) d1 T x.hT x.nT (fun p hp=>(x.pin p hp).2) d2 a0 k1 k2 k3 fun b o e hd=>⟨o.slots,k4 b o e hd⟩
 exact h h' T' I' x'
def CXU(P:Program)(w:World):CXT:=fun outer H s E e s'=>∃(a C T:Addr) (H1:Hp),e=.ref a/\FlyAt s'.heap a C T .none/\(H1 a=none/\H1 T=none)/\(s.heap.get? a=none/\s.heap.get? T=none) /\
 s'.os=s.os/\AllBare s'.gens/\Un (L2.frs outer) [] H H1 s.heap s'.heap/\HOk P w H1 s'.heap/\E (.ref C) none H1
open PySem.W in
theorem leave_x{XE:XK}(I:Inv X pins σ H s)(pl:Plain X)(x:XAt X pins H s a C T .none)(hE:XE (.ref C) none H) :
  wpAny M X.A (leaving X.env (.ref a)) (fun _ s''=>CXU X.prog X.w X.outer X.H₀ X.s₀ XE (.ref a) s'') E s:=by
 obtain⟨a0,tr⟩:=x.traced
 obtain⟨d1,d2⟩:=x.data
 have ff:=hid_ok I [a,T]
 have hfr:=I.ok.frames
 rw[pl.stk]at ff tr hfr
 refine wpAny_leaving_nextW hfr ff pl.fr tr (fun b o e=>of_hideAll _ e) (hideAll_none _ (by simp)) fun h' ⟨k1,k2,k3,k4⟩=>?_
 rw[←pl.stk]at k1 k2 k3
 obtain⟨I',T',x'⟩:=after_x I pl x.ha x.na (fun p hp=>(x.pin p hp).1) d1 T x.hT x.nT (fun p hp=>(x.pin p hp).2) d2 a0 k1 k2 k3 k4
 have hu:=I'.base
 rw[pl.ex]at hu
 exact⟨a,C,T',H,rfl,x'.fly,⟨x'.ha,x'.hT⟩,⟨x'.na,x'.nT⟩,I'.os,I'.bare,hu,I'.hok,hE⟩
open PySem.W in
theorem leave_made{XE:XK}{h1:Heap}{args:List Value}(I:Inv X pins σ H s)(pl:Plain X)(mx:Heap.MadeExcOf s.heap h1 a (.ref C) args)(hE:XE (.ref C) none H) :
  wpAny M X.A (leaving X.env (.ref a)) (fun _ s''=>CXU X.prog X.w X.outer X.H₀ X.s₀ XE (.ref a) s'') E { s with heap:=h1 }:=by
 have I1:Inv X pins σ H { s with heap:=h1 }:=I.kept (t':=s.toks) mx.keeps
 obtain⟨t,e1,e2,e3⟩:=mx.there
 have ha:=hok_none I.hok mx.new
 have na:=entry_none I pl mx.new
 have pa:∀p∈X.pn++pins,p.1≠a:=fun p hp z=>by have:=(I.pin p hp).1;rw[z,mx.new]at this;cases this
 have fa:∀o,h1.get? a=some o->∃vs,o.data=.fields vs:=fun o e=>by rw[e1]at e;cases e;exact⟨_,rfl⟩
 have ff:=hid_ok I1 [a,a]
 have hfr:=I1.ok.frames
 rw[pl.stk]at ff hfr
 refine wpAny_leaving_firstW hfr ff pl.fr e1 (fun b o e=>of_hideAll _ e) (hideAll_none _ (by simp)) rfl rfl rfl fun h' ⟨k1,k2,k3,k4⟩=>?_
 rw[←pl.stk]at k1 k2 k3
 obtain⟨I',T',x'⟩:=after_x I1 pl ha na pa fa a ha na pa fa _ k1 k2 k3 k4
 have hu:=I'.base
 rw[pl.ex]at hu
 exact⟨a,C,T',H,rfl,x'.fly,⟨x'.ha,x'.hT⟩,⟨x'.na,x'.nT⟩,I'.os,I'.bare,hu,I'.hok,hE⟩
theorem from_call{XE:XK}{e:Value}{s':Shared}(I:Inv X pins σ H s)(pl:Plain X)(c:CXU X.prog X.w X.stack H s XE e s') :
  ∃a C T H1,e=.ref a/\Inv X pins σ H1 s'/\XAt X pins H1 s' a C T .none/\XE (.ref C) none H1/\Kp H H1:=by
 obtain⟨a,C,T,H1,rfl,fl,⟨h1,h2⟩,⟨n1,n2⟩,os,ba,un,hok,hE⟩:=c
 refine⟨a,C,T,H1,rfl,I.call' (ch:=[]) os un hok ba (fun _ z=>nomatch z),⟨fl,h1,h2,entry_none I pl n1,entry_none I pl n2,fun p hp=>⟨fun z=>?_,fun z=>?_⟩⟩,hE,⟨un.tups,un.frzs⟩⟩
 ·have:=(I.pin p hp).1;rw[z,n1]at this;cases this
 ·have:=(I.pin p hp).1;rw[z,n2]at this;cases this
end
end U
set_option linter.all false
set_option maxHeartbeats 4000000
set_option maxRecDepth 100000
namespace U
open PySem PySem.Spec PyProof.Rows L2 PySem.W
theorem be_entry:entryFor table "BaseException.__getattribute__"=some Builtin.«object.__getattribute__» :=
 entryFor_alias (id':="object.__getattribute__") (by kernel_rfl) (by first | rfl | decide +kernel) (by decide +kernel) (by kernel_rfl)
section
variable {prog:Program}{w:World}{A:Around}{E:Value->Shared->Prop}{h:Heap}{g:Array GenState}{d:Drawn}{t:Nat}{os:OsState}{a C:Addr}{o:Obj}{K:Frag}
theorem exc_get{R:Result->Shared->Prop}(X:K.In h)(hx:h.get? a=some o)(hc:o.cls=.ref C)(hm:mroIn K C (.type "object")=some true)(hq:R (.ok (.ret (.ref C))) ⟨h,g,d,t,os⟩) :
  codeAny (model prog w) A (.call (.builtin "getset_descriptor.__get__") ⟨[.builtin "object.__class__",.ref a,.ref C],[]⟩) R ⟨h,g,d,t,os⟩:=by
 have hT5:(⟨h,g,d,t,os⟩:Shared).TypeIs (.builtin "object.__class__") "getset_descriptor":=F.typeOf_object_class
 have LS:Looks (model prog w) h (isSubtype (.ref C) (.type "object")) true:=looks_mroIn X hm
 have f8:=F.owner_object_class
 refine codeAny_call_builtin F.slot_gs_get.plain F.entry_gs_get (F.slot_gs_get.check _ _ _ _ _ _ _ _ hT5 (F.args_gs_get _ _ _) ?_)
 repeat (any_goals (first | assumption | wp_step))
 rw[hc,f8]
 refine LS.at ?_
 repeat (any_goals (first | assumption | wp_step))
 refine⟨Code.quiet_builtin _ (by decide +kernel),codeAny_builtin F.entry_object_class ?_⟩
 repeat (any_goals (first | assumption | wp_step))
 all_goals (rw[hc];exact hq)
theorem exc_entry{tk:Tok}{Q:Fin->Shared->Prop}(X:K.In h)(hx:h.get? a=some o)(hc:o.cls=.ref C)(hm:mroIn K C (.type "object")=some true)(hf:findIn K (.ref C) "__class__"=some (some (.builtin "object.__class__")))(hq:Q (.done (.ret (.ref C))) ⟨h,g,d,t,os⟩) :
  wpAny (model prog w) A (Builtin.«object.__getattribute__» ⟨[.ref a,.str "__class__" tk],[]⟩) Q E ⟨h,g,d,t,os⟩:=by
 have hT5:(⟨h,g,d,t,os⟩:Shared).TypeIs (.builtin "object.__class__") "getset_descriptor":=F.typeOf_object_class
 have LF:Looks (model prog w) h (typeLookup (.ref C) "__class__") (some (.builtin "object.__class__")):=looks_findIn X hf
 have f5:=F.typeOf_object_class
 have f6:=F.slot_gs_get.lookup
 have f7:=F.slot_gs_set.lookup
 repeat (any_goals (first | assumption | wp_step))
 rw[hc]
 refine LF.at ?_
 repeat (any_goals (first | assumption | wp_step))
 refine exc_get X hx hc hm ?_
 repeat (any_goals (first | assumption | wp_step))
theorem be_kind:builtinKind "BaseException.__getattribute__"=some .slot:=by decide +kernel
theorem be_split:splitId "BaseException.__getattribute__"=some ("BaseException","__getattribute__"):=by decide +kernel
theorem exc_check{M:Model}{tk:Tok}{Q:Unit->Shared->Prop}(X:K.In h)(hx:h.get? a=some o)(hc:o.cls=.ref C)(hm:mroIn K C (.type "BaseException")=some true)(hq:Q () ⟨h,g,d,t,os⟩) :
  wpAny M A (checkBuiltinCall "BaseException.__getattribute__" ⟨[.ref a,.str "__class__" tk],[]⟩) Q E ⟨h,g,d,t,os⟩:=by
 have LB:Looks M h (isSubtype (.ref C) (.type "BaseException")) true:=looks_mroIn X hm
 simp only[checkBuiltinCall,be_kind,be_split]
 repeat (first |(with_reducible refine wpAny_loadPart_at hx ?_;rw[hc]) | with_reducible refine LB.at ?_ | wp_step)
 exact hq
theorem exc_call{tk:Tok}{R:Result->Shared->Prop}(X:K.In h)(hx:h.get? a=some o)(hc:o.cls=.ref C)(hm:mroIn K C (.type "object")=some true)(hb:mroIn K C (.type "BaseException")=some true)
  (hf:findIn K (.ref C) "__class__"=some (some (.builtin "object.__class__"))) (hq:R (.ok (.ret (.ref C))) ⟨h,g,d,t,os⟩) :
  codeAny (model prog w) A (.call (.builtin "BaseException.__getattribute__") ⟨[.ref a,.str "__class__" tk],[]⟩) R ⟨h,g,d,t,os⟩ :=
 codeAny_call_builtin_at (Code.quiet_builtin _ (by decide +kernel)) be_entry (exc_check X hx hc hb (exc_entry X hx hc hm hf hq))
theorem be_bind(self:Value):bindSpecial (.builtin "BaseException.__getattribute__") self=pure (.builtin "BaseException.__getattribute__",[self]):=by
 have hop:withoutEnding? "BaseException.__getattribute__" "#opaque"=none:=by decide +kernel
 have hdat:withoutEnding? "BaseException.__getattribute__" "#data"=none:=by decide +kernel
 simp only[bindSpecial,typeOf,builtinType,hop,hdat,be_kind];rfl
theorem exc_by{tk:Tok}{Q:Value->Shared->Prop}(X:K.In h)(hx:h.get? a=some o)(hc:o.cls=.ref C)(hm:mroIn K C (.type "object")=some true)(hb:mroIn K C (.type "BaseException")=some true)
  (hf:findIn K (.ref C) "__class__"=some (some (.builtin "object.__class__"))) (hg:findIn K (.ref C) "__getattribute__"=some (some (.builtin "BaseException.__getattribute__"))) (hh:findIn K (.ref C) "__getattr__"=some none) (hq:Q (.ref C) ⟨h,g,d,t,os⟩) :
  wpAny (model prog w) A (getAttrBy (.ref a) (.str "__class__" tk) false) Q E ⟨h,g,d,t,os⟩:=by
 have LG:Looks (model prog w) h (typeLookup (.ref C) "__getattribute__") (some (.builtin "BaseException.__getattribute__")):=looks_findIn X hg
 have LH:Looks (model prog w) h (typeLookup (.ref C) "__getattr__") none:=looks_findIn X hh
 have f3:=be_bind (.ref a)
 unfold getAttrBy
 refine wpAny_holding ?_
 repeat (first |(with_reducible refine wpAny_loadPart_at hx ?_;rw[hc]) | with_reducible refine LG.at ?_ | with_reducible refine LH.at ?_ | wp_step)
 refine exc_call X hx hc hm hb hf ?_
 show wpAny (model prog w) A (handedOut (.ref C)) Q E _
 exact handed_on rfl hq
theorem exc_attr{Q:Option Value->Shared->Prop}(X:K.In h)(hx:h.get? a=some o)(hc:o.cls=.ref C)(hm:mroIn K C (.type "object")=some true)(hb:mroIn K C (.type "BaseException")=some true)
  (hf:findIn K (.ref C) "__class__"=some (some (.builtin "object.__class__"))) (hg:findIn K (.ref C) "__getattribute__"=some (some (.builtin "BaseException.__getattribute__"))) (hh:findIn K (.ref C) "__getattr__"=some none)
  (hq:Q (some (.ref C)) ⟨h,g,d,t+1,os⟩):wpAny (model prog w) A (getAttr? (.ref a) "__class__") Q E ⟨h,g,d,t,os⟩:=by
 unfold getAttr? getAttrBy?
 repeat (any_goals (first | assumption | with_reducible apply exc_by X hx hc hm hb hf hg hh | wp_step))
end
structure XCls (K:Frag) (C:Addr):Prop where
 ex:excIn K C [.type "ValueError",.type "Exception",.type "BaseException",.type "object"] "ValueError.__new__"=true
 ob:mroIn K C (.type "object")=some true
 be:mroIn K C (.type "BaseException")=some true
 ga:findIn K (.ref C) "__getattribute__"=some (some (.builtin "BaseException.__getattribute__"))
 gt:findIn K (.ref C) "__getattr__"=some none
 cl:findIn K (.ref C) "__class__"=some (some (.builtin "object.__class__"))
theorem XCls.obj{K:Frag}{C:Addr}(c:XCls K C):∃(dd:Option Addr) (cd:ClassData) (sl:Array (Option Value)),K.lookup C=some ⟨.type "type",dd,.cls cd,sl⟩:=by
 have q:=c.ex
 unfold excIn at q
 split at q
 ·rename_i dd cd sl ho
  exact⟨dd,cd,sl,ho⟩
 ·cases q
theorem kitx_exc{K:Frag}{a C:Addr}(c:XCls K C):KitX K (.ref a) (.ref C) (ExcA a C) where
 ty:=fun M h _ ⟨o,h1,h2⟩=>h2▸(Looks.ld h1).andThen .now
 it:=fun M h X _=>by
  obtain⟨dd,cd,sl,ho⟩:=c.obj
  intro A' Q' E' s' k q
  unfold isType loadHead
  exact wpAny_bind (wpAny_loadPart (k _ _ (X _ _ ho)) (wpAny_pure q))
 ne:=fun h tp dd its n sl X htp=>by
  obtain⟨dd,cd,sl,ho⟩:=c.obj
  refine Bool.eq_false_iff.mpr fun q=>?_
  have e:C=tp:=Value.ref.inj (beq_iff_eq.mp q)
  subst e
  have z:=(X _ _ ho).symm.trans htp
  exact absurd (congrArg Obj.cls (Option.some.inj z)) (by show ¬Value.type "type"=Value.type "tuple";decide)
 ca:=fun {_ _ _ _ _ s} X ⟨o,h1,h2⟩ k=>by
  obtain⟨h,g,d,t,os⟩:=s
  exact exc_attr X h1 h2 c.ob c.be c.cl c.ga c.gt k
end U
set_option linter.all false
set_option maxRecDepth 100000
set_option maxHeartbeats 4000000
namespace U
open PySem PySem.Spec PyProof.Rows L2
variable {B:Bs}
def XL(K:PySem.W.Frag)(B:Bs)(E':XK')(E:XK):Prop:=∀c d H1' H1,E' c d H1'->HR K H1' H1->Ev B.1 B.2 H1' H1->E c d H1
section
variable {P:Program}{w:World}{K:PySem.W.Frag}{mg:Str->Option Value}{base:Heap}
theorem plain_cx{CX:CXT}{N:List Str}{qual:Str}{sc:Scope}{f:Addr}{cdv:Value}{A:Around}{outer:List Env}{s:Shared}{H:Hp}{E:XK}:Plain (cxOf CX P w K mg base N qual sc f cdv A outer s H E):=⟨rfl,rfl,rfl⟩
theorem okX{x qual:Str}{st:Stmt}{f:Addr}{fd:FuncData}{N ps:List Str}{k:Nat}{sp:Sp'}(F:Fun K x qual st f fd)(S:FnScope N ps (defScope st))(len:∀vs H Q E,sp vs H Q E->vs.length=ps.length)
  (hbody:∀(cdv:Value) (A:Around) (outer:List Env) (s:Shared) (H:Hp) (E:XK) (vs':List PV) (H':PHp) (Q':VK') (E':XK'),Room k (A.deeper (envOfC qual (defScope st) s.heap.objs.size f cdv))->XL K (H',H) E' E->sp vs' H' Q' E' ->
   ∃t,PSs' (cxOf (CXU P w) P w K mg base N qual (defScope st) f cdv A outer s H E) (H',H) (defBody st) t/\t (ends Q') (start' N vs') H'):FnOk' P w K mg base (CXU P w) (k+1) f fd ps sp:=by
 obtain⟨oc,od,kV,doc,pm,an,cdv,ct,osl,rfl,lk,hcd⟩:=F.ex
 refine fn_of lk hcd S (fun vs H Q E zz=>by obtain⟨vs',H',Q',E',r,hr,h,_⟩:=zz;rw[RPs.length _ r];exact len _ _ _ _ h) fun A outer s H vs Q E hr hsp=>?_
 obtain⟨vs',H',Q',E',r,hh,h,k1,k2⟩:=hsp
 obtain⟨t,ht,hq⟩:=hbody cdv A outer s H E vs' H' Q' E' hr k2 h
 refine⟨_,ht,start' N vs',H',_,sr_start r hh,hq,?_,?_,?_,?_⟩
 ·rintro σ1' H1' σ1 H1 ⟨H3,sb,q⟩ s1 e1
  exact k1 _ H3 _ H1 q (by simp[RP]) (s1.hp.sub sb) (e1.sub sb)
 ·rintro v' H1' v H1 ⟨H3,sb,q⟩ r1 s1 e1
  exact k1 _ H3 _ H1 q r1 (s1.sub sb) (e1.sub sb)
 ·intro _ _ _ _ z;exact z.elim
 ·intro _ _ _ _ z;exact z.elim
end
section
variable {X:Cx}{k:Nat}{f C D:Addr}{fd:FuncData}{ps:List Str}{sp:Sp'}{E:XK}{E':XK'}{x m n:Str}{p np pos apos cpos:Pos}{e o:Expr}{es:List Expr}{ta:TE'}{t:TA'}
def Lv(X:Cx)(E:XK):Prop:=X.xe=fun e s'=>wpAny (model X.prog X.w) X.A (leaving X.env e) (fun _ s''=>CXU X.prog X.w X.outer X.H₀ X.s₀ E e s'') (fun e' s''=>CXU X.prog X.w X.outer X.H₀ X.s₀ E e' s'') s'
theorem lv_po(l:Lv X E):PassesOwn (model X.prog X.w) X.A X.env X.xe:=by rw[l];exact PassesOwn.leaving
theorem lv_pass(l:Lv X E)(pl:Plain X):Passes (CXU X.prog X.w) X E:=fun pins σ H s e s' I c=>by
 obtain⟨a,C,T,H1,rfl,I1,x1,hE,_⟩:=from_call I pl c
 rw[l]
 exact leave_x I1 pl x1 hE
theorem low_callX{K:PySem.W.Frag}(hE:XL K B E' E){σ:L2.St}{H:Hp}{Q:VK}(h:low K B (uCall sp E' t) σ H Q):tCall (lowSp K sp) [] E (lowA K B t) σ H Q:=by
 obtain⟨σ',H',Q',s,h,k⟩:=h
 refine⟨σ',H',_,s,h,fun vs' H1' vs H1 h1 r1 s1 e1=>?_⟩
 show lowSp K sp (vs++[]) H1 Q E
 rw[List.append_nil]
 exact⟨vs',H1',Q',E',r1,s1.hp,h1,fun v' H2' v H2 q r2 h2 e2=>k v' H2' v H2 q r2 (s1.kp e2 h2) (e1.trans e2),fun c d H2' H2 q h2 e2=>hE c d H2' H2 q h2 (s1.ev.trans e2)⟩
theorem qe_callX(l:Lv X E)(pl:Plain X)(hE:XL X.K B E' E)(F:FnOk' X.prog X.w X.K X.mg X.base (CXU X.prog X.w) k f fd ps sp)(hr:Room k X.A)(hg:Gl X x)(hm:X.mg x=some (.ref f))(hk:PySem.W.keepIn X.K (.ref f)=true)(hb:Binds X.K fd ps [])
  (ha:PA' X B (e::es) t) (hdb:(x==("__debug__":Str))=false:=by decide) (he:starEach (e::es) X.env=(false,eval e X.env)::starEach es X.env:=by rfl) (hpl:(backTo pos (starEach es X.env)).any (·.1)=false:=by rfl) :
  PE' X B (.Call (.Name x p) (e::es) [] pos) (uCall sp E' t):=pe_imp (pe_call F hr hg hm hk hb .nil (lv_pass l pl) ha hdb he hpl) fun _ _ _ h=>low_callX hE h
theorem cls_at{K:PySem.W.Frag}{h:Heap}(KX:K.In h)(c:XCls K C):∃(bm:List Value) (N:Addr) (nm q:Str) (bs:List Value) (hdct:Bool) (sn:List Str) (sub:List Value) (ab:Bool) (col:Option Bool) (dd:Option Addr) (k0 k1 k2 k3 k5:Option Value) (mN:Str->Option Value),
  h.get? C=some (excClassObj nm q C N bs bm hdct sn sub ab col dd k0 k1 k2 k3 k5 "ValueError.__new__")/\h.Ns N mN/\mN "__init__"=none/\OwnTail h [.type "ValueError",.type "Exception",.type "BaseException",.type "object"] bm:=by
 have q:=c.ex
 unfold PySem.W.excIn at q
 split at q
 ·rename_i dd cd sl ho
  split at q
  ·rename_i C' bm k0 k1 k2 k3 n k5 hm hs
   simp only[Bool.and_eq_true,beq_iff_eq,Bool.not_eq_true']at q
   obtain⟨⟨⟨⟨⟨rfl,rfl⟩,hdel⟩,ht⟩,hok⟩,hni⟩:=q
   obtain⟨nm,bs,mro,ns,qn,hd,sn,sub,ab,col,del⟩:=cd
   dsimp only at hm hdel hok hni
   subst hm hdel
   have hsl:sl=#[k0,k1,k2,k3,some (.builtin "ValueError.__new__"),k5]:=by
    obtain⟨l⟩:=sl
    simp only at hs
    rw[hs]
   subst hsl
   exact⟨bm,ns,nm,qn,bs,hd,sn,sub,ab,col,dd,k0,k1,k2,k3,k5,_,KX _ _ ho,.of_isNs (PySem.W.isNs_of_in KX hok),PySem.W.nsMap_none_of_in KX hok hni,PySem.W.tail_of_in KX ht⟩
  ·cases q
 ·cases q
def uRaise(C:Addr)(E':XK'):TS':=fun _ _ H=>E' (.ref C) none H
theorem qs_raise{msg:Str}{j:Nat}{mp:Pos}(l:Lv X E)(pl:Plain X)(hE:XL X.K B E' E)(hc:X.calm=true)(c:XCls X.K C)(hg:Gl X x)(hm:X.mg x=some (.ref C))(hdb:(x==("__debug__":Str))=false:=by decide) :
  PS' X B (.Raise (some (.Call (.Name x np) [.Constant (.str msg) j mp] [] cpos)) none pos) (uRaise C E'):=by
 intro pins s σ H Dn I ⟨σ',H',D',sr,h,dr⟩
 have hE1:E (.ref C) none H:=hE _ _ H' H h sr.hp sr.ev
 obtain⟨bm,N,nm,q,bs,hdct,sn,sub,ab,col,dd,k0,k1,k2,k3,k5,mN,hC,hN,hni,TL⟩:=cls_at I.mod.kin c
 refine wpAny_Raise_call_subT (C:=C) (nm:=nm) (q:=q) (N:=N) (bs:=bs) (bm:=bm) (hdct:=hdct) (sn:=sn) (sub:=sub) (ab:=ab) (col:=col) (dd:=dd) (k0:=k0) (k1:=k1) (k2:=k2) (k3:=k3) (k5:=k5) PySem.F.excBase_ValueError (TL.hasType (by decide)) (I.ok.hd hc) rfl hni (ld_glob I hg hm ⟨rfl,?_⟩ hdb)
 refine Calls.evalArgs_plain ?_
 refine thn (pa_cons (X:=X) pe_str pa_nil rfl cpos pins s σ H (fun vs H1=>vs=[.str msg]/\H1=H) I ⟨rfl,rfl⟩) fun us s2 ⟨vs,H1,I2,r,ev,eh⟩=>?_
 subst ev;subst eh
 have hl:us.length=1:=by rw[←r.length];rfl
 refine⟨rfl,by show us.length≤sizeLine;rw[hl];exact small_size (by decide),I2.bk _ _ hC,hN.keeps I2.bk,TL.keeps I2.bk,fun h' a mx=>?_⟩
 rw[l]
 exact leave_made I2 pl mx hE1
end
end U
set_option linter.all false
set_option maxRecDepth 100000
set_option maxHeartbeats 4000000
namespace U
open PySem PySem.Spec PyProof.Rows L2
variable {B:Bs}
section
variable {X:Cx}{pins:List (Addr×Obj)}{σ:L2.St}{H:Hp}{s:Shared}{a C T:Addr}{fl:Value}
theorem name_goes{M:Model}{A:Around}{E:Value->Shared->Prop}{i:Nat}{n:Str}{pos:Pos}{Q:Unit->Shared->Prop}(I:Inv X pins σ H s)(hN:X.N.Nodup)(hi:X.N[i]?=some n)(hl:X.env.scope.names.lookup n=some .local)
  (h:∀s',Inv X pins (σ.set i none) H s'->Q () s'):wpAny M A (do bindName X.env n .none;unbindBehindTheSuite X.env n pos) Q E s:=by
 obtain⟨m,hn,hlo⟩:=id I.loc
 have hcls:(X.env.scope.kind==.class||(X.env.scope.kind==.module&&X.env.locals !=X.env.globals))=false:=by rw[I.ok.kind];rfl
 refine wpAny_nameGoes_keeps hl hn hcls fun h' v hn' hs=>h _ ?_
 obtain⟨oL,_,_,hoL,_⟩:=id hn
 have cne:=I.cne
 refine⟨I.ok,I.os,I.bare,⟨fun b o e n' hb hx=>?_,fun b o e n' hb hx=>?_,I.base.free,fun b o e hx=>?_,I.base.tups,I.base.frzs,I.base.tbls⟩,⟨_,hn',fun j y v' e1 e2 e3=>?_⟩,fun y c e=>?_,I.free,I.freeC,fun p hp=>?_,fun b ob e=>?_,by rw[List.length_set];exact I.len⟩
 ·exact(hs.2 b (Nat.ne_of_lt (Nat.lt_of_lt_of_le (Heap.lt_size e) I.ok.above))).trans (I.base.keep b o e n' hb hx)
 ·obtain⟨sl,e1⟩:=I.base.slot b o e n' hb hx
  exact⟨sl,(hs.2 b (Nat.ne_of_lt (Nat.lt_of_lt_of_le (Heap.lt_size e) I.ok.above))).trans e1⟩
 ·obtain⟨o',e1⟩:=I.base.there b o e hx
  exact⟨o',(hs.2 b (Nat.ne_of_lt (Nat.lt_of_lt_of_le (Heap.lt_size e) I.ok.above))).trans e1⟩
 ·by_cases hj:j=i
  ·subst hj
   by_cases hlt:j<σ.length
   ·rw[List.getElem?_set_self hlt]at e2;cases e2
   ·rw[List.getElem?_eq_none (by simpa using Nat.le_of_not_lt hlt)]at e2;cases e2
  ·rw[List.getElem?_set_ne (Ne.symm hj)]at e2
   obtain⟨u',r',q⟩:=hlo j y v' e1 e2 e3
   refine⟨u',r',?_⟩
   rcases q with⟨k,e⟩ |⟨k,c,e,z⟩
   ·refine .inl ⟨k,?_⟩
    have:y≠n:=fun e=>hj (nodup_ix hN e1 (e▸hi))
    simp[this,e]
   ·exact .inr ⟨k,c,e,z.sameBut hs (cne y c e)⟩
 ·obtain⟨w',z⟩:=I.cell y c e
  exact⟨w',z.sameBut hs (cne y c e)⟩
 ·obtain⟨e,n',ne,nf,d⟩:=I.pin p hp
  exact⟨(hs.2 p.1 ne).trans e,n',ne,nf,d⟩
 ·refine(I.hok b ob e).stay (fun c w' hc q=>(hs.2 c ?_).trans q) (fun _ q=>q) fun _ _ q=>q
  rintro rfl
  rcases hc with rfl | hc
  ·rw[I.free]at e;cases e
  ·rw[I.free]at hc;cases hc
theorem track_x(I:Inv X pins σ H s)(x:XAt X pins H s a C T fl):Inv X pins σ (upd H a (.ext (ExcA a C))) s:=by
 obtain⟨oe,vs,oT,ts,a0,e1,e2,e3,e4,e5,e7,e8,e9,e10⟩:=x.fly
 have hL:X.env.locals≠a:=by
  rintro rfl
  obtain⟨m,⟨o,es,ep,ho,hd,_⟩,_⟩:=I.loc
  rw[e1]at ho;cases ho;rw[e4]at hd;cases hd
 refine⟨I.ok,I.os,I.bare,⟨I.base.keep,I.base.slot,fun b o e n hx=>?_,I.base.there,fun b xs e=>?_,fun b o u e=>?_,fun b ps e=>?_⟩,I.loc,I.cell,?_,fun y c e=>?_,fun p hp=>?_,fun b ob e=>?_,I.len⟩
 ·rw[upd_ne (fun z=>by subst z;rw[x.na]at e;cases e)];exact I.base.free b o e n hx
 ·have:=I.base.tups b xs e
  rw[upd_ne (ne_of_none this x.ha)];exact this
 ·have:=I.base.frzs b o u e
  rw[upd_ne (ne_of_none this x.ha)];exact this
 ·obtain⟨more,this⟩:=I.base.tbls b ps e
  exact⟨more,by rw[upd_ne (ne_of_none this x.ha)];exact this⟩
 ·rw[upd_ne hL];exact I.free
 ·refine(upd_ne ?_).trans (I.freeC y c e)
  rintro rfl
  obtain⟨v,o,ho,hd⟩:=I.cell y c e
  rw[e1]at ho;cases ho;rw[e4]at hd;cases hd
 ·obtain⟨e,n,ne,nf,d⟩:=I.pin p hp
  exact⟨e,by rw[upd_ne (x.pin p hp).1];exact n,ne,nf,d⟩
 ·by_cases hb:b=a
  ·subst hb
   rw[upd_same]at e;cases e
   exact⟨⟨oe,e1,e2⟩,⟨oe,e1⟩,fun h1 h2 ⟨o,q1,q2⟩ k=>⟨o,k o q1,q2⟩⟩
  ·rw[upd_ne hb]at e
   exact(I.hok b ob e).stay (fun _ _ _ q=>q) (fun c q=>by rw[upd_ne (ne_of_none q x.ha)];exact q) fun c xs q=>by rw[upd_ne (ne_of_none q x.ha)];exact q
abbrev mk(X:Cx)(e:Value):Cx:={ X with A:=X.A.mark (some e),calm:=false,xe:=fun _ _=>False }
theorem inv_mk(I:Inv X pins σ H s)(e:Value):Inv (mk X e) pins σ H s :=
 ⟨⟨I.ok.mod,I.ok.kind,I.ok.glob,I.ok.blt,I.ok.above,I.ok.inj,I.ok.has,I.ok.cab,(fun z=>by cases z),I.ok.frames,I.ok.stk,I.ok.exf,I.ok.bs,I.ok.bsz,I.ok.noex,I.ok.exfs,I.ok.funs,I.ok.frf⟩,I.os,I.bare,I.base,I.loc,I.cell,I.free,I.freeC,I.pin,I.hok,I.len⟩
theorem inv_unmk{e:Value}(ok:X.Ok)(I:Inv (mk X e) pins σ H s):Inv X pins σ H s:=⟨ok,I.os,I.bare,I.base,I.loc,I.cell,I.free,I.freeC,I.pin,I.hok,I.len⟩
theorem plain_mk(pl:Plain X)(e:Value):Plain (mk X e):=⟨pl.ex,pl.stk,pl.fr⟩
open PySem.W in
theorem excMatches_own{M:Model}{A:Around}{E:Value->Shared->Prop}{D:Addr}{b:Bool}{Q:Bool->Shared->Prop}(KX:X.K.In s.heap)(cD:XCls X.K D)(hm:mroIn X.K C (.ref D)=some b)(x:∃o,s.heap.get? a=some o/\o.cls=.ref C)
  (h:Q b s):wpAny M A (excMatches (.ref a) (.ref D)) Q E s:=by
 obtain⟨oe,he,hcls⟩:=x
 obtain⟨bm,N,nm,q,bs,hdct,sn,sub,ab,col,dd,k0,k1,k2,k3,k5,mN,hC,hN,hni,TL⟩:=cls_at KX cD
 have hcB:(Value.ref D::bm).contains (.type "BaseException")=true:=by rw[List.contains_cons,TL.hasType (X:="BaseException") (b:=true) (by decide),Bool.or_true]
 have LS:Looks M s.heap (isSubtype (.ref C) (.ref D)) b:=looks_mroIn KX hm
 have f:=tc_notTuple
 obtain⟨hp,g,d,t,os⟩:=s
 unfold excMatches
 repeat (first |(with_reducible refine wpAny_loadPart_at he ?_;rw[hcls]) | with_reducible refine wpAny_loadPart_at hC ?_ |(with_reducible refine wpAny_isSubtype_exc hC ?_;rw[hcB]) | with_reducible refine LS.at ?_ | wp_step)
 cases b with
 | true=>wp_walk;exact h
 | false=>wp_walk;exact h
end
end U
set_option linter.all false
set_option maxRecDepth 100000
set_option maxHeartbeats 4000000
namespace U
open PySem PySem.Spec PyProof.Rows L2
variable {B:Bs}
abbrev TX':=St'->PHp->VK'->XK'->Prop
abbrev TSX':=Ends'->(St'->XK')->St'->PHp->Prop
structure Come (X:Cx) (B:Bs) (pins:List (Addr × Obj)) (σ':St') (H':PHp) (H:Hp) (E':XK') (σ1:L2.St) (a:Addr) (s1:Shared):Prop where
 ex:∃H1' H1 C T,Inv X pins σ1 H1 s1/\XAt X pins H1 s1 a C T .none/\SR X.K B σ' H1' σ1 H1/\Ev H' H H1' H1/\E' (.ref C) none H1'
def PXE(X:Cx)(B:Bs)(e:Expr)(t:TX'):Prop:=∀(Ex:Value->Shared->Prop) (pins:List (Addr×Obj)) (s:Shared) (σ:L2.St) (H:Hp) (Q:VK) (σ':St') (H':PHp) (Q':VK') (E':XK'),Inv X pins σ H s->SR X.K B σ' H' σ H->t σ' H' Q' E' ->
 (∀v' H1' v H1,Q' v' H1'->RP X.K H1 v' v->SR X.K B σ' H1' σ H1->Ev H' H H1' H1->Q v H1)->(∀a s1,Come X B pins σ' H' H E' σ a s1->Ex (.ref a) s1)->wpAny (model X.prog X.w) X.A (eval e X.env) (EP X pins σ Q) Ex s
def PSX(X:Cx)(B:Bs)(st:Stmt)(t:TSX'):Prop:=∀(Ex:Value->Shared->Prop) (pins:List (Addr×Obj)) (s:Shared) (σ:L2.St) (H:Hp) (D:Ends) (σ':St') (H':PHp) (D':Ends') (E':St'->XK'),Inv X pins σ H s->SR X.K B σ' H' σ H->t D' E' σ' H'->DR X.K B D' D H' H ->
 (∀σ1' σ1 a s1,Come X B pins σ1' H' H (E' σ1') σ1 a s1->Ex (.ref a) s1)->wpAny (model X.prog X.w) X.A (exec st X.env) (SP X pins D) Ex s
def PSXs(X:Cx)(B:Bs)(sts:List Stmt)(t:TSX'):Prop:=∀(Ex:Value->Shared->Prop) (pins:List (Addr×Obj)) (s:Shared) (σ:L2.St) (H:Hp) (D:Ends) (σ':St') (H':PHp) (D':Ends') (E':St'->XK'),Inv X pins σ H s->SR X.K B σ' H' σ H->t D' E' σ' H'->DR X.K B D' D H' H ->
 (∀σ1' σ1 a s1,Come X B pins σ1' H' H (E' σ1') σ1 a s1->Ex (.ref a) s1)->wpAny (model X.prog X.w) X.A (execs sts X.env) (SP X pins D) Ex s
section
variable {X:Cx}{k:Nat}{f C D:Addr}{fd:FuncData}{ps:List Str}{sp:Sp'}{x m n:Str}{p np pos apos cpos:Pos}{e o:Expr}{es:List Expr}{ta:TE'}{t:TA'}
theorem no_ex{α:Type}{A:Around}{tr:Sem α}{Q:α->Shared->Prop}{Ex:Value->Shared->Prop}{M:Model}{s:Shared}(h:wpAny M A tr Q (fun _ _=>False) s):wpAny M A tr Q Ex s:=wpAny_mono h (fun _ _ q=>q) fun _ _ z=>z.elim
theorem Come.later{pins:List (Addr×Obj)}{σ':St'}{H' H1':PHp}{H H1:Hp}{E':XK'}{σ1:L2.St}{a:Addr}{s1:Shared}(c:Come X B pins σ' H1' H1 E' σ1 a s1)(e:Ev H' H H1' H1):Come X B pins σ' H' H E' σ1 a s1:=by
 obtain⟨H2',H2,C,T,i,x,s,v,q⟩:=c.ex
 exact⟨H2',H2,C,T,i,x,s,e.trans v,q⟩
theorem runX{pins:List (Addr×Obj)}{σ:L2.St}{H:Hp}{s:Shared}{Q:VK}{us:List Value}{vs:List V}{Ex:Value->Shared->Prop}{σ':St'}{H':PHp}{vs':List PV}{Q':VK'}{E':XK'}(pl:Plain X)
  (F:FnOk' X.prog X.w X.K X.mg X.base (CXU X.prog X.w) k f fd ps sp) (hr:Room k X.A) (hb:Binds X.K fd ps []) (I:Inv X pins σ H s) (sr:SR X.K B σ' H' σ H) (r:Vals vs us) (r':RPs X.K H vs' vs) (h:sp vs' H' Q' E')
  (hQ:∀v' H1' v H1,Q' v' H1'->RP X.K H1 v' v->SR X.K B σ' H1' σ H1->Ev H' H H1' H1->Q v H1) (hE:∀a s1,Come X B pins σ' H' H E' σ a s1->Ex (.ref a) s1) :
  wpAny (model X.prog X.w) X.A (call (.ref f) us) (EP X pins σ Q) Ex s:=by
 have hsp:lowSp X.K sp vs H Q (fun c d H1=>∃H1',E' c d H1'/\HR X.K H1' H1/\Ev H' H H1' H1) :=
  ⟨vs',H',Q',E',r',sr.hp,h,fun v' H2' v H2 q r2 h2 e2=>hQ v' H2' v H2 q r2 (sr.kp e2 h2) e2,fun c d H2' H2 q h2 e2=>⟨H2',q,h2,e2⟩⟩
 have hl:(us++[]).length=ps.length:=by rw[List.append_nil,← r.length];exact F.len _ _ _ _ hsp
 have hb':=hb s us I.kIn hl
 rw[List.append_nil]at hb'
 refine wpAny_call (codeAny_mono (F.run X.A X.stack s H ⟨us,[]⟩ us vs Q _ hr I.env0 hb' r hsp) fun r s' hq=>?_)
 cases r with
 | error e =>
  have hq':CXU X.prog X.w X.stack H s (fun c d H1=>∃H1',E' c d H1'/\HR X.K H1' H1/\Ev H' H H1' H1) e s':=hq
  obtain⟨a,C,T,H1,rfl,I1,x1,⟨H1',q,h1,e1⟩,_⟩:=from_call I pl hq'
  exact hE a s' ⟨H1',H1,C,T,I1,x1,sr.kp e1 h1,e1,q⟩
 | ok fl =>
  cases fl with
  | ret u=>exact I.after hq
  | next=>exact False.elim hq
  | brk=>exact False.elim hq
  | cont=>exact False.elim hq
def xCall(sp:Sp')(t:TA'):TX':=fun σ H Q E=>t σ H fun vs H1=>sp vs H1 Q E
theorem px_call(pl:Plain X)(F:FnOk' X.prog X.w X.K X.mg X.base (CXU X.prog X.w) k f fd ps sp)(hr:Room k X.A)(hg:Gl X x)(hm:X.mg x=some (.ref f))(hk:PySem.W.keepIn X.K (.ref f)=true)(hb:Binds X.K fd ps [])
  (ha:PA' X.nox B (e::es) t) (hdb:(x==("__debug__":Str))=false:=by decide) (he:starEach (e::es) X.env=(false,eval e X.env)::starEach es X.env:=by rfl) (hpl:(backTo pos (starEach es X.env)).any (·.1)=false:=by rfl) :
  PXE X B (.Call (.Name x p) (e::es) [] pos) (xCall sp t):=by
 intro Ex pins s σ H Q σ' H' Q' E' I sr h hQ hE
 refine wpAny_Call_Name_kw (ld_glob I hg hm ?_ hdb)
 have hA:=ha pos pins s σ H (fun vs H1=>∃vs' H1',RPs X.K H1 vs' vs/\SR X.K B σ' H1' σ H1/\Ev H' H H1' H1/\sp vs' H1' Q' E') (I.wish _) ⟨σ',H',_,sr,h,fun vs' H1' vs H1 q r s1 e1=>⟨vs',H1',r,s1,e1,q⟩⟩
 refine PySem.W.callWith_K (h₀:=X.base) I.ok.mod.kin hk (thn (no_ex hA) fun us s1 ⟨vs,H1,I1,r,vs',H1',r',s1',e1,q⟩=>⟨I1.kIn,?_⟩) he hpl
 exact runX pl F hr hb I1.unwish s1' r r' q (fun v' H2' v H2 q r2 s2 e2=>hQ v' H2' v H2 q r2 s2 (e1.trans e2)) fun a s2 c=>hE a s2 (c.later e1)
def xSet(i:Nat)(t:TX'):TSX':=fun D E σ H=>t σ H (fun v H1=>D.nx (σ.set i (some v)) H1) (E σ)
def xDrop(t:TX'):TSX':=fun D E σ H=>t σ H (fun _ H1=>D.nx σ H1) (E σ)
theorem qx_set{i:Nat}{y:Str}{pos':Pos}{tx:TX'}(hN:X.N.Nodup)(hi:X.N[i]?=some y)(hy:Loc X.env.scope y)(he:PXE X B e tx)(hs:swapsWith e (some (.Name y pos')) pos.line X.env=pure false:=by rfl)
  (hf:X.fn y=true∨X.env.scope.names.lookup y=some .local:=by first | exact .inl rfl | exact .inr rfl | assumption):PSX X B (.Assign [.Name y pos'] e pos) (xSet i tx):=by
 intro Ex pins s σ H D σ' H' D' E' I sr h dr hE
 refine wpAny_Assign_Name (thn (he Ex pins s σ H (fun v H1=>∃v' H1',D'.nx (σ'.set i (some v')) H1'/\RP X.K H1 v' v/\SR X.K B σ' H1' σ H1/\Ev H' H H1' H1) σ' H' _ (E' σ') I sr h (fun v' H1' v H1 q r s1 e1=>⟨v',H1',q,r,s1,e1⟩) fun a s1 c=>hE σ' σ a s1 c) fun v s1 ⟨y,H1,I1,r1,v',H1',q,r,s1',e1⟩=>?_) hs
 exact store_ok I1 hN hi hy r1 (fun s2 I2=>⟨_,H1,I2,dr.nx _ _ _ _ q (s1'.set r i) e1⟩) hf
def xSeq(t u:TSX'):TSX':=fun D E σ H=>t { D with nx:=u D E } E σ H
theorem qxs_one{st:Stmt}{ts:TSX'}(h:PSX X B st ts):PSXs X B [st] ts:=by
 intro Ex pins s σ H D σ' H' D' E' I sr ht dr hE
 refine wpAny_execs_cons (thn (h Ex pins s σ H D σ' H' D' E' I sr ht dr hE) fun f s1 q=>?_)
 cases f with
 | next=>exact wpAny_execs_nil q
 | _=>exact q
def xIf(c:TT')(t u:TSX'):TSX':=fun D E σ H=>c σ H fun b H1=>cif b (t D E σ H1) (u D E σ H1)
def uTry(K:PySem.W.Frag)(D:Addr)(t:TSX')(i j:Nat):TS':=fun Dn σ H=>t Dn (fun σ1 c d H1=>∃C,c=.ref C/\(XCls K C/\PySem.W.mroIn K C (.ref D)=some true)/\∀a,H1 a=none->Dn.nx (((σ1.set i (some (.ref a))).set j (some (.ref a))).set i none) (put H1 a (.exc C))) σ H
theorem qs_try{body:List Stmt}{tb:TSX'}{i j:Nat}{z:Str}{zp n2 ap hp:Pos}(pl:Plain X)(hN:X.N.Nodup)(hi:X.N[i]?=some n)(hj:X.N[j]?=some z)(hln:X.env.scope.names.lookup n=some .local)(hlz:X.env.scope.names.lookup z=some .local)
  (cD:XCls X.K D) (hg:Gl X x) (hm:X.mg x=some (.ref D)) (hb:PSXs X B body tb)
  (hdb:(x==("__debug__":Str))=false:=by decide) (hnd:(n==("__debug__":Str))=false:=by decide) (hncd:(n==("__classdict__":Str))=false:=by decide)
  (hsw:swapsWith (.Name n n2) (some (.Name z zp)) ap.line X.env=pure false:=by rfl) :
  PS' X B (.Try body [.ExceptHandler (some (.Name x np)) (some n) [.Assign [.Name z zp] (.Name n n2) ap] hp] [] [] pos) (uTry X.K D tb i j):=by
 intro pins s σ H Dn I ⟨σ',H',D',sr,h,dr⟩
 refine wpAny_Try_except (wpAny_mono (hb (fun e s₁=>wpAny (model X.prog X.w) X.A (noteFrame e X.env) (fun _ s₂=>wpAny (model X.prog X.w) X.A (setFlight e none) (fun _ s₃=>wpAny (model X.prog X.w) X.A (handleBy e X.env [.ExceptHandler (some (.Name x np)) (some n) [.Assign [.Name z zp] (.Name n n2) ap] hp]) (SP X pins Dn) X.xe s₃) X.xe s₂) X.xe s₁)
  pins s σ H Dn σ' H' D' _ I sr h dr ?_) (fun f s₁ q=>?_) fun _ _ q=>q)
 ·rintro σ1' σ1 a s1 ⟨H1',H1,C,T,I1,x1,sr1,e1,C',ec,⟨cC,hmC⟩,hn⟩
  cases ec
  refine note_x I1 pl x1 fun h2 T2 I2 x2=>?_
  refine land_x I2 pl x2 fun h3 T3 I3 x3=>?_
  obtain⟨oe,vs,oT,ts,a0,q1,q2,_⟩:=id x3.fly
  refine wpAny_handleBy_cons (codeAny_handlers_test (ld_glob (inv_mk I3 (.ref a)) hg hm ?_ hdb)) (by intro q;cases q)
  refine excMatches_own (X:=X) I3.kIn cD hmC ⟨oe,q1,q2⟩ ?_
  show codeAny _ _ (.handlers (.ref a) [.ExceptHandler none (some n) [.Assign [.Name z zp] (.Name n n2) ap] hp] X.env) _ _
  refine codeAny_handlers_suite_as ?_
  refine land_x (X:=mk X (.ref a)) (inv_mk I3 (.ref a)) (plain_mk pl _) (T:=T3) (fl:=.none) ⟨x3.fly,x3.ha,x3.hT,x3.na,x3.nT,x3.pin⟩ fun h4 T4 I4 x4=>?_
  have I5:=track_x I4 x4
  refine store_ok (X:=mk X (.ref a)) (v:=.ref a) I5 hN hi (Or.inl hln) rfl (fun s5 I6=>?_) (.inr hln)
  have ps:=pss_one (ps_set (X:=mk X (.ref a)) (pos:=ap) (i:=j) hN hj (Or.inl hlz) (pe_var (pos:=n2) hi (Or.inl hln) hnd hncd) hsw (.inr hlz))
  have hiσ:i<σ1.length:=by rw[I1.len];exact(List.getElem?_eq_some_iff.mp hi).1
  refine no_ex (thn (ps pins s5 _ _ { nx:=fun σ6 H6=>σ6=(σ1.set i (some (.ref a))).set j (some (.ref a))/\H6=upd H1 a (.ext (ExcA a C)),rt:=fun _ _=>False } I6 ⟨.ref a,List.getElem?_set_self hiσ,rfl,rfl⟩) fun f s6 q=>?_)
  cases f with
  | next =>
   obtain⟨σ6,H6,I7,rfl,rfl⟩:=q
   show wpAny _ X.A (do bindName X.env n .none;unbindBehindTheSuite X.env n hp) _ _ _
   refine name_goes (inv_unmk I.ok I7) hN hi hln fun s7 I8=>?_
   refine⟨_,_,I8,dr.nx _ _ _ _ (hn a (sr1.hp.free x1.ha)) ?_ (e1.trans (Ev.new x1.ha))⟩
   have srn:SR X.K B σ1' (put H1' a (.exc C)) σ1 (upd H1 a (.ext (ExcA a C))):=sr1.new x1.ha (upd_same)
   have r:RP X.K (upd H1 a (.ext (ExcA a C))) (.ref a) (.ref a):=by simp[RP]
   have sr2:=(srn.set r i).set r j
   refine⟨by simp[sr2.len],fun k v' ek=>?_,sr2.hp,sr2.ev⟩
   by_cases hk:i=k
   ·subst hk
    by_cases hlt:i<σ1'.length
    ·rw[List.getElem?_set_self (by simpa using hlt)]at ek;cases ek
    ·rw[List.getElem?_eq_none (by simpa using Nat.le_of_not_lt hlt)]at ek;cases ek
   ·rw[List.getElem?_set_ne hk]at ek ⊢
    exact sr2.loc k v' ek
  | ret v=>obtain⟨_,_,_,_,_,z⟩:=q;exact z.elim
  | brk=>obtain⟨_,_,_,z⟩:=q;exact z.elim
  | cont=>obtain⟨_,_,_,z⟩:=q;exact z.elim
 ·cases f with
  | next=>exact wpAny_execs_nil q
  | ret v=>exact q
  | brk=>exact q
  | cont=>exact q
def isxOf(K:PySem.W.Frag)(D:Value)(x:PV)(H:PHp)(Q:VK'):Prop:=match x with
 | .ref a=>∃C b,H a=some (.exc C)/\XCls K C/\PySem.W.kitOne K (.ref C) D=some b/\Q (.bl b) H
 | _=>False
def uIsx(K:PySem.W.Frag)(D:Value)(ta:TE'):TE':=fun σ H Q=>ta σ H fun x H1=>isxOf K D x H1 Q
theorem call_isx{dv:V}(Dv:Value)(hD:∀u,RelV dv u->u=Dv):CallR X (.builtin "isinstance") (fun xs H Q=>∃a C b,xs=[.ref a,dv]/\H a=some (.ext (ExcA a C))/\XCls X.K C/\PySem.W.kitOne X.K (.ref C) Dv=some b/\Q (.bl b) H):=by
 intro pins s σ H xs us Q I r h
 obtain⟨a,C,b,rfl,ha,c,k,q⟩:=h
 obtain⟨u,w',rfl,rx,rc⟩:=vals2 r
 have e1:w'=Dv:=hD _ rc
 subst e1
 cases rx
 obtain⟨ph,_,_⟩:=(show ObjOk X.prog X.w H s.heap a (.ext (ExcA a C))from I.hok a _ ha)
 exact PySem.W.kia_one (kitx_exc c) I.kIn ph k (fun z=>nomatch z) fun tk=>⟨.bl b,H,I.tok _,rfl,q⟩
theorem low_isx{K:PySem.W.Frag}{dv':PV}{dv:V}{Dv:Value}(rd:∀H,RP K H dv' dv){σ:L2.St}{H:Hp}{Q:VK}(h:low K B (uIsx K Dv ta) σ H Q) :
  tCB (fun xs H Q=>∃a C b,xs=[.ref a,dv]/\H a=some (.ext (ExcA a C))/\XCls K C/\PySem.W.kitOne K (.ref C) Dv=some b/\Q (.bl b) H) (tCons (low K B ta) (tCons (tC dv) tNil)) σ H Q:=by
 obtain⟨σ',H',Q',s,h,k⟩:=h
 refine⟨σ',H',_,s,h,fun x' H1' x H1 h1 rx s1 e1=>?_⟩
 cases x' with
 | ref a =>
  obtain⟨C,b,ea,c,kk,q⟩:=h1
  simp only[RP]at rx
  subst rx
  exact⟨a,C,b,rfl,s1.hp _ _ ea,c,kk,k _ _ _ _ q (by simp[RP]) s1 e1⟩
 | _=>exact h1.elim
theorem qe_isx{pD:Pos}(hm:X.mg x=some (.ref D))(hgD:Gl X x)(hg:Gl X "isinstance")(hi:X.mg "isinstance"=none)(ha:PE' X B e ta)(hdb:(x==("__debug__":Str))=false:=by decide)
  (he:starEach [e,.Name x pD] X.env=(false,eval e X.env)::starEach [.Name x pD] X.env:=by rfl) (he2:starEach [.Name x pD] X.env=(false,eval (.Name x pD) X.env)::starEach [] X.env:=by rfl) (hpl:(backTo pos (starEach [.Name x pD] X.env)).any (·.1)=false:=by rfl) :
  PE' X B (.Call (.Name "isinstance" p) [e,.Name x pD] [] pos) (uIsx X.K (.ref D) ta) :=
 pe_imp (pe_callB (call_isx (dv:=.ref D) (.ref D) fun u r=>r) hg hi boot_isinstance (pa_cons ha (pa_cons (pe_glob hgD hm (v:=.ref D) rfl hdb) pa_nil he2) he) (by decide) (by decide) he hpl) fun _ _ _ h=>low_isx (dv':=.ref D) (fun _=>by simp[RP]) h
theorem qe_isxT{pD:Pos}{T:String}(hm:X.mg x=none)(hv:bootBuiltins x=some (.type T))(hgD:Gl X x)(hg:Gl X "isinstance")(hi:X.mg "isinstance"=none)(ha:PE' X B e ta)(hdb:(x==("__debug__":Str))=false:=by decide)(hxn:x≠"__name__":=by decide)
  (he:starEach [e,.Name x pD] X.env=(false,eval e X.env)::starEach [.Name x pD] X.env:=by rfl) (he2:starEach [.Name x pD] X.env=(false,eval (.Name x pD) X.env)::starEach [] X.env:=by rfl) (hpl:(backTo pos (starEach [.Name x pD] X.env)).any (·.1)=false:=by rfl) :
  PE' X B (.Call (.Name "isinstance" p) [e,.Name x pD] [] pos) (uIsx X.K (.type T) ta) :=
 pe_imp (pe_callB (call_isx (dv:=.ty T) (.type T) fun u r=>r) hg hi boot_isinstance (pa_cons ha (pa_cons (pe_bltn hgD hm hv (v:=.ty T) rfl hxn hdb) pa_nil he2) he) (by decide) (by decide) he hpl) fun _ _ _ h=>low_isx (dv':=.oth (.ty T)) (fun _=>by simp[RP]) h
end
end U
set_option linter.all false
set_option maxRecDepth 100000
set_option maxHeartbeats 4000000
namespace U
open PySem L2
def pr(p:Str×Bool):PV:=.tup [.str p.1,.bl p.2]
def told(xs:List (Str×Bool)):List PV:=(xs.filter (·.2)).map fun p=>PV.str p.1
end U
namespace U
open PySem L2
def IsV(σ:St')(H:PHp)(te:TE')(b:Bool):Prop:=∀Q:VK',Q (.bl b) H->te σ H Q
theorem isv_isx{K:PySem.W.Frag}{D:Value}{a C:Addr}{σ:St'}{H:PHp}{b:Bool}(ha:H a=some (.exc C))(c:XCls K C)(k:PySem.W.kitOne K (.ref C) D=some b):IsV (some (.ref a)::σ) H (uIsx K D (uVar 0)) b :=
 fun Q h=>(⟨C,b,ha,c,k,h⟩:isxOf K D (.ref a) H Q)
def pairs:List (Str×TE')->List Bool->List PV
 |(n,_)::r,b::bs=>.tup [.str n,.bl b]::pairs r bs
 | _,_=>[]
end U
namespace U
open PySem
theorem len0{P:List Value->Prop}(h:P [])(us:List Value)(hl:us.length=0):P us:=by
 cases us with
 | nil=>exact h
 | cons a r=>exact absurd hl (Nat.succ_ne_zero _)
theorem len1{P:List Value->Prop}(h:∀a,P [a])(us:List Value)(hl:us.length=1):P us:=by
 cases us with
 | nil=>exact absurd hl.symm (Nat.succ_ne_zero _)
 | cons a r=>exact len0 (P:=fun r=>P (a::r)) (h a) r (Nat.succ.inj hl)
theorem len2{P:List Value->Prop}(h:∀a b,P [a,b])(us:List Value)(hl:us.length=2):P us:=by
 cases us with
 | nil=>exact absurd hl.symm (Nat.succ_ne_zero _)
 | cons a r=>exact len1 (P:=fun r=>P (a::r)) (h a) r (Nat.succ.inj hl)
theorem len3{P:List Value->Prop}(h:∀a b c,P [a,b,c])(us:List Value)(hl:us.length=3):P us:=by
 cases us with
 | nil=>exact absurd hl.symm (Nat.succ_ne_zero _)
 | cons a r=>exact len2 (P:=fun r=>P (a::r)) (h a) r (Nat.succ.inj hl)
theorem len4{P:List Value->Prop}(h:∀a b c d,P [a,b,c,d])(us:List Value)(hl:us.length=4):P us:=by
 cases us with
 | nil=>exact absurd hl.symm (Nat.succ_ne_zero _)
 | cons a r=>exact len3 (P:=fun r=>P (a::r)) (h a) r (Nat.succ.inj hl)
end U
namespace U
open PySem PySem.Spec PyProof.Rows L2
variable {B:Bs}{X:Cx}
end U
set_option linter.all false
set_option maxRecDepth 100000
set_option maxHeartbeats 4000000
namespace L2
open PySem PySem.Spec PyProof.Rows
def compCx(X:Cx)(N2:List Str)(scope:Scope)(cl:List (Str×Addr))(s0:Shared)(H0:Hp)(fp:List Addr)(ps:List (Addr×Obj)):Cx :=
 { X with N:=N2,s₀:=s0,H₀:=H0,env:=compEnvC scope cl s0.heap.objs.size X.env,outer:=X.stack,stack:=X.stack,ex:=fp,fn:=fun x=>(cl.lookup x).isNone,pn:=ps,xe:=fun _ _=>False }
def sig0(nt:Nat)(js:List Nat)(σ:St):St:=List.replicate nt none++js.map fun j=>(σ[j]?).join
theorem lookup_relabel_free{env:Env}:∀{names:List (Str×NameKind)} {x:Str},names.lookup x=some .free ->
  (names.map fun(n,k)=>if (k==NameKind.free&&env.scope.kind==.function&&env.kindOf n==some .cell)then(n,NameKind.cell)else(n,k)).lookup x=some .cell ∨
  (names.map fun(n,k)=>if (k==NameKind.free&&env.scope.kind==.function&&env.kindOf n==some .cell)then(n,NameKind.cell)else(n,k)).lookup x=some .free
 | [],_,h=>by simp at h
 |(n,k)::r,x,h=>by
  have ih:=@lookup_relabel_free env r x
  show List.lookup x ((if (k==NameKind.free&&env.scope.kind==.function&&env.kindOf n==some .cell)=true then(n,NameKind.cell)else(n,k))::_)=_∨List.lookup x ((if (k==NameKind.free&&env.scope.kind==.function&&env.kindOf n==some .cell)=true then(n,NameKind.cell)else(n,k))::_)=_
  cases hx:x==n with
  | true =>
   simp only[List.lookup_cons,hx]at h
   cases h
   by_cases hc:(NameKind.free==NameKind.free&&env.scope.kind==.function&&env.kindOf n==some .cell)=true
   ·rw[if_pos hc];simp[List.lookup_cons,hx]
   ·rw[if_neg hc];simp[List.lookup_cons,hx]
  | false =>
   simp only[List.lookup_cons,hx]at h
   by_cases hc:(k==NameKind.free&&env.scope.kind==.function&&env.kindOf n==some .cell)=true
   ·rw[if_pos hc];simp only[List.lookup_cons,hx];exact ih h
   ·rw[if_neg hc];simp only[List.lookup_cons,hx];exact ih h
structure CompOk (X:Cx) (N2:List Str) (nt:Nat) (js:List Nat) (scope:Scope) (cl:List (Str × Addr)) (sc:Scope):Prop where
 clos:closureFor scope X.env=pure cl
 sub:∀x c,cl.lookup x=some c->X.env.cells.lookup x=some c
 xsc:X.env.scope=sc
 kind:scope.kind=.function
 nocell:∀y∈scope.names,y.2≠.cell
 loc:∀y∈scope.names,y.2=.local->scope.names.lookup y.1=some .local
 has:∀y∈scope.names,y.2=.free->y.1∈cl.map (·.1)
 frs:∀x∈N2.drop nt,scope.names.lookup x=some .free/\sc.names.lookup x=some .cell
 len:N2.length=nt+js.length
 pl:∀(k j:Nat),js[k]?=some j->X.N[j]?=N2[nt+k]?
theorem mem_lookup{α:Type}:∀{l:List (Str×α)} {x:Str},x∈l.map (·.1)->∃c,l.lookup x=some c
 | [],_,h=>by simp at h
 |(n,k)::r,x,h=>by
  cases hx:x==n with
  | true=>exact⟨k,by simp[List.lookup_cons,hx]⟩
  | false =>
   have h':x=n∨x∈r.map (·.1):=by simpa using h
   have hn:x≠n:=by intro e;subst e;simp at hx
   obtain⟨c,e⟩:=mem_lookup (h'.resolve_left hn)
   exact⟨c,by simp[List.lookup_cons,hx,e]⟩
theorem lookup_mem{α:Type}:∀{l:List (Str×α)} {x:Str} {c:α},l.lookup x=some c->(x,c)∈l
 | [],_,_,h=>by simp at h
 |(n,k)::r,x,c,h=>by
  cases hx:x==n with
  | true =>
   simp only[List.lookup_cons,hx]at h
   have e:x=n:=by simpa using hx
   cases h;subst e;exact List.mem_cons_self
  | false =>
   simp only[List.lookup_cons,hx]at h
   exact List.mem_cons_of_mem _ (lookup_mem h)
section
variable {X:Cx}{pins:List (Addr×Obj)}{σ:St}{H:Hp}{s:Shared}{N2:List Str}{nt:Nat}{js:List Nat}{scope sc:Scope}{cl:List (Str×Addr)}{fp:List Addr}
theorem CompOk.kindOf(O:CompOk X N2 nt js scope cl sc){x:Str}{C:Addr}(h:(compEnvC scope cl C X.env).kindOf x=some .cell∨(compEnvC scope cl C X.env).kindOf x=some .free):∃c,cl.lookup x=some c:=by
 have h':(relabel scope X.env).names.lookup x=some .cell∨(relabel scope X.env).names.lookup x=some .free:=h
 have key:∀(k:NameKind),(relabel scope X.env).names.lookup x=some k->(k=.cell∨k=.free)->∃y∈scope.names,y.1=x/\(y.2=.cell∨y.2=.free):=fun k e hk=>by
  have m:=lookup_mem e
  obtain⟨⟨n,k'⟩,hm,e'⟩:=List.mem_map.mp m
  by_cases hc:(k'==NameKind.free&&X.env.scope.kind==.function&&X.env.kindOf n==some .cell)=true
  ·simp only[hc,if_true]at e'
   have e1:n=x:=congrArg Prod.fst e'
   refine⟨(n,k'),hm,e1,.inr ?_⟩
   rw[Bool.and_eq_true,Bool.and_eq_true]at hc
   exact beq_iff_eq.mp hc.1.1
  ·have e'':(n,k')=(x,k):=by
    dsimp only at e'
    rw[if_neg hc]at e'
    exact e'
   cases e''
   exact⟨(x,k),hm,rfl,hk⟩
 obtain⟨y,hy,rfl,hk⟩:=h'.elim (fun e=>key _ e (.inl rfl)) fun e=>key _ e (.inr rfl)
 rcases hk with hk | hk
 ·exact absurd hk (O.nocell y hy)
 ·exact mem_lookup (O.has y hy hk)
theorem compCx_ok(O:CompOk X N2 nt js scope cl sc)(I:Inv X pins σ H s)(hf:∀b∈fp,FpOk X pins H b)(hlt:∀b∈fp,b<s.heap.objs.size):(compCx X N2 scope cl s H fp (X.pn++pins)).Ok where
 mod:=I.ok.mod
 kind:=O.kind
 glob:=I.ok.glob
 blt:=I.ok.blt
 above:=Nat.le_refl _
 inj:=fun x y c h1 h2=>I.ok.inj x y c (O.sub x c h1) (O.sub y c h2)
 has:=fun x h=>O.kindOf h
 cab:=fun x c h1 h2=>by
  have h1':(cl.lookup x).isNone=true:=h1
  have h2':cl.lookup x=some c:=h2
  rw[h2']at h1';cases h1'
 hd:=I.ok.hd
 frames:=I.ok.frames
 stk:=.inl rfl
 exf:=fun b hb=>⟨Nat.ne_of_lt (hlt b hb),fun x c e=>(hf b hb).2.2.2.2.1 x c (O.sub x c e)⟩
 bs:=I.bs
 bsz:=Nat.le_trans I.ok.bsz I.sz
 noex:=fun b o e hb=>by
  obtain⟨_,_,_,h3,_⟩:=hf b hb
  rcases h3 with h3 | h3
  ·exact I.ok.noex b o e h3
  ·exact absurd (Nat.lt_of_lt_of_le (Heap.lt_size (I.ok.bs b o e).1) h3) (Nat.lt_irrefl _)
 exfs:=fun b hb hs=>by
  obtain⟨_,h1,h2,_⟩:=hf b hb
  rcases List.mem_cons.mp (I.stkSub b hs)with e | e
  ·exact h1 e
  ·exact h2 e
 funs:=I.stack
 frf:=I.stkFree
theorem comp_start(O:CompOk X N2 nt js scope cl sc)(I:Inv X pins σ H s)(hf:∀b∈fp,FpOk X pins H b)(hlt:∀b∈fp,b<s.heap.objs.size){h4:Heap}{t4:Nat}(hn:h4.Ns s.heap.objs.size fun _=>none)
  (hk:∀b o,s.heap.get? b=some o->h4.get? b=some o):Inv (compCx X N2 scope cl s H fp (X.pn++pins)) [] (sig0 nt js σ) H { s with heap:=h4,toks:=t4 }:=by
 refine⟨compCx_ok O I hf hlt,rfl,I.bare,Un.kept hk,⟨_,hn,fun i x v e1 e2 e3=>?_⟩,fun x c e=>?_,I.hok.fresh (Nat.le_refl _),fun x c e=>I.freeC x c (O.sub x c e),fun p hp=>?_,I.hok.kept hk,?_⟩
 ·unfold sig0 at e2
  by_cases hi:i<nt
  ·rw[List.getElem?_append_left (by simpa using hi),List.getElem?_replicate]at e2
   split at e2<;>cases e2
  ·obtain⟨k,rfl⟩:∃k,i=nt+k:=⟨i - nt,by omega⟩
   rw[List.getElem?_append_right (by simp),List.length_replicate,Nat.add_sub_cancel_left,List.getElem?_map]at e2
   cases ej:js[k]? with
   | none=>rw[ej]at e2;cases e2
   | some j =>
    rw[ej]at e2
    have e2':(σ[j]?).join=some v:=Option.some.inj e2
    have eσ:σ[j]?=some (some v):=by
     cases q:σ[j]? with
     | none=>rw[q]at e2';cases e2'
     | some o=>rw[q]at e2';exact congrArg some e2'
    have eN:X.N[j]?=some x:=(O.pl k j ej).trans e1
    have hx:x∈N2.drop nt:=by
     have:(N2.drop nt)[k]?=some x:=by rw[List.getElem?_drop];exact e1
     exact List.mem_of_getElem? this
    obtain⟨f1,f2⟩:=O.frs x hx
    have vis:Vis X.env.scope x:=.inr (.inl (by rw[O.xsc];exact f2))
    obtain⟨m,hnX,hl⟩:=I.loc
    obtain⟨u,r,l⟩:=hl j x v eN eσ vis
    refine⟨u,r,.inr ⟨?_,?_⟩⟩
    ·exact lookup_relabel_free f1
    ·rcases l with⟨k1,_⟩ |⟨_,c,ec,ic⟩
     ·have k2:sc.names.lookup x=some .local:=by rw[←O.xsc];exact k1
      rw[f2]at k2;cases k2
     ·obtain⟨c',ec'⟩:=mem_lookup (O.has (x,.free) (lookup_mem f1) rfl)
      have:=O.sub x c' ec'
      rw[ec]at this;cases this
      obtain⟨o,ho,hd⟩:=ic
      exact⟨c,ec',o,hk _ _ ho,hd⟩
 ·obtain⟨v,o,ho,hd⟩:=I.cell x c (O.sub x c e)
  exact⟨v,o,hk _ _ ho,hd⟩
 ·have hp':p∈X.pn++pins:=by
   have hp2:p∈(X.pn++pins)++[]:=hp
   rwa [List.append_nil]at hp2
  obtain⟨e,n,ne,nf,d⟩:=I.pin p hp'
  refine⟨hk _ _ e,n,Nat.ne_of_lt (Heap.lt_size e),fun hb=>?_,d⟩
  rcases List.mem_cons.mp (I.stkSub p.1 hb)with z | z
  ·exact ne z
  ·exact nf z
 ·unfold sig0
  show _=N2.length
  rw[List.length_append,List.length_replicate,List.length_map,O.len]
theorem comp_end{σ':St}{H':Hp}{s':Shared}{pl:List (Addr×Obj)}(I:Inv X pins σ H s)(hf:∀b∈fp,FpOk X pins H b)(J:Inv (compCx X N2 scope cl s H fp (X.pn++pins)) pl σ' H' s'):Inv X pins σ H' s' :=
 I.call' (ch:=fp) J.os J.base J.hok J.bare fun b hb=>by
  obtain⟨h0,h1,h2,h3,h4,h5⟩:=hf b hb
  exact⟨h3,h1,h4,h5⟩
end
end L2
namespace L2
open PySem PySem.Spec PyProof.Rows
def PIf(Y:Cx)(ifs:List Expr)(t:TT):Prop :=
 ∀(pins:List (Addr×Obj)) (s:Shared) (σ:St) (H:Hp) (Q:Bool->Hp->Prop),Inv Y pins σ H s->t σ H Q ->
  wpAny (model Y.prog Y.w) Y.A (forIn ifs true fun c r=>if r=true then do let ok←isTrue c Y.env (eval c Y.env);pure (ForInStep.yield ok)else pure (ForInStep.yield r)) (TP Y pins σ Q) Y.xe s
def tYes:TT:=fun _ H Q=>Q true H
theorem pif_nil{Y:Cx}:PIf Y [] tYes:=fun _ _ _ H _ I h=>wpAny_tests_nil ⟨H,I,h⟩
theorem pif_one{Y:Cx}{c:Expr}{t:TT}(h:PT Y c t):PIf Y [c] t:=fun pins s σ H Q I hw=>wpAny_tests_one (h pins s σ H Q I hw)
def turnC(acc:Addr)(J:It)(g:TG)(tt:TT)(te:TE)(W:Nat->Nat->L2.St->Hp->Prop)(i m:Nat)(σ0:L2.St)(H:Hp):Prop :=
 J.go i H/\∀x H',J.yld i H x H'->g x σ0 H' fun σ3 H2=>tt σ3 H2 fun b H3 =>
  if b=true then te σ3 H3 fun y H4=>∃ys,H4 acc=some (.lst ys)/\ys.length<sizeLine/\∃m',m'<m/\W (i+1) m' σ3 (upd H4 acc (.lst (ys++[y])))
  else ∃m',m'<m/\W (i+1) m' σ3 H3
def tComp(nt:Nat)(js:List Nat)(wi:TI)(g:TG)(tt:TT)(te:TE):TE:=fun σ H Q=>wi σ H fun J H1=>∀acc,H1 acc=none ->
 ∃W:Nat->Nat->L2.St->Hp->Prop,(∃m,W 0 m (sig0 nt js σ) (upd H1 acc (.lst [])))/\∀i m σ0 H,W i m σ0 H->(J.stop i H/\Q (.ref acc) H)∨turnC acc J g tt te W i m σ0 H
structure CompB (Y:Cx) (tg:Expr) (ifs:List Expr) (elt:Expr) (g:TG) (tt:TT) (te:TE):Prop where
 tgt:PG Y tg g
 tst:PIf Y ifs tt
 elt:PE Y elt te
theorem compLoop_own{prog:Program}{w:World}{A:Around}{R:Result->Shared->Prop}{s:Shared}{elt target iter:Expr}{ifs:List Expr}{scope:Scope}{pos:Pos}{it acc:Value}{env:Env}(I:Nat->Shared->Prop)
  (turn:∀n s,I n s->wpAny (model prog w) A (pyNext it) (fun r s₁=>match r with
   | none=>R (.ok .next) s₁
   | some v=>wpAny (model prog w) A (letOwnedTupleGo target it v) (fun _ s₀=>wpAny (model prog w) A (assign target env v) (fun _ s₂ =>
     wpAny (model prog w) A (forIn ifs true fun c r=>if r=true then do let ok←isTrue c env (eval c env);pure (ForInStep.yield ok)else pure (ForInStep.yield r)) (fun ok s₃ =>
      if ok=true then wpAny (model prog w) A (eval elt env) (fun x s₄ =>
       wpAny (model prog w) A (call (.builtin "list.append") [acc,x]) (fun _ s₅=>∃m,m<n/\I m s₅) (fun _ _=>False) s₄) (fun _ _=>False) s₃
      else ∃m,m<n/\I m s₃) (fun _ _=>False) s₂) (fun _ _=>False) s₀) (fun _ _=>False) s₁) (fun _ _=>False) s)
  (n:Nat) (h:I n s) :
  codeAny (model prog w) A (.compLoop (.ListComp elt [⟨target,iter,ifs,0⟩] scope pos) 0 it acc env) R s:=by
 refine codeAny_loop rfl I (fun n s hI=>?_) n h
 show wpAny _ A ((compTurn (.ListComp elt [⟨target,iter,ifs,0⟩] scope pos) 0 it acc env).onRaise (fun x=>do noteFrame x env;theTreesLotGoes x)) _ _ s
 refine wpAny_noted ?_
 rw[compTurn_list]
 refine wpAny_bind (wpAny_standAt (wpAny_bind (wpAny_mono (turn n s hI) (fun r s₁ h₁=>?_) fun _ _ h'=>h'.elim)))
 cases r with
 | none=>exact wpAny_pure h₁
 | some v =>
  refine wpAny_bind (wpAny_mono h₁ (fun _ s₀ h₀=>?_) fun _ _ h'=>h'.elim)
  refine wpAny_bind (wpAny_mono h₀ (fun _ s₂ h₂=>wpAny_bind (wpAny_mono h₂ (fun ok s₃ h₃=>?_) fun _ _ h'=>h'.elim)) fun _ _ h'=>h'.elim)
  cases ok with
  | false=>exact wpAny_pure ⟨rfl,h₃⟩
  | true =>
   exact wpAny_bind (wpAny_bind (wpAny_mono h₃ (fun x s₄ h₄=>wpAny_bind (wpAny_mono h₄ (fun _ s₅ h₅=>wpAny_pure (wpAny_pure ⟨rfl,h₅⟩)) fun _ _ h'=>h'.elim)) fun _ _ h'=>h'.elim))
section
variable {X:Cx}{pins:List (Addr×Obj)}{σ:St}{H:Hp}{s:Shared}{N2:List Str}{nt:Nat}{js:List Nat}{scope sc:Scope}{cl:List (Str×Addr)}{fp:List Addr}{elt iter tg:Expr}{ifs:List Expr}{pos:Pos}
 {wi:TI} {g:TG} {tt:TT} {te:TE}
theorem comp_run(O:CompOk X N2 nt js scope cl sc)(hc:X.calm=true)(B:∀(s0:Shared) (H0:Hp) (fp:List Addr) (ps:List (Addr×Obj)),CompB (compCx X N2 scope cl s0 H0 fp ps) tg ifs elt g tt te)
  {it:Addr} {tn:Nat->Heap->Prop} {J:It} {E:Value->Shared->Prop} {Q:VK} {RR:Value->Addr->Result->Shared->Prop}
  (I:Inv X pins σ H s) (T:Turn X.prog X.w X.K tg J fp it tn) (st:tn 0 s.heap) (hf:∀b∈fp,FpOk X pins H b)
  (h:∀acc,H acc=none->∃W:Nat->Nat->L2.St->Hp->Prop,(∃m,W 0 m (sig0 nt js σ) (upd H acc (.lst [])))/\∀i m σ0 H,W i m σ0 H->(J.stop i H/\Q (.ref acc) H)∨turnC acc J g tt te W i m σ0 H)
  (hRR:∀(acc C:Addr) (s':Shared) (H':Hp) (m:Str->Option Value),s'.heap.Ns C m->Inv X pins σ H' s'->H' C=none->C≠X.env.locals->X.s₀.heap.objs.size≤C->(∀x c,X.env.cells.lookup x=some c->c≠C)->(∀p∈X.pn++pins,p.1≠C)->Q (.ref acc) H'->RR (.ref acc) C (.ok .next) s') :
  wpAny (model X.prog X.w) X.A (newList []) (fun acc s₃=>wpAny (model X.prog X.w) X.A (newFunctionEnv scope X.env.globals cl [] X.env.qual none .none (some X.env)) (fun cenv s₄ =>
   codeAny (model X.prog X.w) X.A (.compStart (.ListComp elt [⟨tg,iter,ifs,0⟩] scope pos) 0 (.ref it) acc { cenv with scope:=relabel scope X.env }) (RR acc cenv.locals) s₄) E s₃) E s:=by
 have hlt:∀b∈fp,b<s.heap.objs.size:=fun b hb=>by
  obtain⟨o,e,_⟩:=T.obj _ _ st b hb
  exact Heap.lt_size e
 have hnA:H s.heap.objs.size=none:=I.hok.fresh (Nat.le_refl _)
 obtain⟨W,⟨m0,w0⟩,turn⟩:=h s.heap.objs.size hnA
 refine wpAny_newObj_type (wpAny_newFunctionEnv O.nocell (by intro y hy;simp at hy) (fun h₁ hns₁ hsb₁=>?_) O.kind)
 dsimp only at hns₁ hsb₁ ⊢
 have I3:Inv X pins σ (upd H s.heap.objs.size (.lst [])) { s with heap:=s.heap.push { cls:=.type "list",dict:=none,data:=.seq ([]:List Value).toArray } } :=
  I.laid (t':=s.toks) (fun b u e=>Heap.get?_push_of_some _ e) (Nat.le_refl _) ⟨by show 0≤sizeLine;exact Nat.zero_le _,[],0,.nil,Heap.get?_push_size _ rfl⟩
 generalize hs3:({ s with heap:=s.heap.push { cls:=.type "list",dict:=none,data:=.seq ([]:List Value).toArray } }:Shared)=s3 at I3
 have e3:s3.heap=s.heap.push { cls:=.type "list",dict:=none,data:=.seq ([]:List Value).toArray }:=by rw[←hs3]
 rw[←e3]at hns₁ hsb₁ ⊢
 have et:s3.toks=s.toks:=by rw[←hs3]
 have hf3:∀b∈fp,FpOk X pins (upd H s.heap.objs.size (.lst [])) b:=fun b hb=>by
  obtain⟨f0,f⟩:=hf b hb
  exact⟨by rw[upd_ne (Nat.ne_of_lt (hlt b hb))];exact f0,f⟩
 have hlt3:∀b∈fp,b<s3.heap.objs.size:=fun b hb=>by rw[e3,Heap.size_push];exact Nat.lt_succ_of_lt (hlt b hb)
 have hk4:∀b o,s3.heap.get? b=some o->h₁.get? b=some o:=fun b o e=>hsb₁.extBut b o (Nat.ne_of_lt (Heap.lt_size e)) (Heap.get?_push_of_some _ e)
 have hns':h₁.Ns s3.heap.objs.size fun _=>none:=hns₁
 have I4:=comp_start (t4:=s3.toks+([]:List (Str×Value)).length) O I3 hf3 hlt3 hns' hk4
 have st4:tn 0 h₁:=T.keep _ _ _ st fun b hb o e=>hk4 b o (by rw[e3];exact Heap.get?_push_of_some _ e)
 have B4:=B s3 (upd H s.heap.objs.size (.lst [])) fp (X.pn++pins)
 generalize hY:compCx X N2 scope cl s3 (upd H s.heap.objs.size (.lst [])) fp (X.pn++pins)=Y at I4 B4
 have yP:Y.prog=X.prog:=by rw[←hY];rfl
 have yw:Y.w=X.w:=by rw[←hY];rfl
 have yK:Y.K=X.K:=by rw[←hY];rfl
 have yA:Y.A=X.A:=by rw[←hY];rfl
 have yc:Y.calm=true:=by rw[←hY];exact hc
 have yx:Y.xe=fun _ _=>False:=by rw[←hY];rfl
 have ye:Y.env=compEnvC scope cl s3.heap.objs.size X.env:=by rw[←hY];rfl
 have fpY:∀{H':Hp},(∀b∈fp,H' b=none)->∀b∈fp,FpOk Y [] H' b:=fun hn b hb=>by
  obtain⟨f0,f1,f2,f3,f4,f5⟩:=hf3 b hb
  rw[←hY]
  refine⟨hn b hb,Nat.ne_of_lt (hlt3 b hb),fun hs=>?_,.inl hb,fun x c e=>f4 x c (O.sub x c e),fun p hp=>?_⟩
  ·rcases List.mem_cons.mp (I3.stkSub b hs)with e | e
   ·exact f1 e
   ·exact f2 e
  ·have hp2:p∈(X.pn++pins)++[]:=hp
   rw[List.append_nil]at hp2
   exact f5 p hp2
 have fin:∀{σ':St} {H':Hp} {s':Shared} {pl:List (Addr×Obj)},Inv Y pl σ' H' s'->Q (.ref s.heap.objs.size) H'->RR (.ref s.heap.objs.size) s3.heap.objs.size (.ok .next) s':=fun {σ' H' s' pl} I' q=>by
  have J':Inv X pins σ H' s':=comp_end I3 hf3 (hY▸I')
  obtain⟨m,hn,_⟩:=I'.loc
  have hfr:=I'.free
  rw[ye]at hn hfr
  refine hRR _ _ s' H' m hn J' hfr (Nat.ne_of_gt I3.lt) I3.sz (fun x c e z=>?_) (fun p hp z=>?_) q
  ·obtain⟨v,q⟩:=I3.cell x c e
   exact absurd (Nat.lt_of_lt_of_le q.lt (by rw[z];exact Nat.le_refl _)) (Nat.lt_irrefl _)
  ·exact absurd (Nat.lt_of_lt_of_le (Heap.lt_size (I3.pin p hp).1) (by rw[z];exact Nat.le_refl _)) (Nat.lt_irrefl _)
 have loop:∀s4:Shared,s4={ s3 with heap:=h₁,toks:=s3.toks+([]:List (Str×Value)).length } ->
   codeAny (model X.prog X.w) X.A (.compLoop (.ListComp elt [⟨tg,iter,ifs,0⟩] scope pos) 0 (.ref it) (.ref s.heap.objs.size) (compEnvC scope cl s3.heap.objs.size X.env)) (RR (.ref s.heap.objs.size) s3.heap.objs.size) s4:=by
  rintro s4 rfl
  refine compLoop_own (fun n s'=>∃i σ0 H',Inv Y [] σ0 H' s'/\tn i s'.heap/\(∀b∈fp,H' b=none)/\W i n σ0 H') ?_ m0
   ⟨0,_,_,I4,st4,fun b hb=>(hf3 b hb).1,w0⟩
  rintro n s5 ⟨i,σ5,H5,I5,st5,fr5,w5⟩
  rcases turn i n σ5 H5 w5 with⟨stop,q⟩ |⟨go,step⟩
  ·have r:=T.done Y yP yw yK yc i [] s5 _ H5 (fun _ _=>False) I5 (fpY fr5) st5 stop
   rw[yA]at r
   refine thn r fun r s6 ⟨hr,I6⟩=>?_
   subst hr
   exact fin I6 q
  ·have r:=T.item Y yP yw yK yc i [] s5 _ H5 (fun _ _=>False) I5 (fpY fr5) st5 go
   rw[yA]at r
   refine thn r fun r s6 ⟨u,hr,h6⟩=>?_
   subst hr
   refine thn h6 fun _ s7 ⟨x,H7,I7,r7,y7,st7,fr7⟩=>?_
   have I7':=I7.pinned (fpY fr7) (T.obj _ _ st7)
   have r:=B4.tgt _ s7 _ H7 x u _ I7' r7 (step x H7 y7)
   rw[yP,yw,yA,yx,ye]at r
   refine thn r fun _ s8 ⟨σ8,H8,I8,q8⟩=>?_
   have r:=B4.tst _ s8 σ8 H8 _ I8 q8
   rw[yP,yw,yA,yx,ye]at r
   refine thn r fun ok s9 ⟨H9,I9,q9⟩=>?_
   have back:∀{s':Shared} {H':Hp},Inv Y ([]++pinsAt fp s7.heap) σ8 H' s'->(Inv Y [] σ8 H' s'/\tn (i+1) s'.heap/\∀b∈fp,H' b=none):=fun {s' H'} I'=>by
    refine⟨I'.unpinned,T.keep _ _ _ st7 fun b hb o e=>(I'.pin (b,o) (List.mem_append_right _ (List.mem_append_right _ (mem_pinsAt hb e)))).1,fun b hb=>?_⟩
    obtain⟨o,e,d⟩:=T.obj _ _ st7 b hb
    exact(I'.pin (b,o) (List.mem_append_right _ (List.mem_append_right _ (mem_pinsAt hb e)))).2.1
   cases ok with
   | false =>
    have q9':∃m',m'<n/\W (i+1) m' σ8 H9:=q9
    obtain⟨m',hm,w9⟩:=q9'
    obtain⟨b1,b2,b3⟩:=back I9
    show ∃m,m<n/\_
    exact⟨m',hm,i+1,σ8,H9,b1,b2,b3,w9⟩
   | true =>
    have q9':te σ8 H9 fun y H4=>∃ys,H4 s.heap.objs.size=some (.lst ys)/\ys.length<sizeLine/\∃m',m'<n/\W (i+1) m' σ8 (upd H4 s.heap.objs.size (.lst (ys++[y]))):=q9
    have r:=B4.elt _ s9 σ8 H9 _ I9 q9'
    rw[yP,yw,yA,yx,ye]at r
    show wpAny _ _ (eval elt _) _ _ s9
    refine thn r fun y s10 ⟨yv,H10,I10,r10,q10⟩=>?_
    obtain⟨ys,a1,a2,m',hm,w10⟩:=q10
    have r:=mt_append (X:=Y) _ s10 σ8 H10 (.ref s.heap.objs.size) [yv] (.ref s.heap.objs.size) [y] (fun _ H'=>H'=upd H10 s.heap.objs.size (.lst (ys++[yv]))) I10 rfl (.cons r10 .nil) ⟨_,ys,yv,rfl,rfl,a1,a2,rfl⟩
    rw[yP,yw,yA,yx]at r
    refine thn r fun _ s11 ⟨_,H11,I11,_,e11⟩=>?_
    subst e11
    obtain⟨b1,b2,b3⟩:=back I11
    exact⟨m',hm,i+1,σ8,_,b1,b2,b3,w10⟩
 have st4':tn 0 ({ s3 with heap:=h₁,toks:=s3.toks+([]:List (Str×Value)).length }:Shared).heap:=st4
 have hs4:({ s with heap:=h₁,toks:=s.toks+([]:List (Str×Value)).length }:Shared)={ s3 with heap:=h₁,toks:=s3.toks+([]:List (Str×Value)).length }:=by rw[←hs3]
 exact codeAny_compStart_list (loop _ hs4) (T.self _ 0 _ _ _ st4 (loop _ hs4))
theorem pe_compO(O:CompOk X N2 nt js scope cl sc)(hc:X.calm=true)(hi:PI X tg iter wi)(B:∀(s0:Shared) (H0:Hp) (fp:List Addr) (ps:List (Addr×Obj)),CompB (compCx X N2 scope cl s0 H0 fp ps) tg ifs elt g tt te)
  (hs:∀x,foldedSetIterable iter X.env x=pure x:=by intro _;rfl):PE X (.ListComp elt [⟨tg,iter,ifs,0⟩] scope pos) (tComp nt js wi g tt te):=by
 intro pins s σ H Q I h
 rw[eval_ListComp]
 refine wpAny_comprehension_free (use:=none) rfl hs O.clos O.kind O.loc (thn (hi pins s σ H _ I h) fun xv s1 h1=>thn h1 fun itv s2 h2=>?_)
 obtain⟨it,fp,tn,J,H2,e,I2,T,st2,f2,q⟩:=h2
 subst e
 refine comp_run (RR:=fun acc C=>compPost (model X.prog X.w) X.A X.xe none (EP X pins σ Q) acc C) O hc B I2 T st2 f2 q ?_
 intro acc C s' H' m hn J' c1 c2 c3 c4 c5 q'
 refine⟨m,hn,fun h' hsb=>⟨.ref acc,H',?_,rfl,q'⟩⟩
 exact J'.turned (t':=s'.toks) (fun b o hb e=>hsb.extBut b o hb e) c1 (Ne.symm c2 |> fun z=>fun y=>z y.symm) (.inr c3) c4 c5
theorem ps_setCO{i:Nat}{y:Str}{py spos:Pos}(hN:X.N.Nodup)(hy:X.N[i]?=some y)(hl:Loc X.env.scope y)(O:CompOk X N2 nt js scope cl sc)(hc:X.calm=true)(hi:PI X tg iter wi)
  (B:∀(s0:Shared) (H0:Hp) (fp:List Addr) (ps:List (Addr×Obj)),CompB (compCx X N2 scope cl s0 H0 fp ps) tg ifs elt g tt te)
  (hsw:swapsWith (.ListComp elt [⟨tg,iter,ifs,0⟩] scope pos) (some (.Name y py)) spos.line X.env=pure true:=by rfl)
  (hs:∀x,foldedSetIterable iter X.env x=pure x:=by intro _;rfl) (hfn:X.fn y=true∨X.env.scope.names.lookup y=some .local:=by first | exact .inl rfl | exact .inr rfl | assumption) :
  PS X (.Assign [.Name y py] (.ListComp elt [⟨tg,iter,ifs,0⟩] scope pos) spos) (tAsg (tComp nt js wi g tt te) (gName i)):=by
 intro pins s σ H D I h
 rw[exec_Assign_Name_used _ _ _ _ hsw]
 refine wpAny_bind (wpAny_standAt (wpAny_bind ?_))
 show wpAny _ X.A (do let _←comprehension (.ListComp elt [⟨tg,iter,ifs,0⟩] scope pos) scope X.env _ (newList []) false (eval iter X.env) (some (assign (.Name y py) X.env))) _ _ s
 refine wpAny_bind (wpAny_mono (wpAny_comprehension_free (use:=some (assign (.Name y py) X.env)) (Q:=fun _ s'=>SP X pins D .next s') rfl hs O.clos O.kind O.loc
  (thn (hi pins s σ H _ I h) fun xv s1 h1=>thn h1 fun itv s2 h2=>?_)) (fun _ s' hq=>wpAny_pure (wpAny_pure hq)) fun _ _ e=>e)
 obtain⟨it,fp,tn,J,H2,e,I2,T,st2,f2,q⟩:=h2
 subst e
 refine comp_run (Q:=fun v H1=>gName i v σ H1 D.nx) (RR:=fun acc C=>compPost (model X.prog X.w) X.A X.xe (some (assign (.Name y py) X.env)) (fun _ s'=>SP X pins D .next s') acc C) O hc B I2 T st2 f2 q ?_
 intro acc C s' H' m hn J' c1 c2 c3 c4 c5 q'
 show wpAny _ X.A (assign (.Name y py) X.env (.ref acc)) _ _ _
 refine wpAny_assign_Name (store_ok2 (v:=.ref acc) J' hN hy hl rfl (fun s2 I2' ⟨a,sb,ha⟩=>?_) hfn)
 have hCa:C≠a:=by
  rcases ha with ha | ha
  ·rw[ha];exact c2
  ·exact fun z=>c4 y a ha z.symm
 refine⟨m,hn.sameBut sb hCa,fun h' hsb=>⟨_,H',?_,q'⟩⟩
 exact I2'.turned (t':=s2.toks) (fun b o hb e=>hsb.extBut b o hb e) c1 c2 (.inr c3) c4 c5
end
end L2
set_option linter.all false
set_option maxRecDepth 100000
set_option maxHeartbeats 4000000
namespace U
open PySem PySem.Spec PyProof.Rows L2
variable {B:Bs}{X:Cx}{pos:Pos}
def sigU(nt:Nat)(js:List Nat)(σ:St'):St':=List.replicate nt none++js.map fun j=>(σ[j]?).join
theorem SR.sig{K:PySem.W.Frag}{σ':St'}{H':PHp}{σ:L2.St}{H:Hp}(s:SR K B σ' H' σ H)(nt:Nat)(js:List Nat):SR K B (sigU nt js σ') H' (sig0 nt js σ) H:=by
 refine⟨by simp[sigU,sig0],fun i v' e=>?_,s.hp,s.ev⟩
 unfold sigU at e
 unfold sig0
 by_cases hi:i<nt
 ·rw[List.getElem?_append_left (by simpa using hi),List.getElem?_replicate]at e
  split at e<;>cases e
 ·rw[List.getElem?_append_right (by simp;omega),List.length_replicate,List.getElem?_map]at e ⊢
  cases ej:js[i - nt]? with
  | none=>rw[ej]at e;cases e
  | some j =>
   rw[ej]at e
   have e2:(σ'[j]?).join=some v':=Option.some.inj e
   cases q:σ'[j]? with
   | none=>rw[q]at e2;cases e2
   | some o =>
    rw[q]at e2
    have e3:σ'[j]?=some (some v'):=by rw[q];exact congrArg some e2
    obtain⟨v,a,b⟩:=s.loc j v' e3
    exact⟨v,by show some ((σ[j]?).join)=_;rw[a];rfl,b⟩
def uCompL(ok:PHp->Prop)(g:TG')(tt:TT')(te:TE')(acc:Addr)(Q:VK'):List PV->St'->PHp->Prop
 | [],σ,H=>ok H/\Q (.ref acc) H
 | x::r,σ,H=>ok H/\g x σ H fun σ3 H2=>tt σ3 H2 fun b H3=>cif b (te σ3 H3 fun y H4=>∃l,H4 acc=some (.lst l)/\l.length<sizeLine/\uCompL ok g tt te acc Q r σ3 (put H4 acc (.lst (l++[y])))) (uCompL ok g tt te acc Q r σ3 H3)
def uComp(nt:Nat)(js:List Nat)(wi:TI')(g:TG')(tt:TT')(te:TE'):TE':=fun σ H Q=>wi σ H fun J H1=>∀acc,H1 acc=none->uCompL J.ok g tt te acc Q J.items (sigU nt js σ) (put H1 acc (.lst []))
def PIf'(Y:Cx)(B:Bs)(ifs:List Expr)(t:TT'):Prop:=PIf Y ifs (lowT Y.K B t)
def uYes:TT':=fun _ H Q=>Q true H
theorem qif_nil{Y:Cx}:PIf' Y B [] uYes:=fun pins s σ H Q I ⟨σ',H',Q',sr,h,k⟩=>pif_nil pins s σ H Q I (k true H' H h sr (Ev.refl _ _))
theorem qif_one{Y:Cx}{c:Expr}{t:TT'}(h:PT' Y B c t):PIf' Y B [c] t:=pif_one h
theorem low_comp{K:PySem.W.Frag}{nt:Nat}{js:List Nat}{wi:TI'}{g:TG'}{tt:TT'}{te:TE'}{σ:L2.St}{H:Hp}{Q:VK}(h:low K B (uComp nt js wi g tt te) σ H Q) :
  tComp nt js (lowI K B wi) (lowG K B g) (lowT K B tt) (low K B te) σ H Q:=by
 obtain⟨σ',H',Q',s,h,k⟩:=h
 refine⟨σ',H',_,s,h,fun J' H1' J H1 h1 wk s1 e1 acc ha=>?_⟩
 have h1:=h1 acc (s1.hp.free ha)
 have sn:SR K B σ' (put H1' acc (.lst [])) σ (upd H1 acc (.lst [])):=s1.new ha ⟨[],upd_same,RPs.nil _⟩
 have en:Ev H1' H1 (put H1' acc (.lst [])) (upd H1 acc (.lst [])):=Ev.new ha
 refine⟨fun i m σ2 H2=>i≤J'.items.length/\m=J'.items.length - i/\∃σ2' H2',SR K B σ2' H2' σ2 H2/\SR K B σ' H2' σ H2/\Ev H1' H1 H2' H2/\uCompL J'.ok g tt te acc Q' (J'.items.drop i) σ2' H2',
  ⟨J'.items.length,Nat.zero_le _,by simp,_,_,sn.sig nt js,sn,en,h1⟩,?_⟩
 rintro i m σ2 H2 ⟨hi,rfl,σ2',H2',s2,so,e2,h2⟩
 have k2:=e2.kp s1.hp
 by_cases hlt:i<J'.items.length
 ·obtain⟨x',hx⟩:∃x',J'.items[i]?=some x':=⟨_,List.getElem?_eq_getElem hlt⟩
  have hd:J'.items.drop i=x'::J'.items.drop (i+1):=by
   rw[List.drop_eq_getElem_cons hlt]
   rw[List.getElem?_eq_getElem hlt]at hx
   cases hx;rfl
  rw[hd]at h2
  obtain⟨ok2,h2⟩:=(show J'.ok H2'/\_ from h2)
  refine .inr ⟨wk.go H2' H2 i k2 s2.hp ok2 hlt,fun x H3 y=>?_⟩
  obtain⟨rfl,rx⟩:=wk.yld H2' H2 i x H3 k2 s2.hp ok2 y
  refine⟨x',σ2',H2',_,rx x' hx,s2,h2,fun σ3' H3' σ3 H3 h3 s3 e3=>⟨σ3',H3',_,s3,h3,fun b H4' H4 h4 s4 e4=>?_⟩⟩
  cases b with
  | false =>
   have e24:=e3.trans e4
   exact iteF ⟨J'.items.length - (i+1),by omega,hlt,rfl,σ3',H4',s4,so.kp e24 s4.hp,e2.trans e24,h4⟩
  | true =>
   refine iteT ⟨σ3',H4',_,s4,h4,fun y' H5' y H5 h5 ry5 s5 e5=>?_⟩
   obtain⟨l,a1,a2,h5⟩:=h5
   have e25:=(e3.trans e4).trans e5
   obtain⟨us,q1,q2⟩:=s5.hp _ _ a1
   have wr:=wrL s5.hp a1 (RPs.append _ q2 (RPs.cons _ ry5 (RPs.nil _)))
   refine⟨us,q1,by rw[RPs.length _ q2];exact a2,J'.items.length - (i+1),by omega,hlt,rfl,σ3',_,s5.wr a1 wr,(so.kp e25 s5.hp).wr a1 wr,(e2.trans e25).trans (Ev.wr a1),h5⟩
 ·have hi':i=J'.items.length:=by omega
  subst hi'
  rw[List.drop_length]at h2
  obtain⟨ok2,h2⟩:=(show J'.ok H2'/\_ from h2)
  exact .inl ⟨wk.stop H2' H2 _ k2 s2.hp ok2 (Nat.le_refl _),k _ _ _ _ h2 (by simp[RP]) so (e1.trans e2)⟩
section
variable {N2:List Str}{nt:Nat}{js:List Nat}{scope sc:Scope}{cl:List (Str×Addr)}{elt iter tg:Expr}{ifs:List Expr}{wi:TI'}{g:TG'}{tt:TT'}{te:TE'}
structure CompB' (Y:Cx) (B:Bs) (tg:Expr) (ifs:List Expr) (elt:Expr) (g:TG') (tt:TT') (te:TE'):Prop where
 tgt:PG' Y B tg g
 tst:PIf' Y B ifs tt
 elt:PE' Y B elt te
theorem qe_comp(O:CompOk X N2 nt js scope cl sc)(hc:X.calm=true)(hi:PI' X B tg iter wi)(b:∀(s0:Shared) (H0:Hp) (fp:List Addr) (ps:List (Addr×Obj)),CompB' (compCx X N2 scope cl s0 H0 fp ps) B tg ifs elt g tt te)
  (hs:∀x,foldedSetIterable iter X.env x=pure x:=by intro _;rfl):PE' X B (.ListComp elt [⟨tg,iter,ifs,0⟩] scope pos) (uComp nt js wi g tt te) :=
 pe_imp (pe_compO (g:=lowG X.K B g) (tt:=lowT X.K B tt) (te:=low X.K B te) O hc hi (fun s0 H0 fp ps=>⟨(b s0 H0 fp ps).tgt,(b s0 H0 fp ps).tst,(b s0 H0 fp ps).elt⟩) hs) fun _ _ _ h=>low_comp h
theorem qs_setC{i:Nat}{y:Str}{py spos:Pos}(hN:X.N.Nodup)(hy:X.N[i]?=some y)(hl:Loc X.env.scope y)(O:CompOk X N2 nt js scope cl sc)(hc:X.calm=true)(hi:PI' X B tg iter wi)
  (b:∀(s0:Shared) (H0:Hp) (fp:List Addr) (ps:List (Addr×Obj)),CompB' (compCx X N2 scope cl s0 H0 fp ps) B tg ifs elt g tt te)
  (hsw:swapsWith (.ListComp elt [⟨tg,iter,ifs,0⟩] scope pos) (some (.Name y py)) spos.line X.env=pure true:=by rfl)
  (hs:∀x,foldedSetIterable iter X.env x=pure x:=by intro _;rfl) (hfn:X.fn y=true∨X.env.scope.names.lookup y=some .local:=by first | exact .inl rfl | exact .inr rfl | assumption) :
  PS' X B (.Assign [.Name y py] (.ListComp elt [⟨tg,iter,ifs,0⟩] scope pos) spos) (uAsg (uComp nt js wi g tt te) (vName i)) :=
 ps_imp (ps_setCO (g:=lowG X.K B g) (tt:=lowT X.K B tt) (te:=low X.K B te) hN hy hl O hc hi (fun s0 H0 fp ps=>⟨(b s0 H0 fp ps).tgt,(b s0 H0 fp ps).tst,(b s0 H0 fp ps).elt⟩) hsw hs hfn) fun D σ H ⟨σ',H',D',s,h,d⟩=>by
  refine low_comp ⟨σ',H',_,s,h,fun v' H1' v H1 q r s1 e1=>?_⟩
  exact d.nx _ _ _ _ q (s1.set r i) e1
end
end U
namespace U
open PySem PySem.Spec PyProof.Rows L2
def AllL(cs:List (Str×Addr)):List (Str×Addr)->Prop
 | []=>True
 | p::r=>cs.lookup p.1=some p.2/\AllL cs r
theorem AllL.mem{cs:List (Str×Addr)}:∀{l:List (Str×Addr)} {p:Str×Addr},AllL cs l->p∈l->cs.lookup p.1=some p.2
 | q::r,p,h,m=>by
  rcases List.mem_cons.mp m with rfl | m
  ·exact h.1
  ·exact AllL.mem h.2 m
theorem cok{X:Cx}{N2:List Str}{nt:Nat}{js:List Nat}{scope sc:Scope}{cl:List (Str×Addr)}(clos:closureFor scope X.env=pure cl)(sub:AllL X.env.cells cl)(xsc:X.env.scope=sc)(kind:scope.kind=.function)
  (nocell:∀y∈scope.names,y.2≠.cell) (loc:∀y∈scope.names,y.2=.local->scope.names.lookup y.1=some .local) (names:cl.map (·.1)=((scope.names.filter (·.2==.free)).map (·.1)).reverse)
  (frs:∀x∈N2.drop nt,scope.names.lookup x=some .free/\sc.names.lookup x=some .cell) (len:N2.length=nt+js.length) (pl:js.map (fun j=>X.N[j]?)=(N2.drop nt).map some):CompOk X N2 nt js scope cl sc :=
 ⟨clos,fun x c e=>sub.mem (lookup_mem e),xsc,kind,nocell,loc,fun y m f=>by rw[names];exact List.mem_reverse.mpr (List.mem_map_of_mem (List.mem_filter.mpr ⟨m,by rw[f];rfl⟩)),frs,len,fun k j e=>by
  have h:(js.map (fun j=>X.N[j]?))[k]?=((N2.drop nt).map some)[k]?:=by rw[pl]
  rw[List.getElem?_map,List.getElem?_map,e,List.getElem?_drop]at h
  cases q:N2[nt+k]? with
  | none=>rw[q]at h;cases h
  | some x=>rw[q]at h;exact Option.some.inj h⟩
end U
namespace U
open PySem PySem.Spec PyProof.Rows L2
end U
set_option linter.all false
set_option maxRecDepth 100000
set_option maxHeartbeats 4000000
namespace L2
open PySem PySem.Spec PyProof.Rows
variable {X:Cx}{a b c d:Expr}{pos:Pos}{ta tb tc td:TE}
def tChain3(r r' r'':R2)(ta tb tc td:TE):TE:=fun σ H Q=>ta σ H fun x H1=>tb σ H1 fun y H2=>r x y H2 fun z H3=>∃k,z=.bl k /\
 (if k=true then tc σ H3 fun w' H4=>r' y w' H4 fun z' H5=>∃k',z'=.bl k'/\(if k'=true then td σ H5 fun v' H6=>r'' w' v' H6 Q else Q (.bl false) H5)else Q (.bl false) H3)
theorem pe_chain3{op op' op'':CmpOp}{r r' r'':R2}(ho:OpR X (compareOp op) r)(ho':OpR X (compareOp op') r')(ho'':OpR X (compareOp op'') r'')(ha:PE X a ta)(hb:PE X b tb)(hc:PE X c tc)(hd:PE X d td)
  (hm:lastMarks [op,op',op''] [b,c,d]=false:=by with_unfolding_all rfl):PE X (.Compare a [op,op',op''] [b,c,d] pos) (tChain3 r r' r'' ta tb tc td):=by
 intro pins s σ H Q I h
 refine Compare_chain (thn (ha pins s σ H _ I h) fun v s1 ⟨x,H1,I1,r1,q1⟩=>chain_link (thn (hb pins s1 σ H1 _ I1 q1) fun u s2 ⟨y,H2,I2,r2,q2⟩ =>
  thn (ho pins s2 σ H2 x y v u _ I2 r1 r2 q2) fun d s3 ⟨z,H3,I3,r3,k,e,q3⟩=>?_)) hm
 subst e
 cases r3
 refine wpAny_truthy_bool ?_
 cases k with
 | false=>exact ite_ff ⟨.bl false,H3,I3,rfl,q3⟩
 | true =>
  refine ite_tt (chain_link (thn (hc pins s3 σ H3 _ I3 q3) fun w' s4 ⟨z',H4,I4,r4,q4⟩=>thn (ho' pins s4 σ H4 y z' u w' _ I4 r2 r4 q4) fun d' s5 ⟨z5,H5,I5,r5,k5,e5,q5⟩=>?_))
  subst e5
  cases r5
  refine wpAny_truthy_bool ?_
  cases k5 with
  | false=>exact ite_ff ⟨.bl false,H5,I5,rfl,q5⟩
  | true=>exact ite_tt (chain_last (thn (hd pins s5 σ H5 _ I5 q5) fun w6 s6 ⟨z6,H6,I6,r6,q6⟩=>ho'' pins s6 σ H6 z' z6 w' w6 Q I6 r4 r6 q6))
end L2
namespace U
open PySem PySem.Spec PyProof.Rows L2
variable {B:Bs}{X:Cx}{a b c d e o value:Expr}{pos pos' apos p:Pos}{ta tb tc td tv:TE'}{f m x:Str}{C g:Addr}
def uChain3(r r' r'':R2')(ta tb tc td:TE'):TE':=fun σ H Q=>ta σ H fun x H1=>tb σ H1 fun y H2=>r x y H2 fun z H3=>withB z fun k=>cif k (tc σ H3 fun w' H4=>r' y w' H4 fun z' H5=>withB z' fun k'=>cif k' (td σ H5 fun v' H6=>r'' w' v' H6 Q) (Q (.bl false) H5)) (Q (.bl false) H3)
theorem qe_chain3{op op' op'':CmpOp}{r1' r2' r3':R2'}{r1 r2 r3:R2}(ho:OpR X (compareOp op) r1)(v1:VR X.K B r1' r1)(ho':OpR X (compareOp op') r2)(v2:VR X.K B r2' r2)(ho'':OpR X (compareOp op'') r3)(v3:VR X.K B r3' r3)
  (ha:PE' X B a ta) (hb:PE' X B b tb) (hc:PE' X B c tc) (hd:PE' X B d td)
  (hm:lastMarks [op,op',op''] [b,c,d]=false:=by with_unfolding_all rfl):PE' X B (.Compare a [op,op',op''] [b,c,d] pos) (uChain3 r1' r2' r3' ta tb tc td):=pe_imp (pe_chain3 ho ho' ho'' ha hb hc hd hm) fun σ H Q ⟨σ',H',Q',s,h,k⟩=>by
 refine⟨σ',H',_,s,h,fun x' H1' x H1 h1 rx s1 e1=>⟨σ',H1',_,s1,h1,fun y' H2' y H2 h2 ry s2 e2=>?_⟩⟩
 refine v1 σ' σ H2' H2 x' y' x y _ _ s2 (RP.kp X.K (e2.kp s1.hp) rx) ry h2 fun z' H3' z H3 q rz s3 e3=>?_
 obtain⟨b,rfl,q⟩:=q.ex
 simp only[RP]at rz
 refine⟨b,rz,?_⟩
 cases b with
 | false=>exact iteF (k _ _ _ _ q (by simp[RP]) s3 ((e1.trans e2).trans e3))
 | true =>
  refine iteT ⟨σ',H3',_,s3,q,fun w' H4' w H4 h4 rw4 s4 e4=>?_⟩
  refine v2 σ' σ H4' H4 y' w' y w _ _ s4 (RP.kp X.K ((e3.trans e4).kp s2.hp) ry) rw4 h4 fun z5' H5' z5 H5 q5 rz5 s5 e5=>?_
  obtain⟨b5,rfl,q5⟩:=q5.ex
  simp only[RP]at rz5
  refine⟨b5,rz5,?_⟩
  cases b5 with
  | false=>exact iteF (k _ _ _ _ q5 (by simp[RP]) s5 ((((e1.trans e2).trans e3).trans e4).trans e5))
  | true =>
   refine iteT ⟨σ',H5',_,s5,q5,fun v' H6' v H6 h6 rv s6 e6=>?_⟩
   exact v3 σ' σ H6' H6 w' v' w v _ _ s6 (RP.kp X.K ((e5.trans e6).kp s4.hp) rw4) rv h6 fun z7' H7' z7 H7 q7 rz7 s7 e7=>k _ _ _ _ q7 rz7 s7 ((((((e1.trans e2).trans e3).trans e4).trans e5).trans e6).trans e7)
def fldOf(C:Addr)(f:Str)(x:PV)(H:PHp)(Q:VK'):Prop:=match x with
 | .ref a=>∃dx fs v,H a=some (.ins C dx fs)/\fs.lookup f=some v/\Q v H
 | _=>False
def uFld(C:Addr)(f:Str)(ta:TE'):TE':=fun σ H Q=>ta σ H fun x H1=>fldOf C f x H1 Q
theorem frel_lookup{K:PySem.W.Frag}{H:Hp}{f:Str}{v:PV}:∀{fs:List (Str×PV)} {gs:List (Str×V)},FRel K H fs gs->fs.lookup f=some v->∃u,gs.lookup f=some u/\RP K H v u
 | [],[],_,e=>by simp at e
 |(n,y)::r,(m,z)::q,.cons h t,e=>by
  obtain⟨rfl,hr⟩:=h
  dsimp only at hr
  cases hx:f==n with
  | true =>
   simp only[List.lookup_cons,hx]at e ⊢
   cases e
   exact⟨z,rfl,hr⟩
  | false =>
   simp only[List.lookup_cons,hx]at e ⊢
   exact frel_lookup t e
theorem frel_none{K:PySem.W.Frag}{H:Hp}{f:Str}:∀{fs:List (Str×PV)} {gs:List (Str×V)},FRel K H fs gs->fs.lookup f=none->gs.lookup f=none
 | [],[],_,e=>rfl
 |(n,y)::r,(m,z)::q,.cons h t,e=>by
  obtain⟨rfl,hr⟩:=h
  cases hx:f==n with
  | true=>simp only[List.lookup_cons,hx]at e;cases e
  | false =>
   simp only[List.lookup_cons,hx]at e ⊢
   exact frel_none t e
theorem frel_len{K:PySem.W.Frag}{H:Hp}:∀{fs:List (Str×PV)} {gs:List (Str×V)},FRel K H fs gs->gs.length=fs.length
 | [],[],_=>rfl
 | _::_,_::_,.cons _ t=>by simp[frel_len t]
theorem qe_fld(ha:PE' X B e ta)(cl:Cls X.K C)(n:NoAttr X.K C f)(hb:attributeBase e f X.env (eval e X.env)=eval e X.env):PE' X B (.Attribute e f pos) (uFld C f ta):=pe_imp (pe_fld ha hb) fun σ H Q ⟨σ',H',Q',s,h,k⟩=>by
 refine⟨σ',H',_,s,h,fun x' H1' x H1 h1 rx s1 e1=>?_⟩
 cases x' with
 | ref a =>
  obtain⟨dx,fs,v,ea,l,q⟩:=h1
  simp only[RP]at rx
  subst rx
  obtain⟨gs,eg,fr⟩:=s1.hp _ _ ea
  obtain⟨u,lu,ru⟩:=frel_lookup fr l
  exact⟨a,C,dx,gs,u,rfl,eg,cl,n,lu,k _ _ _ _ q ru s1 e1⟩
 | _=>exact h1.elim
def putU(f:Str)(v:PV):List (Str×PV)->List (Str×PV)
 | []=>[(f,v)]
 |(g,x)::r=>if g=f then(g,v)::r else(g,x)::putU f v r
theorem frel_put{K:PySem.W.Frag}{H:Hp}{f:Str}{v:PV}{u:V}(rv:RP K H v u):∀{fs:List (Str×PV)} {gs:List (Str×V)},FRel K H fs gs->FRel K H (putU f v fs) (putF f u gs)
 | [],[],_=>.cons ⟨rfl,rv⟩ .nil
 |(n,y)::r,(m,z)::q,.cons h t=>by
  obtain⟨rfl,hr⟩:=h
  unfold putU putF
  by_cases hn:n=f
  ·rw[if_pos hn,if_pos hn];exact .cons ⟨rfl,rv⟩ t
  ·rw[if_neg hn,if_neg hn];exact .cons ⟨rfl,hr⟩ (frel_put rv t)
def stFld(C:Addr)(f:Str)(x y:PV)(H:PHp)(Q:PHp->Prop):Prop:=match x with
 | .ref a=>∃dx fs,H a=some (.ins C dx fs)/\fs.length<1000/\Q (put H a (.ins C dx (putU f y fs)))
 | _=>False
def uStFld(C:Addr)(f:Str)(ta tv:TE'):TS':=fun D σ H=>tv σ H fun y H1=>ta σ H1 fun x H2=>stFld C f x y H2 fun H3=>D.nx σ H3
theorem qs_fld(ha:PE' X B o ta)(hv:PE' X B value tv)(cl:Cls X.K C)(n:NoAttr X.K C f)(hs:swapsWith value (some (.Attribute o f pos')) pos.line X.env=pure false):PS' X B (.Assign [.Attribute o f pos'] value pos) (uStFld C f ta tv):=ps_imp (ps_fld ha hv hs) fun D σ H ⟨σ',H',D',s,h,dd⟩=>by
 refine⟨σ',H',_,s,h,fun y' H1' y H1 h1 ry s1 e1=>⟨σ',H1',_,s1,h1,fun x' H2' x H2 h2 rx s2 e2=>?_⟩⟩
 cases x' with
 | ref a =>
  obtain⟨dx,fs,ea,l,q⟩:=h2
  simp only[RP]at rx
  subst rx
  obtain⟨gs,eg,fr⟩:=s2.hp _ _ ea
  have ry2:=RP.kp X.K (e2.kp s1.hp) ry
  have new:OAt X.K (upd H2 a (.ins C dx (putF f y gs))) a (.ins C dx (putU f y' fs)):=⟨_,upd_same,FRel.kp (s2.hp.kpw ea) (frel_put ry2 fr)⟩
  exact⟨a,C,dx,gs,rfl,eg,cl,n,by rw[frel_len fr];exact l,dd.nx _ _ _ _ q (s2.wr ea new) ((e1.trans e2).trans (Ev.wr ea))⟩
 | _=>exact h2.elim
def isIn(C:Addr)(m:Str)(x:PV)(H:PHp):Prop:=match x with
 | .ref a=>∃dx fs,H a=some (.ins C dx fs)/\fs.lookup m=none
 | _=>False
def uMeth(C:Addr)(m:Str)(sp:Sp')(E':XK')(ta:TE')(t:TA'):TE':=fun σ H Q=>ta σ H fun x H1=>isIn C m x H1/\t σ H1 fun vs H2=>sp (x::vs) H2 Q E'
section
variable {k:Nat}{fd:FuncData}{ps:List Str}{sp:Sp'}{es:List Expr}{t:TA'}
theorem low_meth0{K:PySem.W.Frag}{σ:L2.St}{H:Hp}{Q:VK}(h:low K B (uMeth C m sp X0 ta t) σ H Q):tMeth C m (lowSp K sp) [] E0 (low K B ta) (lowA K B t) σ H Q:=by
 obtain⟨σ',H',Q',s,h,k⟩:=h
 refine⟨σ',H',_,s,h,fun x' H1' x H1 h1 rx s1 e1=>?_⟩
 obtain⟨hi,h1⟩:=h1
 cases x' with
 | ref a =>
  obtain⟨dx,fs,ea,l⟩:=hi
  simp only[RP]at rx
  subst rx
  obtain⟨gs,eg,fr⟩:=s1.hp _ _ ea
  refine⟨a,dx,gs,rfl,eg,frel_none fr l,σ',H1',_,s1,h1,fun vs' H2' vs H2 h2 r2 s2 e2=>?_⟩
  show lowSp K sp (V.ref a::(vs++[])) H2 Q E0
  rw[List.append_nil]
  exact⟨.ref a::vs',H2',Q',X0,RPs.cons _ (by simp[RP]) r2,s2.hp,h2,fun v' H3' v H3 q r3 h3 e3=>k v' H3' v H3 q r3 (s2.kp e3 h3) ((e1.trans e2).trans e3),fun _ _ _ _ z=>z.elim⟩
 | _=>exact hi.elim
theorem qe_meth{pl:Sem Bool}(he:PE' X B o ta)(cl:Cls X.K C)(hm:Meth X.K C m g)(F:FnOk' X.prog X.w X.K X.mg X.base CX0 k g fd ps sp)(hr:Room k X.A)(hb:Binds X.K fd ps [])(ha:PA' X B (e::es) t)
  (hst:starEach (e::es) X.env=(false,eval e X.env)::starEach es X.env:=by rfl) (hpl:(backTo pos (starEach es X.env)).any (·.1)=false:=by rfl)
  (ht:eval (.Call (.Attribute o m apos) (e::es) [] pos) X.env=(do
   let ov←eval o X.env
   standAt apos.atName
   let (f,first)←holding [ov] (getMethod ov m pl)
   callWith pos f first (backTo pos (starEach (e::es) X.env)) (backToKw pos (keywordEach [] X.env))):=by rfl) :
  PE' X B (.Call (.Attribute o m apos) (e::es) [] pos) (uMeth C m sp X0 ta t):=pe_imp (pe_meth he cl hm F hr hb .nil pass0 ha hst hpl ht) fun _ _ _ h=>low_meth0 h
def uMake(C:Addr)(sp:Sp')(E':XK')(t:TA'):TE':=fun σ H Q=>t σ H fun vs H1=>∀x dx,H1 x=none->H1 dx=none->dx≠x->sp (.ref x::vs) (put H1 x (.ins C dx [])) (fun v H2=>v=.non/\Q (.ref x) H2) E'
theorem qe_make(M:Mk X.K C g)(F:FnOk' X.prog X.w X.K X.mg X.base CX0 k g fd ps sp)(hr:Room (k+1) X.A)(hg:Gl X x)(hm:X.mg x=some (.ref C))(hb:Binds X.K fd ps [])
  (ha:PA' X B (e::es) t) (hdb:(x==("__debug__":Str))=false:=by decide) (he:starEach (e::es) X.env=(false,eval e X.env)::starEach es X.env:=by rfl) (hpl:(backTo pos (starEach es X.env)).any (·.1)=false:=by rfl) :
  PE' X B (.Call (.Name x p) (e::es) [] pos) (uMake C sp X0 t):=pe_imp (pe_make M F hr hg hm hb .nil pass0 ha hdb he hpl) fun σ H Q ⟨σ',H',Q',s,h,k⟩=>by
 refine⟨σ',H',_,s,h,fun vs' H1' vs H1 h1 r1 s1 e1=>?_⟩
 intro x dx nx nd ne
 have h2:=h1 x dx (s1.hp.free nx) (s1.hp.free nd) ne
 have nx2:upd H1 dx (.own x) x=none:=by rw[upd_ne (Ne.symm ne)];exact nx
 have sd:=s1.hid (o:=.own x) nd
 have new:OAt X.K (upd (upd H1 dx (.own x)) x (.ins C dx [])) x (.ins C dx []):=⟨[],upd_same,.nil⟩
 have s2:=sd.new nx2 new
 have e2:Ev H1' H1 (put H1' x (.ins C dx [])) (upd (upd H1 dx (.own x)) x (.ins C dx [])):=(Ev.hid nd).trans (Ev.new nx2)
 show lowSp X.K sp (.ref x::(vs++[])) _ _ E0
 rw[List.append_nil]
 refine⟨.ref x::vs',_,_,X0,RPs.cons _ (by simp[RP]) (RPs.kp X.K (e2.kp s1.hp) r1),s2.hp,h2,fun v' H3' v H3 q r3 h3 e3=>?_,fun _ _ _ _ z=>z.elim⟩
 obtain⟨rfl,q⟩:=q
 simp only[RP]at r3
 exact⟨r3,k _ _ _ _ q (by simp[RP]) (s2.kp e3 h3) ((e1.trans e2).trans e3)⟩
end
end U
set_option linter.all false
set_option maxRecDepth 100000
set_option maxHeartbeats 4000000
namespace L2
open PySem PySem.Spec PyProof.Rows
variable {X:Cx}
def rAll(K:PySem.W.Frag):List V->Hp->VK->Prop:=fun xs H Q=>∃(p:Addr) (bs:List Bool),xs=[.ref p]/\SqL K H p (bs.map V.bl)/\Q (.bl (bs.all id)) H
theorem vals_bools:∀{bs:List Bool} {us:List Value},Vals (bs.map V.bl) us->us=bs.map Value.bool
 | [],_,.nil=>rfl
 | b::bs,_,.cons r t=>by rw[vals_bools t];cases r;rfl
theorem call_all(hc:X.calm=true):CallR X (.builtin "all") (rAll X.K):=by
 intro pins s σ H xs us Q I r h
 obtain⟨a,bs,rfl,hq,q⟩:=h
 obtain⟨u,rfl,ru⟩:=Vals.one r
 cases ru
 obtain⟨its,rv,p,hz⟩:=I.list hq
 have e:=vals_bools rv
 subst e
 have hl:s.heap.IsList a (bs.map Value.bool).toArray:=p.isList
 have llt:a<s.heap.objs.size:=by obtain⟨o,e,_⟩:=hl;exact Heap.lt_size e
 have hne:a≠s.heap.objs.size:=Nat.ne_of_lt llt
 refine call_all_walk (wpAny_pyIter_list hl ?_)
 refine⟨s.heap.objs.size,[s.heap.objs.size,a],[s.heap.objs.size],(bs.map Value.bool).toArray.size,_,_,fun i=>bs.getD i false,rfl,Walks.list (by simpa using I.ok.hd hc) _ a hne _,⟨⟨_,Heap.get?_push_size _ rfl,rfl,rfl⟩,hl.at fun o e=>Heap.get?_push_of_some _ e⟩,?_,?_⟩
 ·intro i v s' Q' E' hv hQ
  have:v=Value.bool (bs.getD i false):=by
   have hv':(bs.map Value.bool)[i]?=some v:=by simpa using hv
   rw[List.getElem?_map]at hv'
   cases hb:bs[i]? with
   | none=>rw[hb]at hv';cases hv'
   | some b=>rw[hb]at hv';cases hv';rw[List.getD_eq_getElem?_getD,hb];rfl
  subst this
  exact wpAny_truthy_bool hQ
 ·intro h' tk kp
  have e:(List.range (bs.map Value.bool).toArray.size).all (fun i=>bs.getD i false)=bs.all id:=by
   have hs:(bs.map Value.bool).toArray.size=bs.length:=by simp
   rw[hs]
   rw[Bool.eq_iff_iff,List.all_eq_true,List.all_eq_true]
   constructor
   ·intro h b hb
    obtain⟨i,hi,e⟩:=List.getElem_of_mem hb
    have:=h i (List.mem_range.mpr hi)
    rw[List.getD_eq_getElem?_getD,List.getElem?_eq_getElem hi,e]at this
    exact this
   ·intro h i hi
    have hi:=List.mem_range.mp hi
    rw[List.getD_eq_getElem?_getD,List.getElem?_eq_getElem hi]
    exact h _ (List.getElem_mem hi)
  rw[e]
  refine⟨.bl (bs.all id),H,I.kept (t':=tk) fun b o e=>?_,rfl,q⟩
  exact kp b o (by simpa using Nat.ne_of_lt (Heap.lt_size e)) (Heap.get?_push_of_some _ e)
theorem ints_vals:∀{ns:List Int} {us:List Value},Vals (ns.map V.int) us->IntsAre us ns
 | [],_,.nil=>.nil
 | n::ns,_,.cons r t=>by obtain⟨k,rfl⟩:=r;exact .cons n k (ints_vals t)
def rSortI(K:PySem.W.Frag):List V->Hp->VK->Prop:=fun xs H Q=>∃(p:Addr) (ns:List Int),xs=[.ref p]/\SqL K H p (ns.map V.int)/\ns.length<64/\∀(r:Addr) (ms:List Int),H r=none->ms.Perm ns->ms.Pairwise (·≤·)->Q (.ref r) (upd H r (.lst (ms.map V.int)))
theorem call_sortI:CallR X (.builtin "sorted") (rSortI X.K):=by
 intro pins s σ H xs us Q I r h
 obtain⟨a,ns,rfl,hq,h64,q⟩:=h
 obtain⟨u,rfl,ru⟩:=Vals.one r
 cases ru
 obtain⟨its,rv,p,hz⟩:=I.list hq
 have hl:its.length<64:=by have:=rv.length;rw[List.length_map]at this;omega
 refine sorted_ints p.isList (ints_vals rv) hl fun out ms h1 h2 h3=>?_
 have hn:H (s.heap.objs.size+1)=none:=I.hok.fresh (Nat.le_succ _)
 obtain⟨e,he⟩:=sortedAll_at s.heap its out
 have hv:=vals_ints h1
 have hz2:(ms.map V.int).length≤sizeLine:=by rw[List.length_map,h2.length_eq,sizeLine_eq];omega
 refine⟨.ref (s.heap.objs.size+1),_,I.laid (t':=s.toks) (o:=.lst (ms.map V.int)) (fun b o e=>sortedAll_old e) (Nat.le_succ _) ?_,rfl,q _ ms hn h2 h3⟩
 exact⟨hz2,out.toList,e,hv,he⟩
end L2
namespace U
open PySem PySem.Spec PyProof.Rows L2
variable {B:Bs}{X:Cx}
theorem rps_bools{K:PySem.W.Frag}{H:Hp}:∀{bs:List Bool} {us:List V},RPs K H (bs.map PV.bl) us->us=bs.map V.bl
 | [],us,h=>by simpa[RPs]using h
 | b::bs,us,h=>by
  simp only[List.map_cons,RPs,RP]at h
  obtain⟨u,r,rfl,rfl,h2⟩:=h
  rw[rps_bools h2];rfl
theorem rps_ints{K:PySem.W.Frag}{H:Hp}:∀{bs:List Int} {us:List V},RPs K H (bs.map PV.int) us->us=bs.map V.int
 | [],us,h=>by simpa[RPs]using h
 | b::bs,us,h=>by
  simp only[List.map_cons,RPs,RP]at h
  obtain⟨u,r,rfl,rfl,h2⟩:=h
  rw[rps_ints h2];rfl
theorem ints_rps{K:PySem.W.Frag}{H:Hp}:∀{bs:List Int},RPs K H (bs.map PV.int) (bs.map V.int)
 | []=>RPs.nil _
 | b::bs=>RPs.cons _ (by simp[RP]) ints_rps
def uAll:List PV->PHp->VK'->Prop:=arg1 fun x H Q=>match x with
 | .ref a=>∃bs:List Bool,H a=some (.lst (bs.map PV.bl))/\Q (.bl (bs.all id)) H
 | _=>False
theorem vc_all{K:PySem.W.Frag}:VC K B uAll (rAll K):=by
 intro σ' σ H' H xs' xs Q' Q s r h k
 obtain⟨x',x,rfl,rfl,rx,h⟩:=arg1.ex h r
 cases x' with
 | ref a =>
  obtain⟨bs,ea,q⟩:=h
  simp only[RP]at rx
  subst rx
  obtain⟨us,e,r2⟩:=s.hp _ _ ea
  rw[rps_bools r2]at e
  exact⟨a,bs,rfl,.inl (.inl e),k _ _ _ _ q (by simp[RP]) s (Ev.refl _ _)⟩
 | _=>exact h.elim
def uSortI:List PV->PHp->VK'->Prop:=arg1 fun x H Q=>match x with
 | .ref a=>∃ns:List Int,H a=some (.lst (ns.map PV.int))/\ns.length<64/\∀(r:Addr) (ms:List Int),H r=none->ms.Perm ns->ms.Pairwise (·≤·)->Q (.ref r) (put H r (.lst (ms.map PV.int)))
 | _=>False
theorem vc_sortI{K:PySem.W.Frag}:VC K B uSortI (rSortI K):=by
 intro σ' σ H' H xs' xs Q' Q s r h k
 obtain⟨x',x,rfl,rfl,rx,h⟩:=arg1.ex h r
 cases x' with
 | ref a =>
  obtain⟨ns,ea,h64,q⟩:=h
  simp only[RP]at rx
  subst rx
  obtain⟨us,e,r2⟩:=s.hp _ _ ea
  rw[rps_ints r2]at e
  refine⟨a,ns,rfl,.inl (.inl e),h64,fun r ms hr h1 h2=>?_⟩
  exact k _ _ _ _ (q r ms (s.hp.free hr) h1 h2) (by simp[RP]) (s.new hr (newL hr ints_rps)) (Ev.new hr)
 | _=>exact h.elim
end U
namespace SP
open PySem
def hs:List Int:=[-1950498447580522560,7204814214171964562,-3550055125485641917,-4734289103435588629,-1440771752368011620,
 8409376899596376432,1773351652666409796,-6333845781340707986,3516302870623680066,1079245023883434373,
 -3119722376306286570,173794974761290439,-8422800446983873125,7586885779985432798,-1009709641759730766]
def prs:List (Int×Int):=[(0,1),(0,2),(1,2),(0,3),(1,3),(2,3),(0,4),(1,4),(2,4),(3,4),(0,5),(1,5),(2,5),(3,5),(4,5)]
def hp(p:Int×Int):Int:=reduceHash (Builtin.Tuple.tupleHashOf [p.1,p.2])
theorem hs_eq:prs.map hp=hs:=by decide +kernel
theorem hp_mem{p:Int×Int}(h:p∈prs):hp p∈hs:=by rw[←hs_eq];exact List.mem_map.mpr ⟨p,h,rfl⟩
theorem hp_inj:∀p∈prs,∀q∈prs,hp p=hp q->p=q:=by decide +kernel
theorem mem_prs{u v:Int}(h0:0≤u)(h1:u<v)(h2:v<6):(u,v)∈prs:=by
 have hv:v=1∨v=2∨v=3∨v=4∨v=5:=by omega
 have hu:u=0∨u=1∨u=2∨u=3∨u=4:=by omega
 rcases hv with rfl | rfl | rfl | rfl | rfl<;>rcases hu with rfl | rfl | rfl | rfl | rfl<;>first |(exfalso;omega) | decide
def advM(mask:Nat)(p:SetTable.Probe):SetTable.Probe :=
 if p.more>0 then { p with j:=p.j+1,more:=p.more - 1 }else
 let (i,perturb):=SetTable.leap mask p.i p.perturb
 { p with j:=i,more:=SetTable.runEnd mask i - i,i,perturb }
theorem adv_eq(t:SetTable)(p:SetTable.Probe):t.advance p=advM t.mask p:=rfl
theorem adv_dummy(mask:Nat)(p:SetTable.Probe):(advM mask p).dummy=p.dummy:=by unfold advM;split<;>rfl
def visit(mask:Nat):Nat->SetTable.Probe->List Nat
 | 0,_=>[]
 | f+1,p=>p.j::visit mask f (advM mask p)
def startM(mask:Nat)(h:Int):SetTable.Probe :=
 let i:=SetTable.bits h % (mask+1)
 { j:=i,more:=SetTable.runEnd mask i - i,i,perturb:=SetTable.bits h,dummy:=none }
theorem start_eq(t:SetTable)(h:Int):t.probeStart h=startM t.mask h:=rfl
theorem cover7:∀h∈hs,∀j∈List.range 8,j∈visit 7 220 (startM 7 h):=by decide +kernel
theorem cover31:∀h∈hs,∀j∈List.range 32,j∈visit 31 460 (startM 31 h):=by decide +kernel
theorem all_in:∀(n:Nat) (l:List Nat),(∀j,j<n->j∈l)->n≤l.length
 | 0,_,_=>Nat.zero_le _
 | n+1,l,h=>by
  have hm:=h n (Nat.lt_succ_self n)
  have:=all_in n (l.erase n) fun j hj=>(List.mem_erase_of_ne (by omega)).mpr (h j (by omega))
  rw[List.length_erase_of_mem hm]at this
  have:0<l.length:=List.length_pos_of_mem hm
  omega
theorem free_one{n:Nat}{l:List Nat}(h:l.length<n):∃j,j<n/\j∉l :=
 Classical.byContradiction fun c=>absurd (all_in n l fun j hj=>Classical.byContradiction fun q=>c ⟨j,hj,q⟩) (by omega)
theorem slot_of{t:SetTable}(hd:t.dummies=#[])(j:Nat):t.slot j=.empty∨∃i,t.slot j=.live i/\i<t.place.size/\j∈t.place.toList:=by
 unfold SetTable.slot
 dsimp only
 split
 ·rename_i h
  have h':=beq_iff_eq.mp h
  obtain⟨hi,e⟩:=Array.getElem?_eq_some_iff.mp h'
  refine .inr ⟨_,rfl,hi,?_⟩
  rw[←e]
  exact Array.getElem_mem_toList hi
 ·left
  have:SetTable.has t.dummies j=false:=by
   rw[hd];rfl
  rw[this];rfl
theorem go_empty{t:SetTable}{hashAt:Nat->Int}{h:Int}(hd:t.dummies=#[])(hn:∀i,i<t.place.size->hashAt i≠h):∀(fuel:Nat) (p:SetTable.Probe),p.dummy=none ->
  (∃j∈visit t.mask fuel p,j∉t.place.toList)->∃j,SetTable.probe.go t hashAt h fuel p=some (.empty j none)
 | 0,_,_,⟨_,hj,_⟩=>by simp[visit]at hj
 | f+1,p,hp,⟨j,hj,hjn⟩=>by
  unfold SetTable.probe.go
  rcases slot_of hd p.j with e |⟨i,e,hi,hm⟩
  ·rw[e];dsimp only
   exact⟨p.j,by rw[hp]⟩
  ·rw[e];dsimp only
   rw[if_neg (by intro q;exact hn i hi (beq_iff_eq.mp q)),adv_eq]
   refine go_empty hd hn f (advM t.mask p) (by rw[adv_dummy];exact hp) ⟨j,?_,hjn⟩
   have hj':j=p.j∨j∈visit t.mask f (advM t.mask p):=List.mem_cons.mp hj
   rcases hj' with rfl | hj'
   ·exact absurd hm hjn
   ·exact hj'
theorem probe_ok{t:SetTable}{hashAt:Nat->Int}{h:Int}(hh:h∈hs)(hd:t.dummies=#[])(hn:∀i,i<t.place.size->hashAt i≠h)(hm:t.mask=7∨t.mask=31)(hsz:t.place.size≤t.mask) :
  ∃j,t.probe hashAt h (t.probeStart h)=some (.empty j none):=by
 unfold SetTable.probe
 refine go_empty hd hn _ _ rfl ?_
 obtain⟨j,hj,hjn⟩:=free_one (n:=t.mask+1) (l:=t.place.toList) (by simpa using Nat.lt_succ_of_le hsz)
 refine⟨j,?_,hjn⟩
 rw[start_eq]
 rcases hm with e | e
 ·rw[e]at hj ⊢
  exact cover7 h hh j (List.mem_range.mpr hj)
 ·rw[e]at hj ⊢
  exact cover31 h hh j (List.mem_range.mpr hj)
theorem put_size(t:SetTable)(j:Nat):(t.put j).1.place.size=t.place.size+1:=by
 unfold SetTable.put SetTable.insertAt
 dsimp only
 simp only[Array.size_append,Array.size_push,Array.size_extract]
 omega
theorem put_dummies{t:SetTable}(hd:t.dummies=#[])(j:Nat):(t.put j).1.dummies=#[]:=by
 unfold SetTable.put
 dsimp only
 rw[hd];rfl
theorem put_rest(t:SetTable)(j:Nat):(t.put j).1.mask=t.mask/\(t.put j).1.plain=t.plain:=⟨rfl,rfl⟩
theorem insertAt_perm{α:Type}(xs:Array α)(p:Nat)(x:α):(SetTable.insertAt xs p x).toList.Perm (x::xs.toList):=by
 unfold SetTable.insertAt
 rw[Array.toList_append,Array.toList_push,List.append_assoc]
 have e:xs.toList=(xs.extract 0 p).toList++(xs.extract p xs.size).toList:=by
  rw[Array.toList_extract,Array.toList_extract]
  unfold List.extract
  rw[List.drop_zero,Nat.sub_zero]
  have e2:(List.drop p xs.toList).take (xs.size - p)=List.drop p xs.toList:=List.take_of_length_le (by rw[List.length_drop];simp)
  rw[e2,List.take_append_drop]
 rw[e]
 exact List.perm_middle
def runs(mask:Nat):Nat->Nat->Nat->List Nat
 | 0,_,_=>[]
 | f+1,i,pt=>((List.range (SetTable.runEnd mask i+1 - i)).map (i+·))++runs mask f (SetTable.leap mask i pt).1 (SetTable.leap mask i pt).2
theorem coverR:∀h∈hs,∀j∈List.range 32,j∈runs 31 46 (SetTable.bits h % 32) (SetTable.bits h):=by decide +kernel
theorem free_some{mask:Nat}{owner:Array (Option Nat)}:∀(f i pt:Nat),(∃j∈runs mask f i pt,(owner.getD j (some 0)).isNone=true)->∃j,SetTable.layClean.free mask owner f i pt=some j/\(owner.getD j (some 0)).isNone=true
 | 0,_,_,⟨_,hj,_⟩=>by simp[runs]at hj
 | f+1,i,pt,⟨j,hj,hn⟩=>by
  unfold SetTable.layClean.free
  cases e:(List.range (SetTable.runEnd mask i+1 - i)).find? fun k=>(owner.getD (i+k) (some 0)).isNone with
  | some k =>
   dsimp only
   exact⟨i+k,rfl,by have:=List.find?_some e;exact this⟩
  | none =>
   dsimp only
   rcases List.mem_append.mp hj with hj | hj
   ·obtain⟨k,hk,rfl⟩:=List.mem_map.mp hj
    have:=List.find?_eq_none.mp e k hk
    exact absurd hn this
   ·exact free_some f _ _ ⟨j,hj,hn⟩
theorem set_perm{α:Type}:∀(l:List (Option α)) (j:Nat) (k:α),l[j]?=some none->((l.set j (some k)).filterMap id).Perm (k::l.filterMap id)
 | [],_,_,h=>by simp at h
 | none::l,0,k,_=>by simp
 | some x::l,0,k,h=>by simp at h
 | none::l,j+1,k,h=>by
  have:=set_perm l j k (by simpa using h)
  simpa using this
 | some x::l,j+1,k,h=>by
  have:=set_perm l j k (by simpa using h)
  simp only[List.set_cons_succ,List.filterMap_cons_some (f:=id) rfl]
  exact(this.cons x).trans (List.Perm.swap k x _)
theorem filterMap_none_lt{α:Type}:∀(l:List (Option α)),(l.filterMap id).length<l.length->∃j:Nat,l[j]?=some none
 | [],h=>by simp at h
 | none::l,_=>⟨0,rfl⟩
 | some x::l,h=>by
  have h':(l.filterMap id).length<l.length:=by simpa using h
  obtain⟨j,e⟩:=filterMap_none_lt l h'
  exact⟨j+1,by simpa using e⟩
def layStep(mask:Nat)(acc:Option (Array (Option Nat)×Nat))(h:Int):Option (Array (Option Nat)×Nat):=do
 let (owner,k)←acc
 let j←SetTable.layClean.free mask owner (SetTable.turns mask) (SetTable.bits h % (mask+1)) (SetTable.bits h)
 pure (owner.setIfInBounds j (some k),k+1)
theorem lay_fold:∀(l:List Int) (owner:Array (Option Nat)) (k:Nat),(∀h∈l,h∈hs)->owner.size=32->(owner.toList.filterMap id).Perm (List.range k)->k+l.length≤32 ->
  ∃ow',l.foldl (layStep 31) (some (owner,k))=some (ow',k+l.length)/\ow'.size=32/\(ow'.toList.filterMap id).Perm (List.range (k+l.length))
 | [],owner,k,_,hs,hp,_=>⟨owner,rfl,hs,hp⟩
 | h::l,owner,k,hh,hsz,hp,hl=>by
  have hlen:(owner.toList.filterMap id).length=k:=by rw[hp.length_eq,List.length_range]
  obtain⟨j,hj⟩:=filterMap_none_lt owner.toList (by rw[hlen];simp only[List.length_cons]at hl;rw[show owner.toList.length=32 by simpa using hsz];omega)
  have hjlt:j<32:=by
   have:=(List.getElem?_eq_some_iff.mp hj).1
   simpa[hsz]using this
  have hnone:∀j,(owner.getD j (some 0)).isNone=true->owner.toList[j]?=some none:=fun j q=>by
   rw[Array.getElem?_toList]
   unfold Array.getD at q
   split at q
   ·rename_i hlt
    rw[Array.getElem?_eq_getElem hlt]
    cases e:owner[j]with
    | none=>rfl
    | some x =>
     have q':(owner[j]).isNone=true:=q
     rw[e]at q';cases q'
   ·cases q
  obtain⟨j',ej,hn⟩:=free_some (mask:=31) (owner:=owner) 46 (SetTable.bits h % 32) (SetTable.bits h) ⟨j,coverR h (hh h List.mem_cons_self) j (List.mem_range.mpr hjlt),by
   unfold Array.getD
   rw[dif_pos (by rw[hsz];exact hjlt)]
   rw[Array.getElem?_toList,Array.getElem?_eq_getElem (by rw[hsz];exact hjlt)]at hj
   have:=Option.some.inj hj
   show(owner[j]).isNone=true
   rw[this];rfl⟩
  have est:layStep 31 (some (owner,k)) h=some (owner.setIfInBounds j' (some k),k+1):=by
   unfold layStep
   show(SetTable.layClean.free 31 owner (SetTable.turns 31) (SetTable.bits h % 32) (SetTable.bits h) >>= fun j=>pure (owner.setIfInBounds j (some k),k+1))=_
   rw[show SetTable.turns 31=46 from rfl,ej]
   rfl
  have hp':((owner.setIfInBounds j' (some k)).toList.filterMap id).Perm (List.range (k+1)):=by
   rw[Array.toList_setIfInBounds]
   refine(set_perm _ _ _ (hnone j' hn)).trans ?_
   rw[List.range_succ]
   exact(hp.cons k).trans (List.perm_append_singleton k _).symm
  obtain⟨ow',e1,e2,e3⟩:=lay_fold l (owner.setIfInBounds j' (some k)) (k+1) (fun x hx=>hh x (List.mem_cons_of_mem _ hx)) (by simpa using hsz) hp' (by simp only[List.length_cons]at hl;omega)
  refine⟨ow',?_,e2,?_⟩
  ·rw[List.foldl_cons,est,e1]
   simp only[List.length_cons]
   congr 2
   omega
  ·rw[List.length_cons,show k+(l.length+1)=k+1+l.length by omega];exact e3
theorem relaid_ok{t:SetTable}{hashes:Array Int}{wanted:Nat}(hw:SetTable.sizeAbove wanted=32)(hh:∀h∈hashes.toList,h∈hs)(hl:hashes.size≤32) :
  ∃t' order,t.relaid hashes wanted=some (t',order)/\t'.mask=31/\t'.dummies=#[]/\t'.place.size=hashes.size/\order.toList.Perm (List.range hashes.size)/\t'.plain=t.plain:=by
 have e0:(Array.replicate 32 (none:Option Nat)).toList.filterMap id=[]:=by decide
 obtain⟨ow,e1,e2,e3⟩:=lay_fold hashes.toList (Array.replicate 32 none) 0 hh (by simp) (by rw[e0];exact List.Perm.refl _) (by simpa using hl)
 rw[Nat.zero_add]at e1 e3
 have hlc:SetTable.layClean 31 hashes=some ow:=by
  unfold SetTable.layClean
  rw[←Array.foldl_toList]
  show Option.map (·.1) (hashes.toList.foldl (layStep 31) (some (Array.replicate 32 none,0)))=_
  rw[e1];rfl
 have live2:((List.range 32).filterMap fun j=>(ow.getD j none).map ((j,·):Nat->Nat×Nat)).map (·.2)=ow.toList.filterMap id:=by
  have gen:∀(l:List (Option Nat)) (n:Nat),((l.zipIdx n).filterMap (fun q=>q.1.map ((q.2,·):Nat->Nat×Nat))).map (·.2)=l.filterMap id:=by
   intro l
   induction l with
   | nil=>intro n;rfl
   | cons a l ih =>
    intro n
    rw[List.zipIdx_cons]
    cases a with
    | none=>simpa using ih (n+1)
    | some x=>simpa using ih (n+1)
  rw[←gen ow.toList 0]
  congr 1
  have ez:ow.toList.zipIdx 0=(List.range 32).map fun j=>(ow.getD j none,j):=by
   apply List.ext_getElem?
   intro j
   rw[List.getElem?_zipIdx,List.getElem?_map]
   by_cases hj:j<32
   ·rw[List.getElem?_range hj,Array.getElem?_toList,Array.getElem?_eq_getElem (by rw[e2];exact hj)]
    simp[Array.getD,e2,hj]
   ·rw[List.getElem?_eq_none (show ow.toList.length≤j by simpa[e2]using Nat.le_of_not_lt hj),List.getElem?_eq_none (show(List.range 32).length≤j by simpa using Nat.le_of_not_lt hj)]
    rfl
  rw[ez,List.filterMap_map]
  rfl
 have hlen:(ow.toList.filterMap id).length=hashes.size:=by rw[e3.length_eq,List.length_range];simp
 refine⟨{ mask:=31,place:=(((List.range 32).filterMap fun j=>(ow.getD j none).map ((j,·):Nat->Nat×Nat)).map (·.1)).toArray,dummies:=#[],finger:=t.finger,led:=t.led,moves:=t.movedTo 31,plain:=t.plain },
  (((List.range 32).filterMap fun j=>(ow.getD j none).map ((j,·):Nat->Nat×Nat)).map (·.2)).toArray,by
  unfold SetTable.relaid SetTable.laid
  rw[hw]
  show(SetTable.layClean 31 hashes >>= _)=_
  rw[hlc]
  rfl,rfl,rfl,?_,?_,rfl⟩
 ·show(((List.range 32).filterMap fun j=>(ow.getD j none).map ((j,·):Nat->Nat×Nat)).map (·.1)).toArray.size=_
  rw[List.size_toArray,List.length_map,← hlen,← live2,List.length_map]
 ·show((((List.range 32).filterMap fun j=>(ow.getD j none).map ((j,·):Nat->Nat×Nat)).map (·.2)).toArray).toList.Perm _
  rw[live2]
  have:hashes.size=hashes.toList.length:=by simp
  rw[this]
  exact e3
theorem order_perm{α:Type}{es:Array α}{order:Array Nat}(h:order.toList.Perm (List.range es.size)):(order.filterMap (es[·]?)).toList.Perm es.toList:=by
 have e:(order.filterMap (es[·]?)).toList=order.toList.filterMap (es[·]?):=by simp
 rw[e]
 refine(h.filterMap _).trans ?_
 have:(List.range es.size).filterMap (es[·]?)=es.toList:=by
  apply List.ext_getElem?
  intro i
  have gen:∀n,n≤es.size->(List.range n).filterMap (es[·]?)=es.toList.take n:=by
   intro n
   induction n with
   | zero=>intro _;simp
   | succ n ih =>
    intro hn
    rw[List.range_succ,List.filterMap_append,ih (by omega),List.take_add_one]
    simp[Array.getElem?_eq_getElem (show n<es.size by omega)]
  rw[gen es.size (Nat.le_refl _),List.take_of_length_le (by simp)]
 rw[this]
end SP
namespace SP
open PySem PyProof.Rows
set_option maxRecDepth 100000
section
variable {prog:Program}{w:World}{A:Around}{E:Value->Shared->Prop}{s:Shared}
structure PSet (h:Heap) (S:Addr) (done:List (Int × Int)):Prop where
 is:∃es ep t,h.get? S=some { cls:=.type "set",dict:=none,data:=.set es ep t }/\t.dummies=#[]/\t.place.size=es.size/\es.size=done.length/\((t.mask=7/\es.size≤4)∨(t.mask=31/\es.size≤18)) /\
  ∀e∈es.toList,∃p∈done,e.1=hp p
theorem fits_of{t:SetTable}{n:Nat}(hd:t.dummies=#[])(h1:t.place.size=n)(h2:n≤t.mask):t.fits n=true:=by
 unfold SetTable.fits SetTable.fill
 rw[hd]
 simp[h1,h2]
theorem hash_pair(u v:Int)(h:(u,v)∈prs):tupleKeyHash (intKind prog w) [u,v]=hp (u,v):=by
 have key:∀p∈prs,hashInt p.1=p.1/\hashInt p.2=p.2:=by decide +kernel
 obtain⟨h1,h2⟩:=key _ h
 show reduceHash (Builtin.Tuple.tupleHashOf [hashInt u,hashInt v])=reduceHash (Builtin.Tuple.tupleHashOf [u,v])
 have h1':hashInt u=u:=h1
 have h2':hashInt v=v:=h2
 rw[h1',h2']
theorem ints_of{ks:List Int}{vs:List Value}(h:ItemsAre (intKind prog w) ks vs):∀x∈vs,∃i t,x=.int i t:=by
 induction h with
 | nil=>intro x hx;simp at hx
 | cons h1 _ ih =>
  intro x hx
  rcases List.mem_cons.mp hx with rfl | hx
  ·obtain⟨t,rfl⟩:=Value.isInt_shape h1
   exact⟨_,t,rfl⟩
  ·exact ih x hx
theorem hashByValue_pair{a:Addr}{u v:Int}{Q:Bool->Shared->Prop}(hk:IsTupleKey (intKind prog w) s.heap [u,v] a)(h:Q true s):wpAny (model prog w) A (hashByValue 8 (.ref a)) Q E s:=by
 have hT:=hk.typeIs
 obtain⟨o,items,n,ho,hc,hd,hi⟩:=hk
 unfold hashByValue
 refine wpAny_bind (wpAny_specialOf hT F.slot_tuple_hash.lookup ?_)
 show wpAny _ _ (seqItems? (.ref a) >>= _) _ _ s
 refine wpAny_bind (wpAny_seqItems ho hd ?_)
 refine wpAny_bind ?_
 show wpAny _ _ (forIn items _ _) _ _ s
 rw[←Array.forIn_toList]
 have hall:=ints_of hi
 refine wpAny_forIn_list _ (fun rest r s'=>r.1=none/\s'=s/\∀v∈rest,∃i t,v=.int i t) _ ?_ ?_ _ _ ⟨rfl,rfl,hall⟩
 ·rintro v rest r s' ⟨hr,rfl,hall⟩
  obtain⟨i,t,rfl⟩:=hall v List.mem_cons_self
  show wpAny _ _ (pure true >>= _) _ _ _
  refine wpAny_bind (wpAny_pure ?_)
  simp only[Bool.not_true,Bool.false_eq_true,if_false]
  exact wpAny_pure ⟨rfl,rfl,fun u hu'=>hall u (List.mem_cons_of_mem _ hu')⟩
 ·rintro⟨r1,r2⟩ s' ⟨hr,rfl,_⟩
  simp only at hr
  subst hr
  exact wpAny_pure h
theorem setAdd_pair{S a:Addr}{done:List (Int×Int)}{u v:Int}{Q:Bool->Shared->Prop}(hu:A.units<cLine)(hk:IsTupleKey (intKind prog w) s.heap [u,v] a)(hP:PSet s.heap S done)(hin:(u,v)∈prs)(hd:∀p∈done,p∈prs)
  (hn:(u,v)∉done) (hlen:done.length<15)
  (h:∀h' tk,Heap.SameBut S s.heap h'->PSet h' S (done++[(u,v)])->Q true { s with heap:=h',toks:=tk }):wpAny (model prog w) A (setAdd S (.ref a)) Q E s:=by
 obtain⟨es,ep,t,ho,htd,hts,hes,hm,hh⟩:=hP.is
 have hsa:S≠a:=by
  rintro rfl
  obtain⟨o,items,n,ho',hc,_⟩:=hk
  rw[ho]at ho';cases ho';exact absurd (show Value.type "set"=Value.type "tuple" from hc) (by decide)
 unfold setAdd
 refine wpAny_holding (wpAny_bind (wpAny_pyHash_tuple hu hk ?_))
 rw[hash_pair u v hin]
 generalize hs':({ s with toks:=s.toks+([u,v].length+1) }:Shared)=s1
 have e1:s1.heap=s.heap:=by rw[←hs']
 have ho1:s1.heap.get? S=some { cls:=.type "set",dict:=none,data:=.set es ep t }:=by rw[e1];exact ho
 have hk1:IsTupleKey (intKind prog w) s1.heap [u,v] a:=by rw[e1];exact hk
 have hmk:es.size≤t.mask:=by omega
 have hf:t.fits es.size=true:=fits_of htd hts hmk
 unfold setAddHashed
 refine wpAny_holding ?_
 show wpAny _ _ (setAddHashedIn S (.ref a) (hp (u,v)) (99999+1)) _ _ _
 unfold setAddHashedIn
 refine wpAny_bind (wpAny_setState_of ho1 rfl hf ?_)
 dsimp only
 have hbs:byScan (.ref a) es=false:=rfl
 rw[hbs]
 simp only[Bool.false_eq_true,if_false]
 obtain⟨j,hj⟩:=probe_ok (t:=t) (hashAt:=fun i=>(es[i]?.map (·.1)).getD 0) (h:=hp (u,v)) (hp_mem hin) htd (fun i hi q=>by
  rw[hts]at hi
  rw[Array.getElem?_eq_getElem hi]at q
  have q':(es[i]).1=hp (u,v):=q
  obtain⟨p,hpd,e⟩:=hh es[i] (Array.getElem_mem_toList hi)
  rw[e]at q'
  exact hn (hp_inj p (hd p hpd) _ hin q'▸hpd)) (by omega) (by omega)
 unfold setSearch
 show wpAny _ _ (setSearchFrom S (.ref a) (hp (u,v)) true (99999+1) none >>= _) _ _ _
 unfold setSearchFrom
 refine wpAny_bind (wpAny_bind (wpAny_setState_of ho1 rfl hf ?_))
 dsimp only
 have hgw:t.gaveWay=false:=by
  unfold SetTable.gaveWay
  rcases hm with hm | hm<;>rw[hm.1]<;>rfl
 rw[hgw,if_neg (by decide)]
 generalize hX:t.probe _ (hp (u,v)) (none.getD (t.probeStart (hp (u,v))))=X0
 have hX':X0=some (.empty j none):=by rw[←hX];exact hj
 subst hX'
 dsimp only
 refine wpAny_pure ?_
 dsimp only
 refine wpAny_bind (wpAny_setState_of ho1 rfl hf ?_)
 dsimp only
 -- the new table
 have hps:=put_size t j
 have hpd:=put_dummies htd j
 obtain⟨hpm,hpp⟩:=put_rest t j
 have hip:=insertAt_perm es (t.put j).2 (hp (u,v),Value.ref a)
 have his:(SetTable.insertAt es (t.put j).2 (hp (u,v),Value.ref a)).size=es.size+1:=by
  have:=hip.length_eq
  simpa using this
 have hash':∀e∈(SetTable.insertAt es (t.put j).2 (hp (u,v),Value.ref a)).toList,∃p∈done++[(u,v)],e.1=hp p:=fun e he=>by
  rcases List.mem_cons.mp (hip.mem_iff.mp he)with rfl | he
  ·exact⟨(u,v),by simp,rfl⟩
  ·obtain⟨p,h1,h2⟩:=hh e he
   exact⟨p,List.mem_append_left _ h1,h2⟩
 have last:wpAny (model prog w) A (do
   storeSet S (SetTable.insertAt es (t.put j).2 (hp (u,v),Value.ref a)) (t.put j).1
   if (!false&&(t.put j).1.tooFull)=true then do
    setRelay S (SetTable.grown (es.size+1))
    pure true
   else pure true) Q E s1:=by
  refine wpAny_bind (wpAny_storeSet_of ho1 rfl ?_ (by rw[his,sizeLine_eq];omega))
  have hg:(s1.heap.update S (Obj.putSet (SetTable.insertAt es (t.put j).2 (hp (u,v),Value.ref a)) (t.put j).1)).get? S=some { cls:=.type "set",dict:=none,data:=.set (SetTable.insertAt es (t.put j).2 (hp (u,v),Value.ref a)) (ep+1) (t.put j).1 } :=
   Heap.get?_update_self _ ho1 rfl
  have sb1:Heap.SameBut S s.heap (s1.heap.update S (Obj.putSet (SetTable.insertAt es (t.put j).2 (hp (u,v),Value.ref a)) (t.put j).1)):=by rw[e1];exact Heap.SameBut.update ..
  have hs1:∀hh':Heap,({ s1 with heap:=hh' }:Shared)={ s with heap:=hh',toks:=s1.toks }:=fun hh'=>by rw[←hs']
  by_cases hfull:(t.put j).1.tooFull=true
  ·rw[hfull,if_pos (by rfl)]
   have hfu:((t.put j).1.place.size+(t.put j).1.dummies.size)*5≥(t.put j).1.mask*3:=by
    have q:=hfull
    unfold SetTable.tooFull SetTable.fill at q
    exact of_decide_eq_true q
   rw[hps,hpd,hpm,hts]at hfu
   have hz:(#[]:Array Nat).size=0:=rfl
   rw[hz]at hfu
   have h5:t.mask=7/\es.size=4:=by omega
   have hw:SetTable.grown (es.size+1)=20:=by rw[h5.2];rfl
   rw[hw]
   have hf2:(t.put j).1.fits (SetTable.insertAt es (t.put j).2 (hp (u,v),Value.ref a)).size=true:=fits_of hpd (by rw[hps,his,hts]) (by rw[his,hpm];omega)
   obtain⟨t',order,r1,r2,r3,r4,r5,r6⟩:=relaid_ok (t:=(t.put j).1) (hashes:=(SetTable.insertAt es (t.put j).2 (hp (u,v),Value.ref a)).map (·.1)) (wanted:=20) rfl (fun h0 hm0=>by
    rw[Array.toList_map]at hm0
    obtain⟨e,he,rfl⟩:=List.mem_map.mp hm0
    obtain⟨p,hp1,hp2⟩:=hash' e he
    rw[hp2]
    rcases List.mem_append.mp hp1 with q | q
    ·exact hp_mem (hd p q)
    ·rw[List.mem_singleton.mp q];exact hp_mem hin) (by rw[Array.size_map,his];omega)
   rw[Array.size_map]at r4 r5
   have op:=order_perm r5
   have osz:(order.filterMap ((SetTable.insertAt es (t.put j).2 (hp (u,v),Value.ref a))[·]?)).size=(SetTable.insertAt es (t.put j).2 (hp (u,v),Value.ref a)).size:=by
    rw[←Array.length_toList,← Array.length_toList];exact op.length_eq
   unfold setRelay
   refine wpAny_bind (wpAny_bind (wpAny_setState_of hg rfl hf2 ?_))
   dsimp only
   rw[if_neg (show ¬SetTable.sizeAbove 20>sizeLine by rw[sizeLine_eq];decide)]
   refine wpAny_bind ?_
   rw[r1]
   show wpAny _ _ (if (Array.size (order.filterMap ((SetTable.insertAt es (t.put j).2 (hp (u,v),Value.ref a))[·]?)) !=(SetTable.insertAt es (t.put j).2 (hp (u,v),Value.ref a)).size)=true then _ else _) _ _ _
   rw[if_neg (by rw[osz];simp)]
   refine wpAny_pure ?_
   dsimp only
   refine wpAny_storeSet_of hg rfl ?_ (by rw[osz,his,sizeLine_eq];omega)
   refine wpAny_pure ?_
   have hg3:=Heap.get?_update_self (Obj.putSet (order.filterMap ((SetTable.insertAt es (t.put j).2 (hp (u,v),Value.ref a))[·]?)) t') hg rfl
   rw[hs1]
   refine h _ _ (sb1.trans (Heap.SameBut.update ..)) ⟨_,_,_,hg3,r3,by rw[r4,osz],by rw[osz,his,hes];simp,.inr ⟨r2,by rw[osz,his];omega⟩,fun e he=>hash' e (op.mem_iff.mp he)⟩
  ·rw[Bool.not_eq_true]at hfull
   rw[hfull,if_neg (by decide)]
   refine wpAny_pure ?_
   rw[hs1]
   refine h _ _ sb1 ⟨_,_,_,hg,hpd,by rw[hps,his,hts],by rw[his,hes];simp,?_,hash'⟩
   have hfu:¬((t.put j).1.place.size+(t.put j).1.dummies.size)*5≥(t.put j).1.mask*3:=by
    have q:=hfull
    unfold SetTable.tooFull SetTable.fill at q
    exact of_decide_eq_false q
   rw[hps,hpd,hpm,hts]at hfu
   have hz:(#[]:Array Nat).size=0:=rfl
   rw[hz]at hfu
   rw[his,hpm]
   omega
 by_cases hpl:(t.put j).1.plain=true
 ·rw[if_pos hpl]
  refine wpAny_bind (hashByValue_pair hk1 ?_)
  exact last
 ·rw[if_neg hpl]
  refine wpAny_bind (wpAny_pure ?_)
  exact last
def TupsAt(h:Heap)(vs:List Value)(ps:List (Int×Int)):Prop:=∀(i:Nat) (v:Value),vs[i]?=some v->∃a p,v=.ref a/\ps[i]?=some p/\IsTupleKey (intKind prog w) h [p.1,p.2] a
theorem key_same{h h':Heap}{S a:Addr}{u v:Int}{es:Array (Int×Value)}{ep:Nat}{t:SetTable}(x:IsTupleKey (intKind prog w) h [u,v] a)(ho:h.get? S=some { cls:=.type "set",dict:=none,data:=.set es ep t })
  (sb:∀b o,b≠S->h.get? b=some o->h'.get? b=some o):IsTupleKey (intKind prog w) h' [u,v] a:=by
 obtain⟨o,items,n,e,c,d,i⟩:=x
 refine⟨o,items,n,sb a o ?_ e,c,d,i⟩
 rintro rfl
 rw[ho]at e;cases e;cases d
theorem fill_loop{S I l:Addr}{vs:List Value}{ps:List (Int×Int)}{R:Result->Shared->Prop}(hu:A.units+1<cLine)(hh:A.in1.handled=none)(hlen:vs.length=ps.length)(hl15:ps.length≤15)(hnd:ps.Nodup)(hin:∀p∈ps,p∈prs)
  (hSI:S≠I) (hSl:S≠l) (hlI:l≠I):∀(k i:Nat) (s:Shared),ps.length - i=k->i≤ps.length->s.heap.IsListIter I l i->s.heap.IsList l vs.toArray->TupsAt (prog:=prog) (w:=w) s.heap vs ps->PSet s.heap S (ps.take i) ->
   (∀h' tk,(∀b o,b≠S->b≠I->s.heap.get? b=some o->h'.get? b=some o)->PSet h' S ps->R (.ok (.ret .none)) { s with heap:=h',toks:=tk }) ->
   codeAny (model prog w) A (.builtin "set.update.loop" ⟨[.ref S,.ref I],[]⟩) R s:=by
 intro k
 induction k with
 | zero =>
  intro i s hk hi hit hl hT hP hR
  have e:i=ps.length:=by omega
  subst e
  rw[List.take_length]at hP
  refine codeAny_builtin F.entry_set_update_loop ?_
  rw[Around.under_plainId F.plain_set_update_loop _]
  show wpAny _ A.in1 (pyNext (.ref I) >>= _) _ _ s
  refine wpAny_bind (wpAny_pyNext_list_end hh hit hl (by simp[hlen]) fun h' eb=>?_)
  show wpAny _ A.in1 (ret Value.none) _ _ _
  refine wpAny_pure (hR h' s.toks (fun b o _ hb e=>eb b o hb e) ?_)
  obtain⟨es,ep,t,ho,r⟩:=hP.is
  exact⟨es,ep,t,eb S _ hSI ho,r⟩
 | succ k ih =>
  intro i s hk hi hit hl hT hP hR
  have hlt:i<ps.length:=by omega
  have hvi:vs[i]?=some vs[i]:=List.getElem?_eq_getElem (by omega)
  obtain⟨a,p,ev,ep,key⟩:=hT i _ hvi
  refine codeAny_builtin F.entry_set_update_loop ?_
  rw[Around.under_plainId F.plain_set_update_loop _]
  show wpAny _ A.in1 (pyNext (.ref I) >>= _) _ _ s
  refine wpAny_bind (wpAny_pyNext_list_item hit hl (x:=.ref a) (by rw[←ev];simp) fun h1 hit1 sb1=>?_)
  have k1:∀b o,b≠I->s.heap.get? b=some o->h1.get? b=some o:=fun b o hb e=>sb1.extBut b o hb e
  obtain⟨es,epo,t,ho,r⟩:=id hP.is
  have hP1:PSet h1 S (ps.take i):=⟨es,epo,t,k1 S _ hSI ho,r⟩
  have key1:IsTupleKey (intKind prog w) h1 [p.1,p.2] a:=by
   obtain⟨o,items,n,e,c,d,ii⟩:=key
   refine⟨o,items,n,k1 a o ?_ e,c,d,ii⟩
   rintro rfl
   obtain⟨oi,hoi,hci,_⟩:=hit
   rw[hoi]at e;cases e;rw[hci]at c;exact absurd c (by decide)
  show wpAny _ A.in1 (holding [Value.ref a] (setAdd S (.ref a)) >>= _) _ _ _
  have hmem:p∈ps:=List.mem_of_getElem? ep
  have hnot:p∉ps.take i:=fun hm=>by
   obtain⟨j,hj,e⟩:=List.mem_iff_getElem.mp hm
   rw[List.getElem_take]at e
   rw[List.length_take]at hj
   obtain⟨hi',e'⟩:=List.getElem?_eq_some_iff.mp ep
   have:=(List.getElem_inj hnd (h₀:=by omega) (h₁:=hi')).mp (e.trans e'.symm)
   omega
  refine wpAny_bind (wpAny_holding (setAdd_pair (u:=p.1) (v:=p.2) (A:=A.in1) (by show A.units+1<cLine;exact hu) key1 hP1 (hin p hmem) (fun q hq=>hin q (List.mem_of_mem_take hq)) hnot (by rw[List.length_take];omega) fun h2 tk sb2 hP2=>?_))
  have k2:∀b o,b≠S->h1.get? b=some o->h2.get? b=some o:=fun b o hb e=>sb2.extBut b o hb e
  have et:ps.take i++[p]=ps.take (i+1):=by rw[List.take_add_one,ep];rfl
  refine wpAny_pure ⟨plainId_quiet F.plain_set_update_loop _,ih (i+1) { s with heap:=h2,toks:=tk } (by omega) (by omega) (hit1.extBut (fun b o hb e=>k2 b o hb e) (Ne.symm hSI)) ?_ ?_ (by rw[←et];exact hP2) ?_⟩
  ·exact(hl.extBut (fun b o hb e=>k1 b o hb e) hlI).extBut (fun b o hb e=>k2 b o hb e) (Ne.symm hSl)
  ·intro j v hv
   obtain⟨a',p',e1',e2',key'⟩:=hT j v hv
   refine⟨a',p',e1',e2',key_same ?_ (k1 S _ hSI ho) k2⟩
   obtain⟨o,items,n,e,c,d,ii⟩:=key'
   refine⟨o,items,n,k1 a' o ?_ e,c,d,ii⟩
   rintro rfl
   obtain⟨oi,hoi,hci,_⟩:=hit
   rw[hoi]at e;cases e;rw[hci]at c;exact absurd c (by decide)
  ·intro h3 tk3 kp hP3
   exact hR h3 tk3 (fun b o hb hb' e=>kp b o hb hb' (k2 b o hb (k1 b o hb' e))) hP3
set_option maxHeartbeats 4000000 in
theorem call_set_pairs{l:Addr}{vs:List Value}{ps:List (Int×Int)}{Q:Value->Shared->Prop}(hu:A.units+8<cLine)(hh:A.handled=none)(hl:s.heap.IsList l vs.toArray)(hlen:vs.length=ps.length)(hl15:ps.length≤15)
  (hnd:ps.Nodup) (hin:∀p∈ps,p∈prs) (hT:TupsAt (prog:=prog) (w:=w) s.heap vs ps)
  (h:∀h' tk,(∀b o,b<s.heap.objs.size->s.heap.get? b=some o->h'.get? b=some o)->PSet h' s.heap.objs.size ps->Q (.ref s.heap.objs.size) { s with heap:=h',toks:=tk }) :
  wpAny (model prog w) A (call (.type "set") [.ref l]) Q E s:=by
 obtain⟨c0,tl0,mro0⟩:=F.called_set.mro
 have made0:=F.called_set.made
 have sub0:=F.called_set.sub
 have nt0:=F.called_set.notType
 have cc0:=F.called_set.canCreate
 have tc0:=F.typeCall_set_1 (.ref l)
 refine wpAny_call (codeAny_of_tree ?_)
 show wpAny _ _ (callAny (.type "set") _) _ _ _
 refine wpAny_pure ⟨Code.quiet_builtin _ (by decide +kernel),codeAny_builtin F.entry_type_call ?_⟩
 rw[Around.under_plain (weight_type_call_type "set" [.ref l] []) rfl]
 repeat (any_goals (first | assumption | wp_step))
 refine codeAny_mono (code_set_new_1 (.ref l) (E:=E) (Q₁:=fun obj s1=>∃led:Bool,obj=.ref s.heap.objs.size /\
  s1={ s with heap:=s.heap.push { cls:=.type "set",dict:=none,data:=.set #[] 0 (.fresh 0 0 led) } }) fun led=>⟨led,rfl,rfl⟩) fun r s1 hr=>?_
 cases r with
 | error e=>exact hr
 | ok fl =>
  cases fl with
  | ret obj =>
   obtain⟨led,rfl,rfl⟩:=hr
   generalize hH:s.heap.push { cls:=.type "set",dict:=none,data:=.set #[] 0 (.fresh 0 0 led) }=H1
   have hS:H1.get? s.heap.objs.size=some { cls:=.type "set",dict:=none,data:=.set #[] 0 (.fresh 0 0 led) }:=by rw[←hH];exact Heap.get?_push_size _ rfl
   have old:∀b o,s.heap.get? b=some o->H1.get? b=some o:=fun b o e=>by rw[←hH];exact Heap.get?_push_of_some _ e
   have hsz:H1.objs.size=s.heap.objs.size+1:=by rw[←hH,Heap.size_push]
   have tyS:Shared.TypeIs { s with heap:=H1 } (.ref s.heap.objs.size) "set":=⟨_,hS,rfl⟩
   have li0:=F.called_set.init.lookup
   have bi0:=F.called_set.init.bind (.ref s.heap.objs.size)
   repeat (any_goals (first | assumption | wp_step))
   refine codeAny_mono (codeAny_call_builtin (R:=wants (fun r s2=>r=.none/\∃h' tk,s2={ s with heap:=h',toks:=tk }/\PSet h' s.heap.objs.size ps /\
    (∀b o,b<s.heap.objs.size->s.heap.get? b=some o->h'.get? b=some o)) E) F.called_set.init.plain F.entry_set_init (check_set_init_1 tyS ?_)) fun r2 s2 hr2=>?_
   ·obtain⟨ol,hol,hcl,nl,hdl⟩:=hl
    obtain⟨oc,od,oda,osl⟩:=ol
    simp only at hcl hdl
    subst hcl;subst hdl
    have hol1:H1.get? l=some { cls:=.type "list",dict:=od,data:=.seq vs.toArray nl,slots:=osl }:=old _ _ hol
    have sls:=F.sub_list_set
    have slf:=F.sub_list_frozenset
    have nld:(Value.type "list"==Value.type "dict")=false:=by decide
    have hl1:H1.IsList l vs.toArray:=⟨_,hol1,rfl,nl,rfl⟩
    have llt:l<s.heap.objs.size:=Heap.lt_size hol
    unfold Builtin.«set.__init__» noKeywords Builtin.Frozenset.updateFrom
    generalize hPI:pyIter=PI
    wp_walk
    subst hPI
    refine wpAny_pyIter_list hl1 ?_
    refine wpAny_bind (wpAny_runValue ?_)
    generalize hH2:H1.push { cls:=.type "list_iterator",data:=.fields #[.ref l,.int 0 0] }=H2
    have old2:∀b o,H1.get? b=some o->H2.get? b=some o:=fun b o e=>by rw[←hH2];exact Heap.get?_push_of_some _ e
    refine fill_loop (l:=l) (ps:=ps) (vs:=vs) (by show A.units+1+1+1<cLine;omega) (by simp[hh]) hlen hl15 hnd hin (by show s.heap.objs.size≠H1.objs.size;rw[hsz];exact Nat.ne_of_lt (Nat.lt_succ_self _)) (Nat.ne_of_gt llt) (by show l≠H1.objs.size;rw[hsz];exact Nat.ne_of_lt (Nat.lt_succ_of_lt llt)) ps.length 0 _ (by omega) (Nat.zero_le _) ?_ ?_ ?_ ?_ ?_
    ·rw[←hH2]
     exact⟨_,Heap.get?_push_size _ rfl,rfl,rfl⟩
    ·exact⟨_,old2 _ _ hol1,rfl,nl,rfl⟩
    ·intro i v hv
     obtain⟨a,p,e1,e2,o,items,n,e,r⟩:=hT i v hv
     exact⟨a,p,e1,e2,o,items,n,old2 _ _ (old _ _ e),r⟩
    ·exact⟨#[],0,.fresh 0 0 led,old2 _ _ hS,rfl,rfl,rfl,.inl ⟨rfl,by decide⟩,fun e he=>by simp at he⟩
    ·intro h' tk kp hP
     show wpAny _ _ (pure ()) _ _ _
     refine wpAny_pure ?_
     show wpAny _ _ (ret Value.none) _ _ _
     refine wpAny_pure ⟨rfl,h',tk,rfl,hP,fun b o hb e=>?_⟩
     refine kp b o (Nat.ne_of_lt hb) ?_ (old2 _ _ (old _ _ e))
     show b≠H1.objs.size
     rw[hsz];exact Nat.ne_of_lt (Nat.lt_succ_of_lt hb)
   ·cases r2 with
    | error e=>exact hr2
    | ok f2 =>
     cases f2 with
     | ret r =>
      obtain⟨rfl,h',tk,rfl,hP,hk⟩:=hr2
      repeat (any_goals (first | assumption | wp_step))
      exact h _ _ hk hP
     | _=>exact hr2.elim
  | _=>exact hr.elim
end
end SP
set_option linter.all false
set_option maxRecDepth 100000
set_option maxHeartbeats 4000000
namespace L2
open PySem PySem.Spec PyProof.Rows
variable {X:Cx}
def SetA(S:Addr)(n:Nat):Heap->Prop:=fun h=>∃es ep t,h.get? S=some { cls:=.type "set",dict:=none,data:=.set es ep t }/\es.size=n/\t.fits es.size=true
def Prs(K:PySem.W.Frag)(H:Hp)(us:List V)(ps:List (Int×Int)):Prop:=Paired (fun(u:V) (p:Int×Int)=>∃t,u=.ref t/\SqT K H t [.int p.1,.int p.2]) us ps
theorem prs_get{K:PySem.W.Frag}{H:Hp}:∀{us:List V} {ps:List (Int×Int)} {i:Nat} {u:V},Prs K H us ps->us[i]?=some u->∃p t,ps[i]?=some p/\u=.ref t/\SqT K H t [.int p.1,.int p.2]
 | [],_,i,u,_,e=>by simp at e
 | _::_,_::_,0,u,.cons h _,e=>by
  obtain⟨t,h1,h2⟩:=h
  simp at e
  subst e
  exact⟨_,t,by simp,h1,h2⟩
 | _::_,_::_,i+1,u,.cons _ t,e=>by
  obtain⟨p,a,e1,e2⟩:=prs_get (i:=i) (u:=u) t (by simpa using e)
  exact⟨p,a,by simpa using e1,e2⟩
theorem prs_len{K:PySem.W.Frag}{H:Hp}{us:List V}{ps:List (Int×Int)}(h:Prs K H us ps):us.length=ps.length:=Paired.length h
theorem call_setP(hc:X.calm=true)(hu:X.A.units+64<cLine):CallR X (.type "set") (fun xs H Q=>∃(a:Addr) (us:List V) (ps:List (Int×Int)),xs=[.ref a]/\SqL X.K H a us/\Prs X.K H us ps/\ps.Nodup/\(∀p∈ps,p∈SP.prs)/\ps.length≤15/\∀S,H S=none->Q (.ref S) (upd H S (.ext (SetA S ps.length)))):=by
 intro pins s σ H xs us Q I r h
 obtain⟨a,ws,ps,rfl,hq,hP,nd,hin,h15,q⟩:=h
 obtain⟨u,rfl,ru⟩:=Vals.one r
 cases ru
 obtain⟨its,rv,p,hz⟩:=I.list hq
 have hlen:its.length=ps.length:=rv.length.symm.trans (prs_len hP)
 refine SP.call_set_pairs (by omega) (I.ok.hd hc) p.isList hlen h15 nd hin ?_ fun h' tk kp P=>?_
 ·intro i v hv
  have hi:i<ws.length:=by rw[rv.length];exact(List.getElem?_eq_some_iff.mp hv).1
  obtain⟨pr,t,e1,e2,hs⟩:=prs_get (i:=i) hP (List.getElem?_eq_getElem hi)
  obtain⟨u,eu,ru⟩:=rv.get (List.getElem?_eq_getElem hi)
  rw[hv]at eu;cases eu
  rw[e2]at ru
  cases ru
  obtain⟨is,r2,⟨o,ho,hcl,n,hd⟩,_⟩:=I.tuple hs
  obtain⟨x,y,rfl,rx,ry⟩:=vals2 r2
  obtain⟨t1,rfl⟩:=rx
  obtain⟨t2,rfl⟩:=ry
  exact⟨t,pr,rfl,e1,o,_,n,ho,hcl,hd,.cons (by simp[intKind,Value.isInt]) (.cons (by simp[intKind,Value.isInt]) .nil)⟩
 ·have hn:H s.heap.objs.size=none:=I.hok.fresh (Nat.le_refl _)
  obtain⟨es,ep,t,ho,hd,hp,hl,hm,_⟩:=P.is
  have hf:t.fits es.size=true:=SP.fits_of hd hp (by rcases hm with⟨e,k⟩ |⟨e,k⟩<;>omega)
  refine⟨.ref s.heap.objs.size,_,I.laid (t':=tk) (o:=.ext (SetA s.heap.objs.size ps.length)) (fun b o e=>kp b o (Heap.lt_size e) e) (Nat.le_refl _) ?_,rfl,q _ hn⟩
  exact⟨⟨es,ep,t,ho,hl,hf⟩,⟨_,ho⟩,fun h1 h2 ⟨es,ep,t,e,l,f⟩ k=>⟨es,ep,t,k _ e,l,f⟩⟩
theorem call_lenS:CallR X (.builtin "len") (fun xs H Q=>∃(S:Addr) (n:Nat),xs=[.ref S]/\H S=some (.ext (SetA S n))/\n<1000/\Q (.int n) H):=by
 intro pins s σ H xs us Q I r h
 obtain⟨S,n,rfl,hS,hn,q⟩:=h
 obtain⟨u,rfl,ru⟩:=Vals.one r
 cases ru
 obtain⟨⟨es,ep,t,ho,hl,hf⟩,_,_⟩:=(show ObjOk X.prog X.w H s.heap S (.ext (SetA S n))from I.hok S _ hS)
 subst hl
 exact call_len_set ho ⟨rfl,rfl,rfl⟩ rfl hf (by omega) ⟨.int es.size,H,I.tok _,⟨_,rfl⟩,q⟩
end L2
namespace U
open PySem PySem.Spec PyProof.Rows L2
variable {B:Bs}{X:Cx}{e:Expr}{ta:TE'}{p p2 pos pos2:Pos}
def prV(p:Int×Int):PV:=.tup [.int p.1,.int p.2]
theorem prs_of{K:PySem.W.Frag}{H:Hp}:∀{ps:List (Int×Int)} {us:List V},RPs K H (ps.map prV) us->Prs K H us ps
 | [],us,h=>by
  have:us=[]:=by simpa[RPs]using h
  subst this;exact .nil
 | q::ps,us,h=>by
  simp only[List.map_cons,RPs,RP,prV]at h
  obtain⟨u,r,rfl,⟨t,ws,rfl,hs,w1,r1,rfl,rfl,w2,r2,rfl,rfl,rfl⟩,h2⟩:=h
  exact .cons ⟨t,rfl,hs⟩ (prs_of h2)
def lenSet(x:PV)(H:PHp)(Q:VK'):Prop:=match x with
 | .ref a=>∃ps:List (Int×Int),H a=some (.lst (ps.map prV))/\ps.Nodup/\(∀p∈ps,p∈SP.prs)/\ps.length≤15/\Q (.int ps.length) H
 | _=>False
def uLenSet(ta:TE'):TE':=fun σ H Q=>ta σ H fun x H1=>lenSet x H1 Q
theorem qe_len_set(hc:X.calm=true)(hu:X.A.units+64<cLine)(hgl:Gl X "len")(hml:X.mg "len"=none)(hgs:Gl X "set")(hms:X.mg "set"=none)(bs:bootBuiltins "set"=some (.type "set"))(ha:PE' X B e ta)
  (he:starEach [.Call (.Name "set" p2) [e] [] pos2] X.env=[(false,eval (.Call (.Name "set" p2) [e] [] pos2) X.env)]:=by rfl) (he2:starEach [e] X.env=[(false,eval e X.env)]:=by rfl) :
  PE' X B (.Call (.Name "len" p) [.Call (.Name "set" p2) [e] [] pos2] [] pos) (uLenSet ta) :=
 pe_imp (pe_callB call_lenS hgl hml PySem.boot_len (pa_cons (pe_callTy (call_setP hc hu) hgs hms bs (pa_cons ha pa_nil he2) (by decide) (by decide) he2 rfl) pa_nil he) (by decide) (by decide) he rfl) fun σ H Q h=>by
  obtain⟨σ',H',Q',s,h,k⟩:=h
  refine⟨σ',H',_,s,h,fun x' H1' x H1 h1 rx s1 e1=>?_⟩
  cases x' with
  | ref a =>
   obtain⟨ps,ea,nd,hin,h15,q⟩:=h1
   simp only[RP]at rx
   subst rx
   obtain⟨us,eg,r2⟩:=s1.hp _ _ ea
   refine⟨a,us,ps,rfl,.inl (.inl eg),prs_of r2,nd,hin,h15,fun S hS=>?_⟩
   exact⟨S,ps.length,rfl,upd_same,by omega,k _ _ _ _ q (by simp[RP]) (s1.hid hS) (e1.trans (Ev.hid hS))⟩
  | _=>exact h1.elim
end U
set_option linter.all false
set_option maxRecDepth 100000
set_option maxHeartbeats 4000000
namespace U
open PySem PySem.Spec PyProof.Rows L2
variable {B:Bs}{X:Cx}{a b:Expr}{ta tb:TE'}{pos:Pos}
def uShr:R2':=uI (fun _ j=>0≤j) fun i j=>.int (i / 2 ^ j.toNat)
def uBand:R2':=uI0 fun i j=>.int (Builtin.bitAnd i j)
end U
set_option linter.all false
set_option maxRecDepth 100000
set_option maxHeartbeats 4000000
namespace ST
open PySem PySem.W PyProof.Rows
def key(K:Nat->Int)(p:Array Nat)(i:Nat):Int:=K ((p[i]?).getD 0)
structure Ok (n:Nat) (p:Array Nat):Prop where
 perm:p.toList.Perm (List.range n)
def S(K:Nat->Int)(p:Array Nat)(m:Nat):Prop:=∀i j,i<j->j<m->key K p i<key K p j
theorem Ok.size{n:Nat}{p:Array Nat}(h:Ok n p):p.size=n:=by
 have:=h.perm.length_eq
 simpa using this
theorem Ok.lt{n:Nat}{p:Array Nat}(h:Ok n p)(h0:0<n)(i:Nat):p.getD i 0<n:=by
 rw[Array.getD_eq_getD_getElem?]
 cases e:p[i]? with
 | none=>exact h0
 | some x =>
  have:x∈p.toList:=by
   obtain⟨hi,rfl⟩:=Array.getElem?_eq_some_iff.mp e
   simp
  exact List.mem_range.mp (h.perm.mem_iff.mp this)
theorem Ok.of{n:Nat}{p q:Array Nat}(h:Ok n p)(r:q.Perm p):Ok n q:=⟨(Array.perm_iff_toList_perm.mp r).trans h.perm⟩
section
variable {cmp:Nat->Nat->(Bool->Shared->Prop)->Shared->Prop}{s:Shared}{n:Nat}{K:Nat->Int}{p:Array Nat}
theorem Ok.ne(hK:∀i j,i<n->j<n->K i=K j->i=j)(h:Ok n p){i j:Nat}(hi:i<n)(hj:j<n)(hne:i≠j):key K p i≠key K p j:=by
 intro e
 have hs:=h.size
 have h0:0<n:=by omega
 unfold key at e
 rw[Array.getElem?_eq_getElem (by omega),Array.getElem?_eq_getElem (by omega)]at e
 simp only[Option.getD_some]at e
 have nd:p.toList.Nodup:=(h.perm.nodup_iff).mpr List.nodup_range
 have l1:p[i]<n:=by have:=h.lt h0 i;rwa [Array.getD_eq_getD_getElem?,Array.getElem?_eq_getElem (by omega)]at this
 have l2:p[j]<n:=by have:=h.lt h0 j;rwa [Array.getD_eq_getD_getElem?,Array.getElem?_eq_getElem (by omega)]at this
 have q:=hK _ _ l1 l2 e
 have:i=j:=by
  exact(List.getElem_inj nd (h₀:=by simpa[hs]using hi) (h₁:=by simpa[hs]using hj)).mp (by simpa using q)
 exact hne this
theorem getD_key(K:Nat->Int)(p:Array Nat)(i:Nat):K (p.getD i 0)=key K p i:=by
 unfold key;rw[Array.getD_eq_getD_getElem?]
variable (hc:∀i j C,i<n->j<n->C (decide (K i<K j)) s->cmp i j C s)(hK:∀i j,i<n->j<n->K i=K j->i=j)
include hc
theorem ask_at{G:Bool->Shared->Prop}(h0:0<n)(ok:Ok n p){i j:Nat}(h:G (decide (key K p i<key K p j)) s):cmp (p.getD i 0) (p.getD j 0) G s:=by
 refine hc _ _ _ (ok.lt h0 i) (ok.lt h0 j) ?_
 rw[getD_key K p i,getD_key K p j]
 exact h
include hK
theorem lt_of_not{i j:Nat}(ok:Ok n p)(hi:i<n)(hj:j<n)(hne:i≠j)(h:¬key K p i<key K p j):key K p j<key K p i:=by
 have:=ok.ne hK hi hj hne
 omega
theorem asc(ok:Ok n p):∀(f m:Nat) {G:Nat->Shared->Prop},1≤m->m+f≤n->S K p m ->
  (∀m',m≤m'->m'≤m+f->S K p m'->(m'<m+f->key K p m'<key K p (m' - 1))->G m' s)->(kas_asc p f m).kasWp cmp G s
 | 0,m,G,_,_,hS,h=>h m (Nat.le_refl _) (Nat.le_refl _) hS fun q=>absurd q (Nat.lt_irrefl _)
 | f+1,m,G,h1,hm,hS,h=>by
  refine ask_at hc (by omega) ok (G:=fun c s'=>(if c=true then KasT.ret m else kas_asc p f (m+1)).kasWp cmp G s') ?_
  by_cases q:key K p m<key K p (m - 1)
  ·rw[decide_eq_true q]
   show G m s
   exact h m (Nat.le_refl _) (by omega) hS fun _=>q
  ·rw[decide_eq_false q]
   show(kas_asc p f (m+1)).kasWp cmp G s
   have q':=lt_of_not hc hK ok (by omega) (by omega) (by omega) q
   refine asc ok f (m+1) (by omega) (by omega) ?_ fun m' a b c d=>h m' (by omega) (by omega) c fun e=>d (by omega)
   intro i j hij hj
   by_cases hjm:j<m
   ·exact hS i j hij hjm
   ·have:j=m:=by omega
    subst this
    by_cases him:i=j - 1
    ·subst him;exact q'
    ·have:=hS i (j - 1) (by omega) (by omega)
     omega
theorem desc(ok:Ok n p):∀(f m:Nat) {G:Array Nat×Nat×Nat->Shared->Prop},1≤m->m+f≤n->(∀i j,i<j->j<m->key K p j<key K p i) ->
  (∀m',m≤m'->m'≤m+f->(∀i j,i<j->j<m'->key K p j<key K p i)->G (p,m',0) s)->(kas_desc f p m 0).kasWp cmp G s
 | 0,m,G,_,_,hS,h=>h m (Nat.le_refl _) (Nat.le_refl _) hS
 | f+1,m,G,h1,hm,hS,h=>by
  refine ask_at hc (by omega) ok (G:=fun c s'=>(if c=true then(if 0>0 then kas_desc f (kas_rev p (m - (0+1)) m) (m+1) 0 else kas_desc f p (m+1) 0)
   else KasT.ask (p.getD (m - 1) 0) (p.getD m 0) fun d=>if d=true then KasT.ret (p,m,0)else kas_desc f p (m+1) (0+1)).kasWp cmp G s') ?_
  by_cases q:key K p m<key K p (m - 1)
  ·rw[decide_eq_true q,if_pos rfl,if_neg (by omega)]
   refine desc ok f (m+1) (by omega) (by omega) ?_ fun m' a b c=>h m' (by omega) (by omega) c
   intro i j hij hj
   by_cases hjm:j<m
   ·exact hS i j hij hjm
   ·have:j=m:=by omega
    subst this
    by_cases him:i=j - 1
    ·subst him;exact q
    ·have:=hS i (j - 1) (by omega) (by omega)
     omega
  ·rw[decide_eq_false q]
   have q':=lt_of_not hc hK ok (by omega) (by omega) (by omega) q
   refine ask_at hc (by omega) ok (G:=fun d s'=>(if d=true then KasT.ret (p,m,0)else kas_desc f p (m+1) (0+1)).kasWp cmp G s') ?_
   rw[decide_eq_true q',if_pos rfl]
   exact h m (Nat.le_refl _) (by omega) hS
theorem rev_key{m:Nat}(ok:Ok n p)(hm:m≤n)(i:Nat):key K (kas_rev p 0 m) i=if i<m then key K p (m - 1 - i)else key K p i:=by
 unfold key kas_rev
 rw[getElem?_mirror_all (by rw[ok.size];exact hm)]
 by_cases h:i<m
 ·rw[if_pos ⟨Nat.zero_le _,h⟩,if_pos h]
  congr 3
  omega
 ·rw[if_neg (by omega),if_neg h]
theorem count{G:Nat×Array Nat->Shared->Prop}(ok:Ok n p)(h1:1≤n)(h:∀m p',Ok n p'->1≤m->m≤n->S K p' m->G (m,p') s):(kas_count n p).kasWp cmp G s:=by
 unfold kas_count
 rw[KasT.kasWp_bind]
 refine asc hc hK ok (n - 1) 1 (Nat.le_refl _) (by omega) (fun i j a b=>by omega) fun m' a b hS st=>?_
 by_cases e:m'=n
 ·subst e
  rw[if_pos (by simp)]
  exact h _ _ ok (by omega) (Nat.le_refl _) hS
 ·rw[if_neg (by simpa using e)]
  by_cases e1:m'>1
  ·rw[if_pos e1]
   refine ask_at hc (by omega) ok (G:=fun c s'=>(if c=true then KasT.ret (m',p)else kas_descPart m' n (kas_rev p 0 m')).kasWp cmp G s') ?_
   rw[decide_eq_true (hS 0 (m' - 1) (by omega) (by omega)),if_pos rfl]
   exact h _ _ ok (by omega) (by omega) hS
  ·rw[if_neg e1]
   have:m'=1:=by omega
   subst this
   unfold kas_descPart
   rw[KasT.kasWp_bind]
   have st1:=st (by omega)
   refine desc hc hK ok (n - (1+1)) (1+1) (by omega) (by omega) (fun i j hij hj=>?_) fun m' a b hD=>?_
   ·have h1:j=1:=by omega
    have h2:i=0:=by omega
    subst h1;subst h2
    exact st1
   ·rw[if_neg (by simp)]
    unfold kas_tail3
    rw[KasT.kasWp_bind]
    have ok2:Ok n (kas_rev p 0 m'):=ok.of (mirror_perm _ _ _ _)
    refine asc hc hK ok2 (n - m') m' (by omega) (by omega) (fun i j hij hj=>?_) fun m2 a2 b2 hS2 _=>?_
    ·rw[rev_key hc hK ok (by omega),rev_key hc hK ok (by omega),if_pos (by omega),if_pos hj]
     exact hD _ _ (by omega) (by omega)
    ·exact h m2 _ ok2 (by omega) (by omega) hS2
theorem place(ok:Ok n p){k:Nat}(hk:k<n)(hS:S K p k):∀(f l r:Nat) {G:Nat->Shared->Prop},l≤r->r≤k->r - l≤f->(∀i,i<l->key K p i<key K p k)->(∀i,r≤i->i<k->key K p k<key K p i) ->
  (∀l',l'≤k->(∀i,i<l'->key K p i<key K p k)->(∀i,l'≤i->i<k->key K p k<key K p i)->G l' s)->(kas_place p k f l r).kasWp cmp G s
 | 0,l,r,G,h1,h2,h3,ha,hb,h=>h l (by omega) ha fun i x y=>hb i (by omega) y
 | f+1,l,r,G,h1,h2,h3,ha,hb,h=>by
  unfold kas_place
  by_cases e:l≥r
  ·rw[if_pos e]
   exact h l (by omega) ha fun i x y=>hb i (by omega) y
  ·rw[if_neg e]
   refine ask_at hc (by omega) ok (G:=fun c s'=>(if c=true then kas_place p k f l ((l+r) / 2)else kas_place p k f ((l+r) / 2+1) r).kasWp cmp G s') ?_
   have hmid:(l+r) / 2<k:=by omega
   generalize hm:(l+r) / 2=mid at *
   by_cases q:key K p k<key K p mid
   ·rw[decide_eq_true q,if_pos rfl]
    refine place ok hk hS f l mid (by omega) (by omega) (by omega) ha (fun i x y=>?_) h
    by_cases z:i=mid
    ·subst z;exact q
    ·have:=hS mid i (by omega) y
     omega
   ·rw[decide_eq_false q,if_neg (by simp)]
    have q':=lt_of_not hc hK ok hk (by omega) (by omega) q
    refine place ok hk hS f (mid+1) r (by omega) h2 (by omega) (fun i x=>?_) hb h
    by_cases z:i=mid
    ·subst z;exact q'
    ·have:=hS i mid (by omega) hmid
     omega
theorem bub_key{k l:Nat}(ok:Ok n p)(hk:k<n)(hl:l≤k)(i:Nat):key K (bubble p k (k - l)) i=if i=l then key K p k else if l<i/\i≤k then key K p (i - 1)else key K p i:=by
 unfold key
 rw[getElem?_bubble (by rw[ok.size];exact hk) _ (Nat.sub_le _ _)]
 rw[show k - (k - l)=l by omega]
 split
 ·rfl
 ·split<;>rfl
theorem bin:∀(f k:Nat) (p:Array Nat) {G:Array Nat->Shared->Prop},Ok n p->1≤k->k+f=n->S K p k->(∀p',Ok n p'->S K p' n->G p' s)->(kas_bin f p k).kasWp cmp G s
 | 0, k, p, G, ok, h1, h2, hS, h => h p ok (by have : k = n := by omega
                                               subst this; exact hS)
 | f+1,k,p,G,ok,h1,h2,hS,h=>by
  unfold kas_bin
  rw[KasT.kasWp_bind]
  refine place hc hK ok (by omega) hS k 0 k (by omega) (Nat.le_refl _) (by omega) (fun i x=>by omega) (fun i x y=>by omega) fun l hl ha hb=>?_
  refine bin f (k+1) _ (ok.of (bubble_perm _ _ _)) (by omega) (by omega) (fun i j hij hj=>?_) h
  rw[bub_key hc hK ok (by omega) hl,bub_key hc hK ok (by omega) hl]
  by_cases c1:i=l
  ·rw[if_pos c1]
   rw[if_neg (by omega),if_pos (by omega)]
   exact hb _ (by omega) (by omega)
  ·rw[if_neg c1]
   by_cases c2:j=l
   ·rw[if_pos c2,if_neg (by omega)]
    exact ha _ (by omega)
   ·rw[if_neg c2]
    by_cases c3:l<i/\i≤k
    ·rw[if_pos c3,if_pos (by omega)]
     exact hS _ _ (by omega) (by omega)
    ·rw[if_neg c3]
     by_cases c4:l<j/\j≤k
     ·rw[if_pos c4]
      by_cases c5:i=j - 1
      ·omega
      ·exact hS _ _ (by omega) (by omega)
     ·rw[if_neg c4]
      exact hS _ _ hij (by omega)
theorem sorts{G:Array Nat->Shared->Prop}(h1:1≤n)(h:∀p,Ok n p->S K p n->G p s):(kas_sort n).kasWp cmp G s:=by
 unfold kas_sort
 rw[KasT.kasWp_bind]
 refine count hc hK (p:=(List.range n).toArray) ⟨by simp⟩ h1 fun m p' ok a b hS=>?_
 show(if m<n then kas_bin (n - max m 1) p' (max m 1)else KasT.ret p').kasWp cmp G s
 by_cases e:m<n
 ·rw[if_pos e,show max m 1=m by omega]
  exact bin hc hK (n - m) m p' ok a (by omega) hS h
 ·rw[if_neg e]
  have:m=n:=by omega
  subst this
  exact h p' ok hS
end
end ST
set_option linter.all false
set_option maxRecDepth 100000
set_option maxHeartbeats 4000000
namespace ST
open PySem PySem.W PyProof.Rows
def pk(p:Int×Int):Int:=6*p.1+p.2
def Tp(h:Heap)(v:Value)(p:Int×Int):Prop:=∃t o k u1 u2,v=.ref t/\h.get? t=some o/\o.cls=.type "tuple"/\o.data=.seq #[.int p.1 u1,.int p.2 u2] k
def Tps(h:Heap)(vs:List Value)(ps:List (Int×Int)):Prop:=vs.length=ps.length/\∀i v,vs[i]?=some v->Tp h v (ps.getD i (0,0))
theorem Tp.kp{h h':Heap}{v:Value}{p:Int×Int}(x:Tp h v p)(k:∀b o,o.cls=.type "tuple"->h.get? b=some o->h'.get? b=some o):Tp h' v p:=by
 obtain⟨t,o,n,u1,u2,e,ho,hc,hd⟩:=x
 exact⟨t,o,n,u1,u2,e,k _ _ hc ho,hc,hd⟩
section
variable {prog:Program}{w:World}{A:Around}{E:Value->Shared->Prop}{s:Shared}
theorem lt_pair{x y:Value}{p q:Int×Int}{C:Bool->Shared->Prop}(hx:Tp s.heap x p)(hy:Tp s.heap y q)(bp:0≤p.2/\p.2<6)(bq:0≤q.2/\q.2<6)(h:C (decide (pk p<pk q)) s) :
  wpAny (model prog w) A (keyLt' (tuples' true) x y) C E s:=by
 obtain⟨t,o,n,u1,u2,rfl,ho,hc,hd⟩:=hx
 obtain⟨t',o',n',w1,w2,rfl,ho',hc',hd'⟩:=hy
 refine kat_lt ho hd ho' hd' ?_
 show KatLex prog w A true (decide (2<2)) C [(.int p.1 u1,.int q.1 w1),(.int p.2 u2,.int q.2 w2)] 0 s
 refine kat_cons (wpAny_eqBool_int ?_)
 refine kat_go (fun e1=>kat_yes (kat_cons (wpAny_eqBool_int ?_))) (fun e1=>kat_no ?_)
 ·have e1:p.1=q.1:=by simpa using e1
  refine kat_go (fun e2=>kat_yes (kat_nil ?_)) (fun e2=>kat_no ?_)
  ·have e2:p.2=q.2:=by simpa using e2
   have:decide (pk p<pk q)=decide (2<2):=by unfold pk;rw[e1,e2];simp
   rw[←this];exact h
  ·refine kat_one _ _ (PyProof.Rows.lt_int ?_)
   have:decide (pk p<pk q)=decide (p.2<q.2):=by
    rw[decide_eq_decide];unfold pk;omega
   show C (decide (p.2<q.2)) s
   rw[←this];exact h
 ·have e1:¬p.1=q.1:=by simpa using e1
  refine oneLt_int ?_
  have:decide (pk p<pk q)=decide (p.1<q.1):=by
   rw[decide_eq_decide];unfold pk;omega
  rw[←this];exact h
theorem tups_of{h:Heap}:∀{vs:List Value} {ps:List (Int×Int)},Tps h vs ps->∃fs,KatTups h vs fs/\fs.length=vs.length/\∀v∈fs,∃i t,v=.int i t
 | [],ps,_=>⟨[],KatTups.nil,rfl,by simp⟩
 | v::vs,[],x=>by have:=x.1;simp at this
 | v::vs,p::ps,x=>by
  obtain⟨fs,t,l,q⟩:=tups_of (h:=h) (vs:=vs) (ps:=ps) ⟨by have:=x.1;simpa using this,fun i v e=>by simpa using x.2 (i+1) v (by simpa using e)⟩
  obtain⟨t0,o,n,u1,u2,rfl,ho,hc,hd⟩:=x.2 0 v (by simp)
  refine⟨.int _ u1::fs,KatTups.cons ho hc hd rfl t,by simp[l],?_⟩
  intro z hz
  rcases List.mem_cons.mp hz with rfl | hz
  ·exact⟨_,_,rfl⟩
  ·exact q z hz
theorem list_sort_pairs{a:Addr}{vs:List Value}{ps:List (Int×Int)}{n:Nat}{P:PySem.Fin->Shared->Prop}(ho:s.heap.get? a=some (seqObj "list" vs.toArray n))(hT:Tps s.heap vs ps)(nd:ps.Nodup)
  (hb:∀p∈ps,0≤p.2/\p.2<6) (h64:vs.length<64)
  (h:∀q:List Nat,q.Perm (List.range vs.length)->(q.map fun i=>ps.getD i (0,0)).Pairwise (fun x y=>pk x<pk y)->P (.done (.ret .none)) { s with heap:=sortedHeap s.heap a vs (q.map fun i=>vs.getD i Value.none).toArray }) :
  wpAny (model prog w) A (Builtin.«list.sort» ⟨[.ref a],[]⟩) P E s:=by
 rw[list_sort_plain]
 have hls:vs.length≤sizeLine:=by rw[sizeLine_eq];omega
 refine wpAny_bind (listItems_at ho rfl (wpAny_bind ?_))
 refine(listUpdate_at ho rfl ?_ (by rw[List.size_toArray];omega) (Nat.zero_le _))
 obtain⟨ea0,oa0⟩:∃ea0,(s.heap.update a (Obj.mapSeq fun _=>#[])).get? a=some (seqObj "list" #[] ea0):=⟨_,get?_update_seq ho (fun _=>#[])⟩
 refine wpAny_bind (seqEpoch_at oa0 rfl ?_)
 refine wpAny_bind (wpAny_newTuple ?_ (by show vs.length≤_;omega))
 refine wpAny_bind (wpAny_newList ?_ (Nat.zero_le _))
 refine wpAny_holding ?_
 have kq0:∀b o,b≠a->s.heap.get? b=some o->(((s.heap.update a (Obj.mapSeq fun _=>#[])).push (seqObj "tuple" vs.toArray 0)).push (seqObj "list" #[] 0)).get? b=some o:=fun b o hne q =>
  Heap.get?_push_of_some _ (Heap.get?_push_of_some _ (by rw[Heap.get?_update_ne _ _ _ _ hne];exact q))
 have og0:(((s.heap.update a (Obj.mapSeq fun _=>#[])).push (seqObj "tuple" vs.toArray 0)).push (seqObj "list" #[] 0)).get? a=some (seqObj "list" #[] ea0) :=
  Heap.get?_push_of_some _ (Heap.get?_push_of_some _ oa0)
 have hT6:Tps (((s.heap.update a (Obj.mapSeq fun _=>#[])).push (seqObj "tuple" vs.toArray 0)).push (seqObj "list" #[] 0)) vs ps:=⟨hT.1,fun i v e=>(hT.2 i v e).kp fun b o hcl q=>kq0 b o (fun z=>by
  subst z;rw[ho]at q;cases q;exact absurd hcl (by simp[seqObj])) q⟩
 show wpAny (model prog w) _ _ P _ { s with heap:=((s.heap.update a (Obj.mapSeq fun _=>#[])).push (seqObj "tuple" vs.toArray 0)).push (seqObj "list" #[] 0) }
 dsimp only
 have zq0:vs.toArray.size=vs.length:=by simp
 by_cases hq2:vs.toArray.size<2
 ·rw[if_pos hq2,if_pos hq2]
  refine wpAny_bind (wpAny_pure ?_)
  rw[StateT.run_pure]
  refine wpAny_bind (wpAny_pure ?_)
  dsimp only
  refine wpAny_bind (seqEpoch_at og0 rfl ?_)
  refine wpAny_bind (listUpdate_at og0 rfl ?_ (Nat.zero_le _) (by rw[Array.size_map];show(pairsOf vs).size≤_;rw[pairsOf_size];omega))
  simp only[bne_self_eq_false,Bool.false_eq_true,if_false]
  have hq:=h (List.range vs.length) (List.Perm.refl _) ?_
  ·have e:(arrOf (SortSt.mk' general' (vs.toArray.zip vs.toArray) #[] 7 none)).map (·.2)=((List.range vs.length).map fun i=>vs.getD i Value.none).toArray:=by
    show(vs.toArray.zip vs.toArray).map (·.2)=_
    match vs,hq2 with
    | [],_=>apply Array.toList_inj.mp;simp
    | [v],_=>apply Array.toList_inj.mp;simp[List.range_succ]
    | _::_::_,hq2=>exact absurd hq2 (by simp)
   refine wpAny_pure ?_
   rw[e]
   exact hq
  ·match vs,hq2 with
   | [],_=>exact List.Pairwise.nil
   | [v],_=>exact List.pairwise_singleton _ _
   | _::_::_,hq2=>exact absurd hq2 (by simp)
 ·rw[if_neg hq2,if_neg hq2]
  obtain⟨fs,hfs,hfl,hfi⟩:=tups_of hT6
  rw[zq0]at hq2
  refine wpAny_bind (kat_kind hfs (by omega) (T:=.type "int") (fun v hv=>?_) rfl ?_)
  ·obtain⟨i,t,rfl⟩:=hfi v hv
   exact Looks.of_pure rfl
  ·show wpAny (model prog w) A _ P E _
   have hinj:∀i j,i<vs.length->j<vs.length->pk (ps.getD i (0,0))=pk (ps.getD j (0,0))->i=j:=by
    intro i j hi hj e
    have hi':i<ps.length:=by rw[←hT.1];exact hi
    have hj':j<ps.length:=by rw[←hT.1];exact hj
    have g1:ps.getD i (0,0)=ps[i]:=by rw[List.getD_eq_getElem?_getD,List.getElem?_eq_getElem hi'];rfl
    have g2:ps.getD j (0,0)=ps[j]:=by rw[List.getD_eq_getElem?_getD,List.getElem?_eq_getElem hj'];rfl
    rw[g1,g2]at e
    have b1:=hb _ (List.getElem_mem hi')
    have b2:=hb _ (List.getElem_mem hj')
    unfold pk at e
    have e2:ps[i]=ps[j]:=Prod.ext (by omega) (by omega)
    exact(List.getElem_inj nd).mp e2
   refine wpAny_bind (wpAny_mono (kat_run (ks:=vs) (vs:=vs) (κ:=tuples' true)
    (Q:=fun st' s'=>s'={ s with heap:=((s.heap.update a (Obj.mapSeq fun _=>#[])).push (seqObj "tuple" vs.toArray 0)).push (seqObj "list" #[] 0) }/\∃p:Array Nat,Ok vs.length p/\S (fun i=>pk (ps.getD i (0,0))) p vs.length/\arrOf st'=p.map (kas_item (vs.toArray.zip vs.toArray))/\failedOf st'=none)
    (G:=fun p s'=>s'={ s with heap:=((s.heap.update a (Obj.mapSeq fun _=>#[])).push (seqObj "tuple" vs.toArray 0)).push (seqObj "list" #[] 0) }/\Ok vs.length p/\S (fun i=>pk (ps.getD i (0,0))) p vs.length)
    rfl (by omega) h64 (fun p st' s' a1 a2 a3 a4=>⟨a4.1,p,a4.2.1,a4.2.2,a2,a3⟩) ?run) ?post fun _ _ e=>e)
   case run =>
    refine sorts (n:=vs.length) (K:=fun i=>pk (ps.getD i (0,0))) (fun i j C hi hj hC=>?_) hinj (by omega) fun p ok sS=>⟨rfl,ok,sS⟩
    unfold kas_ask
    have hi':i<ps.length:=by rw[←hT.1];exact hi
    have hj':j<ps.length:=by rw[←hT.1];exact hj
    refine lt_pair (hT6.2 i _ ?_) (hT6.2 j _ ?_) (hb _ ?_) (hb _ ?_) hC
    ·rw[List.getD_eq_getElem?_getD,List.getElem?_eq_getElem hi];rfl
    ·rw[List.getD_eq_getElem?_getD,List.getElem?_eq_getElem hj];rfl
    ·rw[List.getD_eq_getElem?_getD,List.getElem?_eq_getElem hi'];exact List.getElem_mem hi'
    ·rw[List.getD_eq_getElem?_getD,List.getElem?_eq_getElem hj'];exact List.getElem_mem hj'
   case post =>
    rintro⟨⟨⟩,st'⟩ s' ⟨rfl,p,ok,sS,har,hf⟩
    dsimp only
    have hout:=kat_snds (ks:=vs) (vs:=vs) rfl har
    have hpz:(List.toArray (p.toList.map fun i=>vs.getD i Value.none)).size=vs.length:=by rw[List.size_toArray,List.length_map,Array.length_toList,ok.size]
    rw[hout]
    refine wpAny_bind (seqEpoch_at og0 rfl ?_)
    refine wpAny_bind (listUpdate_at og0 rfl ?_ (Nat.zero_le _) (by omega))
    rw[hf]
    simp only[bne_self_eq_false,Bool.false_eq_true,if_false]
    refine wpAny_pure (h p.toList ok.perm ?_)
    rw[List.pairwise_map,List.pairwise_iff_getElem]
    intro i j hi hj hij
    have:=sS i j hij (by rw[←ok.size];simpa using hj)
    unfold key at this
    have hi2:i<p.size:=by simpa using hi
    have hj2:j<p.size:=by simpa using hj
    rw[Array.getElem?_eq_getElem hi2,Array.getElem?_eq_getElem hj2]at this
    simpa using this
theorem sorted_pairs{l:Addr}{vs:List Value}{ps:List (Int×Int)}{Q:Value->Shared->Prop}(hl:s.heap.IsList l vs.toArray)(hT:Tps s.heap vs ps)(nd:ps.Nodup)(hb:∀p∈ps,0≤p.2/\p.2<6)(h64:vs.length<64)
  (h:∀q:List Nat,q.Perm (List.range vs.length)->(q.map fun i=>ps.getD i (0,0)).Pairwise (fun x y=>pk x<pk y)->Q (.ref (s.heap.objs.size+1)) { s with heap:=sortedAll s.heap vs (q.map fun i=>vs.getD i Value.none).toArray }) :
  wpAny (model prog w) A (call (.builtin "sorted") [.ref l]) Q E s:=by
 refine Calls.call_function_entry kind_sorted plain_sorted entry_sorted (args_sorted1 _) ?_
 unfold Builtin.«sorted»
 refine wpAny_bind (m:=checkCount "sorted" 1 1 _) (wpAny_pure (wpAny_bind (collect_list hl (wpAny_bind (wpAny_newList ?_ (by rw[sizeLine_eq];omega))) (by rw[sizeLine_eq];omega))))
 have zq0:((s.heap.push (seqObj "list" #[] 0)).update s.heap.objs.size (Obj.mapSeq (·++vs.toArray))).objs.size=s.heap.objs.size+1:=by
  rw[Heap.size_update,size_push']
 have oq0:(((s.heap.push (seqObj "list" #[] 0)).update s.heap.objs.size (Obj.mapSeq (·++vs.toArray))).push (seqObj "list" vs.toArray 0)).get? (s.heap.objs.size+1)=some (seqObj "list" vs.toArray 0):=by
  rw[←zq0];exact Heap.get?_push_size _ rfl
 have kq0:∀b o,s.heap.get? b=some o->(((s.heap.push (seqObj "list" #[] 0)).update s.heap.objs.size (Obj.mapSeq (·++vs.toArray))).push (seqObj "list" vs.toArray 0)).get? b=some o:=fun b o q=>by
  have lq0:b<s.heap.objs.size:=Heap.lt_size q
  rw[Heap.get?_push_ne _ _ _ (by rw[zq0];exact Nat.ne_of_lt (Nat.lt_succ_of_lt lq0)),Heap.get?_update_ne _ _ _ _ (Nat.ne_of_lt lq0),Heap.get?_push_ne _ _ _ (Nat.ne_of_lt lq0)]
  exact q
 show wpAny (model prog w) _ _ _ _ { s with heap:=((s.heap.push (seqObj "list" #[] 0)).update s.heap.objs.size (Obj.mapSeq (·++vs.toArray))).push (seqObj "list" vs.toArray 0) }
 rw[zq0]
 refine wpAny_bind (wpAny_holding (wpAny_call_entry slot_list_sort ⟨_,oq0,rfl⟩ entry_list_sort (list_sort_pairs (ps:=ps) oq0 ⟨hT.1,fun i v e=>(hT.2 i v e).kp fun b o _ q=>kq0 b o q⟩ nd hb h64 fun q a1 a2=>⟨_,rfl,?_⟩) (args_list_sort _)))
 exact wpAny_pure ⟨_,rfl,h q a1 a2⟩
end
end ST
set_option linter.all false
set_option maxRecDepth 100000
set_option maxHeartbeats 4000000
namespace L2
open PySem PySem.Spec PyProof.Rows
variable {X:Cx}
def rSortP(K:PySem.W.Frag):List V->Hp->VK->Prop:=fun xs H Q=>∃(a:Addr) (us:List V) (ps:List (Int×Int)),xs=[.ref a]/\SqL K H a us/\Prs K H us ps/\ps.Nodup/\(∀p∈ps,0≤p.2/\p.2<6)/\ps.length<64 /\
 ∀(r:Addr) (q:List Nat),H r=none->q.Perm (List.range ps.length)->(q.map fun i=>ps.getD i (0,0)).Pairwise (fun x y=>ST.pk x<ST.pk y)->Q (.ref r) (upd H r (.lst (q.map fun i=>us.getD i .non)))
theorem vals_pick{us:List V}{vs:List Value}(r:Vals us vs):∀(q:List Nat),(∀i∈q,i<us.length)->Vals (q.map fun i=>us.getD i .non) (q.map fun i=>vs.getD i Value.none)
 | [],_=>.nil
 | i::q,h=>by
  have hi:=h i List.mem_cons_self
  obtain⟨u,eu,ru⟩:=r.get (List.getElem?_eq_getElem hi)
  refine .cons ?_ (vals_pick r q fun j hj=>h j (List.mem_cons_of_mem _ hj))
  dsimp only
  rw[List.getD_eq_getElem?_getD,List.getElem?_eq_getElem hi,List.getD_eq_getElem?_getD,eu]
  exact ru
theorem call_sortP:CallR X (.builtin "sorted") (rSortP X.K):=by
 intro pins s σ H xs us Q I r h
 obtain⟨a,ws,ps,rfl,hq,hP,nd,hb,h64,q⟩:=h
 obtain⟨u,rfl,ru⟩:=Vals.one r
 cases ru
 obtain⟨its,rv,p,hz⟩:=I.list hq
 have hlen:its.length=ps.length:=rv.length.symm.trans (prs_len hP)
 refine ST.sorted_pairs (ps:=ps) p.isList ⟨hlen,fun i v hv=>?_⟩ nd hb (by omega) fun qs h1 h2=>?_
 ·have hi:i<ws.length:=by rw[rv.length];exact(List.getElem?_eq_some_iff.mp hv).1
  obtain⟨pr,t,e1,e2,hs⟩:=prs_get (i:=i) hP (List.getElem?_eq_getElem hi)
  obtain⟨u,eu,ru⟩:=rv.get (List.getElem?_eq_getElem hi)
  rw[hv]at eu;cases eu
  rw[e2]at ru
  cases ru
  obtain⟨is,r2,⟨o,ho,hcl,n,hd⟩,_⟩:=I.tuple hs
  obtain⟨x,y,rfl,rx,ry⟩:=vals2 r2
  obtain⟨t1,rfl⟩:=rx
  obtain⟨t2,rfl⟩:=ry
  refine⟨t,o,n,t1,t2,rfl,ho,hcl,?_⟩
  rw[List.getD_eq_getElem?_getD,e1]
  exact hd
 ·have hn:H (s.heap.objs.size+1)=none:=I.hok.fresh (Nat.le_succ _)
  obtain⟨e,he⟩:=sortedAll_at s.heap its (qs.map fun i=>its.getD i Value.none).toArray
  rw[hlen]at h1
  have hin:∀i∈qs,i<ws.length:=fun i hi=>by
   have:=List.mem_range.mp (h1.mem_iff.mp hi)
   rw[prs_len hP];exact this
  have hv:=vals_pick rv qs hin
  have hz2:(qs.map fun i=>ws.getD i V.non).length≤sizeLine:=by rw[List.length_map,h1.length_eq,List.length_range,sizeLine_eq];omega
  refine⟨.ref (s.heap.objs.size+1),_,I.laid (t':=s.toks) (o:=.lst (qs.map fun i=>ws.getD i V.non)) (fun b o e=>sortedAll_old e) (Nat.le_succ _) ?_,rfl,q _ qs hn h1 h2⟩
  exact⟨hz2,_,e,hv,he⟩
end L2
namespace U
open PySem PySem.Spec PyProof.Rows L2
variable {B:Bs}{X:Cx}{a b:Expr}{ta tb:TE'}{pos:Pos}
def uSortP:List PV->PHp->VK'->Prop:=arg1 fun x H Q=>match x with
 | .ref a=>∃ps:List (Int×Int),H a=some (.lst (ps.map prV))/\ps.Nodup/\(∀p∈ps,0≤p.2/\p.2<6)/\ps.length<64/\∀(r:Addr) (qs:List (Int×Int)),H r=none->qs.Perm ps->qs.Pairwise (fun x y=>ST.pk x<ST.pk y)->Q (.ref r) (put H r (.lst (qs.map prV)))
 | _=>False
theorem rps_pick{K:PySem.W.Frag}{H:Hp}{ps:List (Int×Int)}{us:List V}(r:RPs K H (ps.map prV) us):∀(q:List Nat),(∀i∈q,i<ps.length)->RPs K H ((q.map fun i=>ps.getD i (0,0)).map prV) (q.map fun i=>us.getD i V.non)
 | [],_=>RPs.nil _
 | i::q,h=>by
  have hi:=h i List.mem_cons_self
  obtain⟨u,eu,ru⟩:=RPs.get _ (i:=i) (x:=prV ps[i]) r (by rw[List.getElem?_map,List.getElem?_eq_getElem hi];rfl)
  refine RPs.cons _ ?_ (rps_pick r q fun j hj=>h j (List.mem_cons_of_mem _ hj))
  dsimp only
  rw[List.getD_eq_getElem?_getD,List.getElem?_eq_getElem hi,List.getD_eq_getElem?_getD,eu]
  exact ru
theorem pick_perm{α:Type}(l:List α)(d:α){q:List Nat}(h:q.Perm (List.range l.length)):(q.map fun i=>l.getD i d).Perm l:=by
 refine(h.map _).trans ?_
 have:(List.range l.length).map (fun i=>l.getD i d)=l:=by
  apply List.ext_getElem
  ·simp
  ·intro i h1 h2
   simp[List.getD_eq_getElem?_getD,List.getElem?_eq_getElem h2]
 rw[this]
theorem vc_sortP{K:PySem.W.Frag}:VC K B uSortP (rSortP K):=by
 intro σ' σ H' H xs' xs Q' Q s r h k
 obtain⟨x',x,rfl,rfl,rx,h⟩:=arg1.ex h r
 cases x' with
 | ref a =>
  obtain⟨ps,ea,nd,hb,h64,q⟩:=h
  simp only[RP]at rx
  subst rx
  obtain⟨us,e,r2⟩:=s.hp _ _ ea
  refine⟨a,us,ps,rfl,.inl (.inl e),prs_of r2,nd,hb,h64,fun r qs hr h1 h2=>?_⟩
  have hin:∀i∈qs,i<ps.length:=fun i hi=>List.mem_range.mp (h1.mem_iff.mp hi)
  exact k _ _ _ _ (q r _ (s.hp.free hr) (pick_perm ps (0,0) h1) h2) (by simp[RP]) (s.new hr (newL hr (rps_pick r2 qs hin))) (Ev.new hr)
 | _=>exact h.elim
def uReverse:PV->List PV->PHp->VK'->Prop:=fun x vs H Q=>match x,vs with
 | .ref a,[]=>∃l,H a=some (.lst l)/\Q .non (put H a (.lst l.reverse))
 | _,_=>False
def uClear:PV->List PV->PHp->VK'->Prop:=fun x vs H Q=>match x,vs with
 | .ref a,[]=>∃l,H a=some (.lst l)/\Q .non (put H a (.lst []))
 | _,_=>False
theorem vm_clear{K:PySem.W.Frag}:VM K B uClear rClear:=by
 intro σ' σ H' H x' xs' x xs Q' Q s rx r h k
 unfold uClear at h
 split at h
 ·rename_i a
  obtain⟨l,e,h⟩:=h
  obtain⟨us,q,r2⟩:=s.hp _ _ e
  simp only[RP,RPs]at rx r
  subst rx;subst r
  exact⟨a,us,rfl,rfl,q,k _ _ _ _ h (by simp[RP]) (s.wr e (wrL s.hp e (RPs.nil _))) (Ev.wr e)⟩
 ·exact h.elim
theorem hl_clear:∀x H Q,uClear x [] H Q->match x with | .ref a=>∃l,H a=some (.lst l) | _=>False:=by
 intro x H Q h
 cases x with
 | ref a=>obtain⟨l,e,_⟩:=h;exact⟨l,e⟩
 | _=>exact h
def uInsert:PV->List PV->PHp->VK'->Prop:=fun x vs H Q=>match x,vs with
 | .ref a,[.int i,y]=>∃l,H a=some (.lst l)/\0≤i/\i.toNat≤l.length/\l.length<1000/\Q .non (put H a (.lst (l.take i.toNat++y::l.drop i.toNat)))
 | _,_=>False
theorem w_rv{a:Addr}{H:PHp}{Q:VK'}:uReverse (.ref a) [] H Q=∃l,H a=some (.lst l)/\Q .non (put H a (.lst l.reverse)):=rfl
theorem w_cl{a:Addr}{H:PHp}{Q:VK'}:uClear (.ref a) [] H Q=∃l,H a=some (.lst l)/\Q .non (put H a (.lst [])):=rfl
theorem w_in{a:Addr}{i:Int}{y:PV}{H:PHp}{Q:VK'}:uInsert (.ref a) [.int i,y] H Q=∃l,H a=some (.lst l)/\0≤i/\i.toNat≤l.length/\l.length<1000/\Q .non (put H a (.lst (l.take i.toNat++y::l.drop i.toNat))):=rfl
end U
namespace U
open PySem PySem.Spec PyProof.Rows L2
theorem qe_globE{B:Bs}{X:Cx}{x:Str}{v':PV}{v:V}{pos:Pos}(hg:Gl X x)(h:∃u,X.mg x=some u/\RelV v u)(r':∀H,RP X.K H v' v)(hd:(x==("__debug__":Str))=false:=by decide):PE' X B (.Name x pos) (uC v'):=by
 obtain⟨u,hm,r⟩:=h
 exact qe_glob hg hm r r' hd
theorem comp_pure{ok:PHp->Prop}{g:TG'}{tt:TT'}{te:TE'}{acc:Addr}{Q:VK'}{H1:PHp}{xs:List PV}(f:PV->PV)(pz:PV->Bool)(Iv:St'->Prop)(hlen:xs.length≤1000)(hok:∀l,ok (put H1 acc (.lst l)))
  (hs:∀x∈xs,∀(l:List PV) (σ:St') (R:St'->PHp->Prop),Iv σ->l.length<sizeLine->(pz x=true->∀σ3,Iv σ3->R σ3 (put H1 acc (.lst (l++[f x]))))->(pz x=false->∀σ3,Iv σ3->R σ3 (put H1 acc (.lst l))) ->
   g x σ (put H1 acc (.lst l)) fun σ3 H2=>tt σ3 H2 fun b H3=>cif b (te σ3 H3 fun y H4=>∃l',H4 acc=some (.lst l')/\l'.length<sizeLine/\R σ3 (put H4 acc (.lst (l'++[y])))) (R σ3 H3))
  (hq:Q (.ref acc) (put H1 acc (.lst ((xs.filter pz).map f)))) {σ:St'} (h0:Iv σ):uCompL ok g tt te acc Q xs σ (put H1 acc (.lst [])):=by
 have key:∀(r d:List PV) (σ:St'),xs=d++r->Iv σ->uCompL ok g tt te acc Q r σ (put H1 acc (.lst ((d.filter pz).map f))):=by
  intro r
  induction r with
  | nil =>
   intro d σ e hv
   have:d=xs:=by rw[e,List.append_nil]
   subst this
   exact⟨hok _,hq⟩
  | cons x r ih =>
   intro d σ e hv
   have hd:((d.filter pz).map f).length<sizeLine:=by
    have h1:d.length+(r.length+1)=xs.length:=by rw[e,List.length_append,List.length_cons]
    have h2:=List.length_filter_le pz d
    have:=small1000 (n:=1000) (by decide)
    rw[List.length_map]
    omega
   refine⟨hok _,hs x (by rw[e];simp) _ σ _ hv hd (fun hp σ3 h3=>?_) (fun hp σ3 h3=>?_)⟩
   ·have:=ih (d++[x]) σ3 (by rw[e];simp) h3
    rw[List.filter_append,List.map_append]at this
    simpa[hp]using this
   ·have:=ih (d++[x]) σ3 (by rw[e];simp) h3
    rw[List.filter_append,List.map_append]at this
    simpa[hp]using this
 exact key xs [] σ rfl h0
end U
namespace U
open PySem PySem.Spec PyProof.Rows L2
theorem w_fl{C:Addr}{f:Str}{a:Addr}{H:PHp}{Q:VK'}:fldOf C f (.ref a) H Q=∃dx fs v,H a=some (.ins C dx fs)/\fs.lookup f=some v/\Q v H:=rfl
theorem w_sf{C:Addr}{f:Str}{a:Addr}{y:PV}{H:PHp}{Q:PHp->Prop}:stFld C f (.ref a) y H Q=∃dx fs,H a=some (.ins C dx fs)/\fs.length<1000/\Q (put H a (.ins C dx (putU f y fs))):=rfl
theorem w_ii{C:Addr}{m:Str}{a:Addr}{H:PHp}:isIn C m (.ref a) H=∃dx fs,H a=some (.ins C dx fs)/\fs.lookup m=none:=rfl
theorem w_al{a:Addr}{H:PHp}{Q:VK'}:uAll [.ref a] H Q=∃bs:List Bool,H a=some (.lst (bs.map PV.bl))/\Q (.bl (bs.all id)) H:=rfl
theorem w_ls{a:Addr}{H:PHp}{Q:VK'}:lenSet (.ref a) H Q=∃ps:List (Int×Int),H a=some (.lst (ps.map prV))/\ps.Nodup/\(∀p∈ps,p∈SP.prs)/\ps.length≤15/\Q (.int ps.length) H:=rfl
theorem w_sp{a:Addr}{H:PHp}{Q:VK'}:uSortP [.ref a] H Q=∃ps:List (Int×Int),H a=some (.lst (ps.map prV))/\ps.Nodup/\(∀p∈ps,0≤p.2/\p.2<6)/\ps.length<64/\∀(r:Addr) (qs:List (Int×Int)),H r=none->qs.Perm ps->qs.Pairwise (fun x y=>ST.pk x<ST.pk y)->Q (.ref r) (put H r (.lst (qs.map prV))):=rfl
end U
set_option linter.all false
set_option maxRecDepth 100000
set_option maxHeartbeats 4000000
namespace SI
open PySem
def subs:List (List Nat):=(List.range 64).map fun b=>(List.range 6).filter fun i=>b / 2 ^ i % 2==1
def tb(led:Bool)(L:List Nat):SetTable:={ mask:=if L.length≤4 then 7 else 31,place:=L.toArray,dummies:=#[],finger:=0,led:=led,moves:=if L.length≤4 then 0 else 1,plain:=true }
def pos(L:List Nat)(x:Nat):Nat:=(L.filter (·<x)).length
def ins(L:List Nat)(x:Nat):List Nat:=L.take (pos L x)++x::L.drop (pos L x)
def tp(led:Bool)(L:List Nat)(x:Nat):SetTable:={ tb led L with place:=(ins L x).toArray }
theorem tab1:∀led∈[true,false],∀L∈subs,∀x∈List.range 6,x∉L->(tb led L).freeSlot x=some (x,false)/\(tb led L).put x=(tp led L x,pos L x):=by decide +kernel
theorem tab2:∀led∈[true,false],∀L∈subs,∀x∈List.range 6,x∉L->(tp led L x).fits (ins L x).length=true/\(if L.length=4 then(tp led L x).tooFull=true/\(tp led L x).relaid ((ins L x).map Int.ofNat).toArray 20=some (tb led (ins L x),#[0,1,2,3,4])else(tp led L x).tooFull=false/\tp led L x=tb led (ins L x)):=by decide +kernel
theorem tab3:∀L∈subs,(∀x∈L,x<6)/\L.length≤6/\L.Nodup/\(∀x∈List.range 6,x∉L->ins L x∈subs):=by decide +kernel
theorem tab4:∀L∈subs,∀led∈[true,false],(tb led L).fits L.length=true/\SetTable.below L.toArray 0=0/\∀i∈List.range L.length,SetTable.below L.toArray (L.getD i 0+1)=i+1:=by decide +kernel
def ent(i:Nat)(tk:Tok):Int×Value:=((i:Int),.int (i:Int) tk)
def EsIs(es:Array (Int×Value))(L:List Nat):Prop:=∃tks:List Tok,tks.length=L.length/\es.toList=List.zipWith ent L tks
theorem EsIs.size{es:Array (Int×Value)}{L:List Nat}(h:EsIs es L):es.size=L.length:=by
 obtain⟨tks,hl,e⟩:=h
 rw[←Array.length_toList,e,List.length_zipWith,hl,Nat.min_self]
theorem EsIs.get{es:Array (Int×Value)}{L:List Nat}(h:EsIs es L){i:Nat}(hi:i<L.length):∃tk,es[i]?=some (ent (L.getD i 0) tk):=by
 obtain⟨tks,hl,e⟩:=h
 refine⟨tks[i],?_⟩
 rw[←Array.getElem?_toList,e,List.getElem?_zipWith,List.getElem?_eq_getElem hi,List.getElem?_eq_getElem (by omega),List.getD_eq_getElem?_getD,List.getElem?_eq_getElem hi]
 rfl
theorem EsIs.mem{es:Array (Int×Value)}{L:List Nat}(h:EsIs es L){e:Int×Value}(he:e∈es.toList):∃x∈L,∃tk,e=ent x tk:=by
 obtain⟨i,hi,rfl⟩:=List.mem_iff_getElem.mp he
 have hi':i<L.length:=by rw[←h.size];simpa using hi
 obtain⟨tk,e⟩:=h.get hi'
 refine⟨L.getD i 0,by rw[List.getD_eq_getElem?_getD,List.getElem?_eq_getElem hi'];exact List.getElem_mem hi',tk,?_⟩
 rw[Array.getElem?_eq_getElem (by simpa using hi)]at e
 simpa using Option.some.inj e
theorem EsIs.of{es:Array (Int×Value)}{L:List Nat}(h:EsIs es L){x:Nat}(hx:x∈L):∃tk,ent x tk∈es.toList:=by
 obtain⟨i,hi,rfl⟩:=List.mem_iff_getElem.mp hx
 obtain⟨tk,e⟩:=h.get hi
 refine⟨tk,?_⟩
 rw[List.getD_eq_getElem?_getD,List.getElem?_eq_getElem hi]at e
 rw[←Array.getElem?_toList]at e
 exact List.mem_of_getElem? e
theorem EsIs.ins{es:Array (Int×Value)}{L:List Nat}(h:EsIs es L)(x:Nat)(tk:Tok):EsIs (SetTable.insertAt es (pos L x) (ent x tk)) (SI.ins L x):=by
 obtain⟨tks,hl,e⟩:=h
 refine⟨tks.take (pos L x)++tk::tks.drop (pos L x),?_,?_⟩
 ·unfold SI.ins
  simp only[List.length_append,List.length_cons,List.length_take,List.length_drop]
  omega
 ·rw[SetTable.toList_insertAt,e]
  unfold SI.ins
  rw[List.zipWith_append (by simp only[List.length_take];omega),List.zipWith_cons_cons,List.take_zipWith,List.drop_zipWith]
structure ISet (h:Heap) (S:Addr) (led:Bool) (L:List Nat):Prop where
 is:L∈subs/\∃es ep,h.get? S=some { cls:=.type "set",dict:=none,data:=.set es ep (tb led L) }/\EsIs es L
theorem led_in(led:Bool):led∈[true,false]:=by cases led<;>simp
theorem filterMap5{α:Type}(es:Array α)(h:es.size=5):(#[0,1,2,3,4]:Array Nat).filterMap (es[·]?)=es:=by
 have e:=PySem.filterMap_getElem?_range es
 rw[h]at e
 apply Array.toList_inj.mp
 rw[Array.toList_filterMap]
 exact e
section
variable {prog:Program}{w:World}{A:Around}{E:Value->Shared->Prop}{s:Shared}
theorem EsIs.elems{es:Array (Int×Value)}{L:List Nat}(h:EsIs es L)(hL:L∈subs):ElemsOf (intKind prog w) es.toList:=fun e he=>by
 obtain⟨x,hx,tk,rfl⟩:=h.mem he
 refine⟨⟨(x:Int),intKind_is _ _ _ _,?_⟩,rfl⟩
 have:x<6:=(tab3 L hL).1 x hx
 have hh:∀y∈List.range 6,((y:Nat):Int)=(intKind prog w).hash ((y:Nat):Int):=by
  intro y hy
  have:y=0∨y=1∨y=2∨y=3∨y=4∨y=5:=by have:=List.mem_range.mp hy;omega
  rcases this with rfl | rfl | rfl | rfl | rfl | rfl<;>rfl
 exact hh x (List.mem_range.mpr this)
theorem hash_int{x:Nat}(hx:x<6):(intKind prog w).hash ((x:Nat):Int)=((x:Nat):Int):=by
 have:x=0∨x=1∨x=2∨x=3∨x=4∨x=5:=by omega
 rcases this with rfl | rfl | rfl | rfl | rfl | rfl<;>rfl
theorem setAdd_int{S:Addr}{led:Bool}{L:List Nat}{x:Nat}{tk:Tok}{Q:Bool->Shared->Prop}(hP:ISet s.heap S led L)(hx:x<6)
  (h:∀b h' tks,Heap.SameBut S s.heap h'->ISet h' S led (if x∈L then L else ins L x)->Q b { s with heap:=h',toks:=tks }):wpAny (model prog w) A (setAdd S (.int (x:Int) tk)) Q E s:=by
 obtain⟨hL,es,ep,ho,he⟩:=hP.is
 unfold setAdd
 refine wpAny_holding ?_
 refine wpAny_bind ((intKind prog w).pyHash (k:=(x:Int)) (intKind_is _ _ _ _) ?_)
 rw[hash_int hx]
 generalize hs':({ s with toks:=s.toks+1 }:Shared)=s1
 have e1:s1.heap=s.heap:=by rw[←hs']
 have hs1:∀hh':Heap,({ s1 with heap:=hh' }:Shared)={ s with heap:=hh',toks:=s1.toks }:=fun hh'=>by rw[←hs']
 have ho1:s1.heap.get? S=some { cls:=.type "set",dict:=none,data:=.set es ep (tb led L) }:=by rw[e1];exact ho
 have hf:(tb led L).fits es.size=true:=by rw[he.size];exact(tab4 L hL led (led_in led)).1
 have hel:=he.elems (prog:=prog) (w:=w) hL
 have h6:=(tab3 L hL).2.1
 have hbd:es.size<scanBound:=by rw[he.size];unfold scanBound;omega
 have scan:∀{Q':ScanMet->Shared->Prop},Q' (match es.toList.findIdx? (fun e=>(intKind prog w).is ((x:Nat):Int) e.2)with | some j=>.found (0+j) | none=>.absent) s1->wpAny (model prog w) A (setScan S (.int ((x:Nat):Int) tk) ((x:Nat):Int) true es) Q' E s1:=by
  intro Q' hq
  have:=wpAny_setScan_of (knd:=intKind prog w) (adding:=true) (x:=.int ((x:Nat):Int) tk) (k:=((x:Nat):Int)) (A:=A) (E:=E) (Q:=Q') (intKind_is _ _ _ _) ho1 rfl hf hel hq
  rwa [hash_int hx]at this
 unfold setAddHashed setAddHashedIn
 refine wpAny_holding (wpAny_bind (wpAny_setState_of ho1 rfl hf ?_))
 dsimp only
 rw[byScan_of (knd:=intKind prog w) rfl hbd hel]
 simp only[↓reduceIte]
 unfold setAddByScan
 refine wpAny_bind ?_
 refine wpAny_bind (wpAny_rule ?_)
 refine wpAny_bind (scan ?_)
 cases hr:List.findIdx? (fun e=>(intKind prog w).is ((x:Nat):Int) e.2) es.toList with
 | some j =>
  dsimp only
  obtain⟨hj,hpj,_⟩:=List.findIdx?_eq_some_iff_getElem.mp hr
  obtain⟨y,hy,tk',ee⟩:=he.mem (List.getElem_mem hj)
  have hxy:x=y:=by
   rw[ee]at hpj
   have q:(intKind prog w).is ((x:Nat):Int) (.int ((y:Nat):Int) tk')=true:=hpj
   have:=(intKind prog w).inj _ _ _ q (intKind_is _ _ _ _)
   omega
  subst hxy
  refine wpAny_pure (wpAny_pure ?_)
  have:=h false s.heap s1.toks (Heap.SameBut.refl S s.heap) (by rw[if_pos hy];exact hP)
  have e:s1={ s with heap:=s.heap,toks:=s1.toks }:=by rw[←hs1];cases s1;simp only at e1;rw[e1]
  rw[e];exact this
 | none =>
  dsimp only
  have hn:x∉L:=fun hm=>by
   obtain⟨tk',hm'⟩:=he.of hm
   have:=List.findIdx?_eq_none_iff.mp hr _ hm'
   have q:(intKind prog w).is ((x:Nat):Int) (.int ((x:Nat):Int) tk')=true:=intKind_is _ _ _ _
   have this':(intKind prog w).is ((x:Nat):Int) (.int ((x:Nat):Int) tk')=false:=this
   rw[q]at this';cases this'
  obtain⟨f1,f2⟩:=tab1 led (led_in led) L hL x (List.mem_range.mpr hx) hn
  obtain⟨f3,f4⟩:=tab2 led (led_in led) L hL x (List.mem_range.mpr hx) hn
  have hins:=(tab3 L hL).2.2.2 x (List.mem_range.mpr hx) hn
  have hin2:=he.ins x tk
  have hsz2:=hin2.size
  have hln:(ins L x).length=L.length+1:=by unfold ins;simp only[List.length_append,List.length_cons,List.length_take,List.length_drop];omega
  have hlay:layNew (tb led L) es ((x:Nat):Int) (.int ((x:Nat):Int) tk)=(SetTable.insertAt es (pos L x) (ent x tk),tp led L x,false,false):=by
   unfold layNew
   rw[f1]
   dsimp only
   rw[f2]
   dsimp only
   have e2:(tp led L x).fits (SetTable.insertAt es (pos L x) (ent x tk)).size=true:=by rw[hsz2];exact f3
   show(SetTable.insertAt es (pos L x) (ent x tk),(tp led L x).orStandIn (SetTable.insertAt es (pos L x) (ent x tk)).size,false,!(tp led L x).fits (SetTable.insertAt es (pos L x) (ent x tk)).size)=_
   unfold SetTable.orStandIn
   rw[if_pos e2,e2]
   rfl
  rw[hlay]
  dsimp only
  refine wpAny_bind (wpAny_pure ?_)
  have hpl:(tp led L x).plain=true:=rfl
  rw[hpl]
  simp only[↓reduceIte]
  refine wpAny_bind ?_
  rw[hashByValue_scannable 8 (x:=.int ((x:Nat):Int) tk) rfl]
  refine wpAny_pure ?_
  have hpk:plainKind (.int ((x:Nat):Int) tk)=true:=rfl
  rw[hpk]
  simp only[↓reduceIte]
  have hz:(SetTable.insertAt es (pos L x) (ent x tk)).size≤sizeLine:=by rw[hsz2,hln,sizeLine_eq];omega
  refine wpAny_bind (wpAny_storeSet_of ho1 rfl ?_ hz)
  have hg:(s1.heap.update S (Obj.putSet (SetTable.insertAt es (pos L x) (ent x tk)) (tp led L x))).get? S=some { cls:=.type "set",dict:=none,data:=.set (SetTable.insertAt es (pos L x) (ent x tk)) (ep+1) (tp led L x) } :=
   Heap.get?_update_self _ ho1 rfl
  have sb1:Heap.SameBut S s.heap (s1.heap.update S (Obj.putSet (SetTable.insertAt es (pos L x) (ent x tk)) (tp led L x))):=by rw[e1];exact Heap.SameBut.update ..
  by_cases h4:L.length=4
  ·rw[if_pos h4]at f4
   rw[f4.1]
   simp only[Bool.not_false,Bool.and_self,↓reduceIte]
   have hw:SetTable.grown (SetTable.insertAt es (pos L x) (ent x tk)).size=20:=by rw[hsz2,hln,h4];rfl
   have hmp:(SetTable.insertAt es (pos L x) (ent x tk)).map (·.1)=((ins L x).map Int.ofNat).toArray:=by
    obtain⟨tks,q1,q2⟩:=hin2
    apply Array.toList_inj.mp
    rw[Array.toList_map,q2]
    have gen:∀(L:List Nat) (tks:List Tok),tks.length=L.length->(List.zipWith ent L tks).map (·.1)=L.map Int.ofNat:=by
     intro L
     induction L with
     | nil=>intro tks _;rfl
     | cons a L ih =>
      intro tks hl
      cases tks with
      | nil=>simp at hl
      | cons b tks=>simp only[List.zipWith_cons_cons,List.map_cons,ih tks (by simpa using hl)];rfl
    exact gen _ _ q1
   have h5:(SetTable.insertAt es (pos L x) (ent x tk)).size=5:=by rw[hsz2,hln,h4]
   have hrl:relayAll (tp led L x) (SetTable.insertAt es (pos L x) (ent x tk)) (SetTable.grown (SetTable.insertAt es (pos L x) (ent x tk)).size)=(SetTable.insertAt es (pos L x) (ent x tk),tb led (ins L x),false):=by
    unfold relayAll
    rw[hw,hmp,f4.2]
    dsimp only
    rw[filterMap5 _ h5]
    have c1:coversAll #[0,1,2,3,4] (SetTable.insertAt es (pos L x) (ent x tk)).size=true:=by rw[h5];decide +kernel
    have c2:(tb led (ins L x)).fits (SetTable.insertAt es (pos L x) (ent x tk)).size=true:=by rw[hsz2];exact(tab4 _ hins led (led_in led)).1
    rw[c1,c2]
    rfl
   rw[hrl]
   dsimp only
   refine wpAny_bind (wpAny_pure ?_)
   refine wpAny_bind (wpAny_storeSet_of hg rfl ?_ hz)
   have hg3:=Heap.get?_update_self (Obj.putSet (SetTable.insertAt es (pos L x) (ent x tk)) (tb led (ins L x))) hg rfl
   refine wpAny_pure (wpAny_pure ?_)
   rw[hs1]
   refine h true _ _ (sb1.trans (Heap.SameBut.update ..)) ?_
   rw[if_neg hn]
   exact⟨hins,_,_,hg3,hin2⟩
  ·rw[if_neg h4]at f4
   rw[f4.1]
   simp only[Bool.not_false,Bool.and_false,Bool.false_eq_true,↓reduceIte]
   refine wpAny_pure (wpAny_pure ?_)
   rw[hs1]
   refine h true _ _ sb1 ?_
   rw[if_neg hn]
   rw[f4.2]at hg
   rw[f4.2]
   exact⟨hins,_,_,hg,hin2⟩
end
end SI
set_option linter.all false
set_option maxRecDepth 100000
set_option maxHeartbeats 4000000
namespace SI
open PySem
theorem slot_next:Slot "set_iterator" "__next__" "set_iterator.__next__":=.of (owner:="set_iterator") (n:="__next__") (by rw[typeLookup_type,builtinLookup_eq_fast];kernel_rfl) (by decide +kernel) (by decide +kernel) (by decide +kernel) (by first | exact .inl (by decide +kernel) | exact .inr (by decide +kernel)) (by rw[isSubtype_type];kernel_rfl)
theorem slot_it:Slot "set_iterator" "__iter__" "set_iterator.__iter__":=.of (owner:="set_iterator") (n:="__iter__") (by rw[typeLookup_type,builtinLookup_eq_fast];kernel_rfl) (by decide +kernel) (by decide +kernel) (by decide +kernel) (by first | exact .inl (by decide +kernel) | exact .inr (by decide +kernel)) (by rw[isSubtype_type];kernel_rfl)
theorem entry_next:entryFor table "set_iterator.__next__"=some Builtin.«set_iterator.__next__»:=entryFor_of_tree (by kernel_rfl)
theorem entry_it:entryFor table "set_iterator.__iter__"=some Builtin.«dict_keyiterator.__iter__»:=entryFor_alias (id':="dict_keyiterator.__iter__") (by kernel_rfl) rfl (by decide +kernel) (by kernel_rfl)
theorem entry_iter:entryFor table "set.__iter__"=some Builtin.«frozenset.__iter__»:=entryFor_alias (id':="frozenset.__iter__") (by kernel_rfl) rfl (by decide +kernel) (by kernel_rfl)
theorem erase_perm{α:Type}:∀(l:List α) (i:Nat) (h:i<l.length),(l[i]::l.eraseIdx i).Perm l
 | x::l,0,_=>List.Perm.refl _
 | x::l,i+1,h=>by
  have ih:=erase_perm l i (by simpa using h)
  have h':i<l.length:=by simpa using h
  show(l[i]::x::l.eraseIdx i).Perm (x::l)
  exact(List.Perm.swap _ _ _).trans (ih.cons x)
theorem args_next(a:Value):argsOk "set_iterator.__next__" ⟨[a],[]⟩:=by unfold argsOk;kernel_rfl
theorem args_it(a:Value):argsOk "set_iterator.__iter__" ⟨[a],[]⟩:=by unfold argsOk;kernel_rfl
def IsIt(h:Heap)(it S:Addr)(k i n ep:Nat):Prop:=h.get? it=some { cls:=.type "set_iterator",data:=.fields #[.int k 0,.int i 0,.ref S,.int n 0,.int ep 0] }
theorem IsIt.ty{s:Shared}{it S:Addr}{k i n ep:Nat}(h:IsIt s.heap it S k i n ep):s.TypeIs (.ref it) "set_iterator":=⟨_,h,rfl⟩
theorem pick_perm{α:Type}(next:Nat->Nat):∀(f k:Nat) (l:List α) (out:Array α),f=l.length->(pickOrder.go next f k l out).toList.Perm (out.toList++l)
 | 0,k,l,out,h=>by
  have:l=[]:=List.length_eq_zero_iff.mp h.symm
  subst this
  show out.toList.Perm _
  rw[List.append_nil]
 | f+1,k,l,out,h=>by
  have hlt:next k % l.length<l.length:=Nat.mod_lt _ (by omega)
  unfold pickOrder.go
  rw[List.getElem?_eq_getElem hlt]
  dsimp only
  refine(pick_perm next f (k+1) _ _ (by rw[List.length_eraseIdx_of_lt hlt];omega)).trans ?_
  rw[Array.toList_push,List.append_assoc]
  refine List.Perm.append_left _ ?_
  exact erase_perm l _ hlt
def walk(w:World)(S:Addr)(es:Array (Int×Value))(ep:Nat):Array (Int×Value):=if w.params.followText "set-order"=true then pickOrder (w.params.setOrder S ep) es else es
theorem walk_perm(w:World)(S:Addr)(es:Array (Int×Value))(ep:Nat):(walk w S es ep).toList.Perm es.toList:=by
 unfold walk
 split
 ·have:=pick_perm (w.params.setOrder S ep) es.size 0 es.toList #[] (by simp)
  simpa[pickOrder]using this
 ·exact List.Perm.refl _
theorem walk_size(w:World)(S:Addr)(es:Array (Int×Value))(ep:Nat):(walk w S es ep).size=es.size:=by
 have:=(walk_perm w S es ep).length_eq
 simpa using this
def slotAt(w:World)(L:List Nat)(i:Nat):Nat:=if w.params.followText "set-order"=true then 0 else if i=0 then 0 else L.getD (i - 1) 0+1
section
variable {prog:Program}{w:World}{A:Around}{E:Value->Shared->Prop}{s:Shared}
def ledOf(w:World):Bool:=!w.params.followText "set-order"
theorem below_at{w:World}{L:List Nat}(hL:L∈subs)(hb:¬w.params.followText "set-order"=true){i:Nat}(hi:i≤L.length):SetTable.below L.toArray (slotAt w L i)=i:=by
 unfold slotAt
 rw[if_neg hb]
 obtain⟨_,a,b⟩:=tab4 L hL true (by simp)
 cases i with
 | zero=>exact a
 | succ i =>
  rw[if_neg (by omega)]
  exact b i (List.mem_range.mpr (by omega))
theorem iter_set{S:Addr}{L:List Nat}{es:Array (Int×Value)}{ep:Nat}{Q:Value->Shared->Prop}(hL:L∈subs)(ho:s.heap.get? S=some { cls:=.type "set",dict:=none,data:=.set es ep (tb (ledOf w) L) })(he:EsIs es L)
  (hQ:Q (.ref s.heap.objs.size) { s with heap:=s.heap.push { cls:=.type "set_iterator",data:=.fields #[.int 0 0,.int 0 0,.ref S,.int es.size 0,.int ep 0] } }):wpAny (model prog w) A (pyIter (.ref S)) Q E s:=by
 have ty:s.TypeIs (.ref S) "set":=⟨_,ho,rfl⟩
 have hf:(tb (ledOf w) L).fits es.size=true:=by rw[he.size];exact(tab4 L hL _ (led_in _)).1
 refine wpAny_pyIter_slot ty F.slot_set_iter (wpAny_call_entry F.slot_set_iter ty entry_iter ?_ (F.args_set_iter_1 _))
 unfold Builtin.«frozenset.__iter__» Builtin.Frozenset.slot0
 refine wpAny_bind (wpAny_bind (wpAny_pure (wpAny_pure ?_)))
 unfold Builtin.Frozenset.sizeOf
 refine wpAny_bind (wpAny_bind (wpAny_setEntries_of ho rfl hf (wpAny_pure ?_)))
 unfold setDrawn setsByText
 refine wpAny_bind (wpAny_bind (wpAny_setState_of ho rfl hf ?_))
 dsimp only
 refine wpAny_bind (wpAny_bind (wpAny_askSetting (wpAny_pure (wpAny_pure ?_))))
 refine wpAny_ite_split (fun hx=>?_) (fun _=>wpAny_bind (wpAny_pure ?_))
 ·exfalso
  have hx':(!(w.params.followText "set-order")&&(!(tb (ledOf w) L).plain&&decide (es.size>1)))=true:=hx
  have hp:(tb (ledOf w) L).plain=true:=rfl
  rw[hp]at hx'
  simp at hx'
 ·refine wpAny_bind (wpAny_setEpoch_of ho rfl hf ?_)
  simp only[newFields]
  refine wpAny_bind (wpAny_newObj_type (wpAny_pure ⟨_,rfl,"set_iterator",_,⟨_,Heap.get?_push_size _ rfl,rfl⟩,slot_next.lookup,?_⟩))
  exact hQ
theorem set_next{S:Addr}{L:List Nat}{es:Array (Int×Value)}{ep i:Nat}{Q':Option (Value×Nat)->Shared->Prop}(hL:L∈subs)(ho:s.heap.get? S=some { cls:=.type "set",dict:=none,data:=.set es ep (tb (ledOf w) L) })(he:EsIs es L)(hi:i≤es.size)
  (hq:Q' (((walk w S es ep)[i]?).map fun e=>(e.2,slotAt w L (i+1))) s):wpAny (model prog w) A (setNext S (slotAt w L i) i ep) Q' E s:=by
 have hf:(tb (ledOf w) L).fits es.size=true:=by rw[he.size];exact(tab4 L hL _ (led_in _)).1
 unfold setNext
 refine wpAny_bind (wpAny_setState_of ho rfl hf ?_)
 dsimp only
 unfold setsByText
 refine wpAny_bind (wpAny_bind (wpAny_askSetting (wpAny_pure ?_)))
 refine wpAny_ite_split (fun hb=>?_) (fun hb=>?_)
 ·have hb':w.params.followText "set-order"=true:=hb
  refine wpAny_ite_split (fun hx=>absurd hx (by simp)) (fun _=>?_)
  unfold setWalk setsByText
  refine wpAny_bind (wpAny_bind (wpAny_setState_of ho rfl hf ?_))
  dsimp only
  refine wpAny_bind (wpAny_bind (wpAny_askSetting (wpAny_pure ?_)))
  refine wpAny_ite_split (fun _=>?_) (fun hc=>absurd hb hc)
  refine wpAny_bind (wpAny_askSetting (wpAny_pure (wpAny_pure ?_)))
  unfold walk slotAt at hq
  rw[if_pos hb',if_pos hb']at hq
  unfold slotAt
  rw[if_pos hb']
  exact hq
 ·have hb':¬w.params.followText "set-order"=true:=hb
  refine wpAny_ite_split (fun hx=>?_) (fun _=>?_)
  ·exfalso
   have hx':(!(tb (ledOf w) L).plain&&decide (es.size>1))=true:=hx
   have hp:(tb (ledOf w) L).plain=true:=rfl
   rw[hp]at hx'
   simp at hx'
  ·have hled:ledOf w=true:=by unfold ledOf;simpa using hb'
   refine wpAny_bind ?_
   refine(show wpAny (model prog w) A (if (!(tb (ledOf w) L).led&&!es.isEmpty)=true then unsupported "set:maker-not-led" else pure ()) _ E s from ?_)
   refine wpAny_ite_split (fun hx=>?_) (fun _=>wpAny_pure (wpAny_pure ?_))
   ·exfalso
    have hl2:(tb (ledOf w) L).led=true:=hled
    rw[hl2]at hx
    simp at hx
   ·have hbl:=below_at (w:=w) hL hb' (i:=i) (by rw[←he.size];exact hi)
    have hpl:(tb (ledOf w) L).place=L.toArray:=rfl
    rw[hpl,hbl]
    unfold walk at hq
    rw[if_neg hb']at hq
    by_cases hlt:i<es.size
    ·have hlt2:i<L.length:=by rw[←he.size];exact hlt
     rw[Array.getElem?_eq_getElem hlt]at hq ⊢
     have e2:L.toArray[i]?=some L[i]:=by simp[hlt2]
     rw[e2]
     unfold slotAt at hq
     rw[if_neg hb',if_neg (by omega),Nat.add_sub_cancel,List.getD_eq_getElem?_getD,List.getElem?_eq_getElem hlt2]at hq
     exact hq
    ·rw[Array.getElem?_eq_none (by omega)]at hq ⊢
     exact hq
theorem next_item{it S:Addr}{L:List Nat}{es:Array (Int×Value)}{ep i:Nat}{e:Int×Value}{Q:Option Value->Shared->Prop}(hL:L∈subs)(ho:s.heap.get? S=some { cls:=.type "set",dict:=none,data:=.set es ep (tb (ledOf w) L) })(he:EsIs es L)
  (hit:IsIt s.heap it S (slotAt w L i) i es.size ep) (hx:(walk w S es ep)[i]?=some e)
  (hQ:∀h',IsIt h' it S (slotAt w L (i+1)) (i+1) es.size ep->Heap.SameBut it s.heap h'->Q (some e.2) { s with heap:=h' }):wpAny (model prog w) A (pyNext (.ref it)) Q E s:=by
 have hf:(tb (ledOf w) L).fits es.size=true:=by rw[he.size];exact(tab4 L hL _ (led_in _)).1
 have hi:i<es.size:=by
  rw[←walk_size w S es ep]
  exact(Array.getElem?_eq_some_iff.mp hx).1
 unfold pyNext
 refine wpAny_bind (wpAny_attempt (wpAny_callSpecial?_slot (name:=Str.ofString "__next__") hit.ty slot_next (wpAny_call_entry slot_next hit.ty entry_next ?_ (args_next _))))
 unfold Builtin.«set_iterator.__next__»
 refine wpAny_bind (wpAny_pure ?_)
 refine wpAny_bind (wpAny_fieldsOf hit rfl ?_)
 dsimp only
 refine wpAny_bind (wpAny_setEntries_of ho rfl hf ?_)
 rw[if_neg (by simp)]
 simp only[Int.toNat_natCast]
 refine wpAny_bind (set_next hL ho he (by omega) ?_)
 rw[hx]
 dsimp only[Option.map_some]
 refine wpAny_bind (wpAny_setField hit rfl (by simp) ?_)
 have h1:=Heap.get?_update_self (Obj.mapFields (·.setIfInBounds 0 (rawInt ((slotAt w L (i+1):Nat):Int)))) hit rfl
 refine wpAny_bind (wpAny_setField h1 rfl (by simp[Obj.mapFields]) ?_)
 have h2:=Heap.get?_update_self (Obj.mapFields (·.setIfInBounds 1 (rawInt ((i:Nat)+1:Int)))) h1 rfl
 refine wpAny_pure ⟨_,rfl,wpAny_pure (hQ _ ?_ ((Heap.SameBut.update ..).trans (Heap.SameBut.update ..)))⟩
 exact h2
theorem next_end{it S:Addr}{L:List Nat}{es:Array (Int×Value)}{ep:Nat}{Q:Option Value->Shared->Prop}(hh:A.handled=none)(hL:L∈subs)(ho:s.heap.get? S=some { cls:=.type "set",dict:=none,data:=.set es ep (tb (ledOf w) L) })(he:EsIs es L)
  (hit:IsIt s.heap it S (slotAt w L es.size) es.size es.size ep) (hQ:∀h',Heap.ExtBut it s.heap h'->Q none { s with heap:=h' }):wpAny (model prog w) A (pyNext (.ref it)) Q E s:=by
 have hf:(tb (ledOf w) L).fits es.size=true:=by rw[he.size];exact(tab4 L hL _ (led_in _)).1
 unfold pyNext
 refine wpAny_bind (wpAny_attempt (wpAny_callSpecial?_slot (name:=Str.ofString "__next__") hit.ty slot_next (wpAny_call_entry slot_next hit.ty entry_next ?_ (args_next _))))
 unfold Builtin.«set_iterator.__next__»
 refine wpAny_bind (wpAny_pure ?_)
 refine wpAny_bind (wpAny_fieldsOf hit rfl ?_)
 dsimp only
 refine wpAny_bind (wpAny_setEntries_of ho rfl hf ?_)
 rw[if_neg (by simp)]
 simp only[Int.toNat_natCast]
 refine wpAny_bind (set_next hL ho he (Nat.le_refl _) ?_)
 rw[Array.getElem?_eq_none (by rw[walk_size];exact Nat.le_refl _)]
 dsimp only[Option.map_none]
 refine wpAny_bind (wpAny_setField hit rfl (by simp) ?_)
 refine wpAny_bind ?_
 simp only[newExc,newTuple]
 refine wpAny_bind (wpAny_newObj_type (wpAny_bind (m:=firstArgMember _ _) (wpAny_of_eq (a:=Value.none) (by first | rfl |(simp only[firstArgMember];rfl)) (wpAny_newObj_type ?_ (by size_fits)))) (by size_fits))
 simp only[raiseNew]
 refine wpAny_bind (wpAny_handled ?_)
 have hh1:A.in1.handled=none:=hh
 rw[hh1]
 refine wpAny_bind (wpAny_pure (wpAny_throw ?_))
 refine wpAny_bind (wpAny_isInstance (T:="StopIteration") (b:=true) ⟨_,Heap.get?_push_size _ rfl,rfl⟩ isSubtype_stop (wpAny_pure (hQ _ (((Heap.SameBut.update ..).extBut.push _).push _))))
theorem walks_set(hh:A.handled=none){I S:Addr}{L:List Nat}{es:Array (Int×Value)}{ep:Nat}(hne:S≠I)(hL:L∈subs)(he:EsIs es L) :
  Walks prog w A I [I,S] [I] es.size (fun i v=>∃e,(walk w S es ep)[i]?=some e/\v=e.2) (fun i h=>IsIt h I S (slotAt w L i) i es.size ep/\h.get? S=some { cls:=.type "set",dict:=none,data:=.set es ep (tb (ledOf w) L) }) where
 sub:=fun b hb=>by simp at hb;simp[hb]
 frame:=fun _ _ _ st hk=>⟨hk I (by simp) _ st.1,hk S (by simp) _ st.2⟩
 item:=fun i s Q E hi st hQ=>by
  have hw:i<(walk w S es ep).size:=by rw[walk_size];exact hi
  have hx:(walk w S es ep)[i]?=some (walk w S es ep)[i]:=Array.getElem?_eq_getElem hw
  refine next_item hL st.2 he st.1 hx fun h' it' sb=>?_
  exact hQ _ h' s.toks ⟨_,hx,rfl⟩ ⟨it',sb.extBut S _ hne st.2⟩ fun b o hb e=>sb.extBut b o (fun h=>hb (by simp[h])) e
 done:=fun s Q E st hQ=>next_end hh hL st.2 he st.1 fun h' eb=>hQ h' s.toks fun b o hb e=>eb b o (fun h=>hb (by simp[h])) e
 self:=fun i s Q E st hQ=>by
  refine wpAny_pyIter_slot st.1.ty slot_it (wpAny_call_entry slot_it st.1.ty entry_it ?_ (args_it _))
  show wpAny _ _ (ret (.ref I)) _ _ s
  exact wpAny_pure ⟨_,rfl,"set_iterator",_,st.1.ty,slot_next.lookup,hQ⟩
def add(L:List Nat)(x:Nat):List Nat:=if x∈L then L else ins L x
def lof(ns:List Nat):List Nat:=ns.foldl add []
theorem mem_ins{L:List Nat}{x y:Nat}:y∈ins L x↔y=x∨y∈L:=by
 unfold ins
 rw[List.mem_append,List.mem_cons]
 have:y∈L↔y∈L.take (pos L x)∨y∈L.drop (pos L x):=by
  rw[←List.mem_append,List.take_append_drop]
 rw[this]
 constructor
 ·rintro(h | h | h)
  ·exact .inr (.inl h)
  ·exact .inl h
  ·exact .inr (.inr h)
 ·rintro(h | h | h)
  ·exact .inr (.inl h)
  ·exact .inl h
  ·exact .inr (.inr h)
theorem mem_add{L:List Nat}{x y:Nat}:y∈add L x↔y=x∨y∈L:=by
 unfold add
 split
 ·rename_i h
  exact⟨.inr,fun q=>q.elim (fun e=>e▸h) id⟩
 ·exact mem_ins
theorem add_subs{L:List Nat}{x:Nat}(hL:L∈subs)(hx:x<6):add L x∈subs:=by
 unfold add
 split
 ·exact hL
 ·rename_i h
  exact(tab3 L hL).2.2.2 x (List.mem_range.mpr hx) h
theorem fold_mem{y:Nat}:∀(ns L:List Nat),y∈ns.foldl add L↔y∈ns∨y∈L
 | [],L=>by simp
 | n::ns,L=>by
  rw[List.foldl_cons,fold_mem ns,mem_add,List.mem_cons]
  constructor
  ·rintro(h | h | h)
   ·exact .inl (.inr h)
   ·exact .inl (.inl h)
   ·exact .inr h
  ·rintro((h | h) | h)
   ·exact .inr (.inl h)
   ·exact .inl h
   ·exact .inr (.inr h)
theorem fold_subs:∀(ns L:List Nat),L∈subs->(∀n∈ns,n<6)->ns.foldl add L∈subs
 | [],L,h,_=>h
 | n::ns,L,h,hn=>fold_subs ns _ (add_subs h (hn n List.mem_cons_self)) fun m hm=>hn m (List.mem_cons_of_mem _ hm)
theorem nil_subs:[]∈subs:=by decide +kernel
theorem lof_subs{ns:List Nat}(h:∀n∈ns,n<6):lof ns∈subs:=fold_subs ns [] nil_subs h
theorem mem_lof{ns:List Nat}{y:Nat}:y∈lof ns↔y∈ns:=by
 unfold lof;rw[fold_mem];simp
theorem lof_succ{ns:List Nat}{i:Nat}(h:i<ns.length):lof (ns.take (i+1))=add (lof (ns.take i)) ns[i]:=by
 unfold lof
 rw[List.take_add_one,List.getElem?_eq_getElem h,List.foldl_append]
 rfl
end
end SI
set_option linter.all false
set_option maxRecDepth 100000
set_option maxHeartbeats 4000000
namespace SI
open PySem PyProof.Rows
section
variable {prog:Program}{w:World}{A:Around}{E:Value->Shared->Prop}{s:Shared}
def IntsN(vs:List Value)(ns:List Nat):Prop:=vs.length=ns.length/\∀(i:Nat) (v:Value),vs[i]?=some v->∃tk,v=Value.int ((ns.getD i 0:Nat):Int) tk
theorem fillI{S I l:Addr}{vs:List Value}{ns:List Nat}{led:Bool}{R:Result->Shared->Prop}(hh:A.in1.handled=none)(hT:IntsN vs ns)(hin:∀n∈ns,n<6)(hSI:S≠I)(hSl:S≠l)(hlI:l≠I) :
  ∀(k i:Nat) (s:Shared),ns.length - i=k->i≤ns.length->s.heap.IsListIter I l i->s.heap.IsList l vs.toArray->ISet s.heap S led (lof (ns.take i)) ->
   (∀h' tk,(∀b o,b≠S->b≠I->s.heap.get? b=some o->h'.get? b=some o)->ISet h' S led (lof ns)->R (.ok (.ret .none)) { s with heap:=h',toks:=tk }) ->
   codeAny (model prog w) A (.builtin "set.update.loop" ⟨[.ref S,.ref I],[]⟩) R s:=by
 intro k
 induction k with
 | zero =>
  intro i s hk hi hit hl hP hR
  have e:i=ns.length:=by omega
  subst e
  rw[List.take_length]at hP
  refine codeAny_builtin F.entry_set_update_loop ?_
  rw[Around.under_plainId F.plain_set_update_loop _]
  show wpAny _ A.in1 (pyNext (.ref I) >>= _) _ _ s
  refine wpAny_bind (wpAny_pyNext_list_end hh hit hl (by simp[hT.1]) fun h' eb=>?_)
  show wpAny _ A.in1 (ret Value.none) _ _ _
  refine wpAny_pure (hR h' s.toks (fun b o _ hb e=>eb b o hb e) ?_)
  obtain⟨hL,es,ep,ho,r⟩:=hP.is
  exact⟨hL,es,ep,eb S _ hSI ho,r⟩
 | succ k ih =>
  intro i s hk hi hit hl hP hR
  have hlt:i<ns.length:=by omega
  have hvl:i<vs.length:=by rw[hT.1];exact hlt
  have hvi:vs[i]?=some vs[i]:=List.getElem?_eq_getElem hvl
  obtain⟨tk,ev⟩:=hT.2 i _ hvi
  have en:ns.getD i 0=ns[i]:=by rw[List.getD_eq_getElem?_getD,List.getElem?_eq_getElem hlt];rfl
  rw[en]at ev
  refine codeAny_builtin F.entry_set_update_loop ?_
  rw[Around.under_plainId F.plain_set_update_loop _]
  show wpAny _ A.in1 (pyNext (.ref I) >>= _) _ _ s
  refine wpAny_bind (wpAny_pyNext_list_item hit hl (x:=Value.int ((ns[i]:Nat):Int) tk) (by rw[←ev];simp) fun h1 hit1 sb1=>?_)
  have k1:∀b o,b≠I->s.heap.get? b=some o->h1.get? b=some o:=fun b o hb e=>sb1.extBut b o hb e
  have hP1:ISet h1 S led (lof (ns.take i)):=by
   obtain⟨hL,es,epo,ho,r⟩:=hP.is
   exact⟨hL,es,epo,k1 S _ hSI ho,r⟩
  show wpAny _ A.in1 (holding [Value.int ((ns[i]:Nat):Int) tk] (setAdd S (Value.int ((ns[i]:Nat):Int) tk)) >>= _) _ _ _
  refine wpAny_bind (wpAny_holding (setAdd_int (A:=A.in1) hP1 (hin _ (List.getElem_mem hlt)) fun b h2 tk2 sb2 hP2=>?_))
  have k2:∀b o,b≠S->h1.get? b=some o->h2.get? b=some o:=fun b o hb e=>sb2.extBut b o hb e
  have hP3:ISet h2 S led (lof (ns.take (i+1))):=by rw[lof_succ hlt];exact hP2
  refine wpAny_pure ⟨plainId_quiet F.plain_set_update_loop _,ih (i+1) { s with heap:=h2,toks:=tk2 } (by omega) (by omega) (hit1.extBut (fun b o hb e=>k2 b o hb e) (Ne.symm hSI)) ?_ hP3 ?_⟩
  ·exact(hl.extBut (fun b o hb e=>k1 b o hb e) hlI).extBut (fun b o hb e=>k2 b o hb e) (Ne.symm hSl)
  ·intro h3 tk3 kp hP4
   exact hR h3 tk3 (fun b o hb hb' e=>kp b o hb hb' (k2 b o hb (k1 b o hb' e))) hP4
theorem new_led(a:Value){Q₁:Value->Shared->Prop}(h:Q₁ (.ref s.heap.objs.size) { s with heap:=s.heap.push { cls:=.type "set",dict:=none,data:=.set #[] 0 (.fresh 0 0 (ledOf w)) } }) :
  codeAny (model prog w) A (.call (.builtin "set.__new__") ⟨[.type "set",a],[]⟩) (wants Q₁ E) s:=by
 refine codeAny_of_tree ?_
 show wpAny (model prog w) A.in1 (do checkBuiltinCall "set.__new__" ⟨[.type "set",a],[]⟩;again (.builtin "set.__new__" ⟨[.type "set",a],[]⟩)) _ _ _
 refine wpAny_bind (wpAny_of_eq (F.newCall_set_1 a) (wpAny_pure ⟨plainId_quiet F.plain_set_new _,?_⟩))
 refine codeAny_builtin F.entry_set_new ?_
 rw[Around.under_plainId F.plain_set_new _]
 unfold Builtin.«set.__new__»
 unfold Builtin.Frozenset.newClass
 have sub1:=sub_set_self
 obtain⟨hp,g,d,tk,os⟩:=s
 dsimp only
 wp_walk
 refine wpAny_askSetting (wpAny_pure ?_)
 dsimp only
 simp only[newObj]
 refine wpAny_bind (wpAny_alloc (wpAny_pure (wpAny_pure ?_)))
 exact h
set_option maxHeartbeats 4000000 in
theorem call_set_ints{l:Addr}{vs:List Value}{ns:List Nat}{Q:Value->Shared->Prop}(hh:A.handled=none)(hl:s.heap.IsList l vs.toArray)(hT:IntsN vs ns)(hin:∀n∈ns,n<6)
  (h:∀h' tk,(∀b o,b<s.heap.objs.size->s.heap.get? b=some o->h'.get? b=some o)->ISet h' s.heap.objs.size (ledOf w) (lof ns)->Q (.ref s.heap.objs.size) { s with heap:=h',toks:=tk }) :
  wpAny (model prog w) A (call (.type "set") [.ref l]) Q E s:=by
 obtain⟨c0,tl0,mro0⟩:=F.called_set.mro
 have made0:=F.called_set.made
 have sub0:=F.called_set.sub
 have nt0:=F.called_set.notType
 have cc0:=F.called_set.canCreate
 have tc0:=F.typeCall_set_1 (.ref l)
 refine wpAny_call (codeAny_of_tree ?_)
 show wpAny (model prog w) _ (callAny (.type "set") _) _ _ _
 refine wpAny_pure ⟨Code.quiet_builtin _ (by decide +kernel),codeAny_builtin F.entry_type_call ?_⟩
 rw[Around.under_plain (weight_type_call_type "set" [.ref l] []) rfl]
 repeat (any_goals (first | assumption | wp_step))
 refine codeAny_mono (new_led (.ref l) (E:=E) (Q₁:=fun obj s1=>obj=.ref s.heap.objs.size /\
  s1={ s with heap:=s.heap.push { cls:=.type "set",dict:=none,data:=.set #[] 0 (.fresh 0 0 (ledOf w)) } }) ⟨rfl,rfl⟩) fun r s1 hr=>?_
 cases r with
 | error e=>exact hr
 | ok fl =>
  cases fl with
  | ret obj =>
   obtain⟨rfl,rfl⟩:=hr
   generalize hH:s.heap.push { cls:=.type "set",dict:=none,data:=.set #[] 0 (.fresh 0 0 (ledOf w)) }=H1
   have hS:H1.get? s.heap.objs.size=some { cls:=.type "set",dict:=none,data:=.set #[] 0 (.fresh 0 0 (ledOf w)) }:=by rw[←hH];exact Heap.get?_push_size _ rfl
   have old:∀b o,s.heap.get? b=some o->H1.get? b=some o:=fun b o e=>by rw[←hH];exact Heap.get?_push_of_some _ e
   have hsz:H1.objs.size=s.heap.objs.size+1:=by rw[←hH,Heap.size_push]
   have tyS:Shared.TypeIs { s with heap:=H1 } (.ref s.heap.objs.size) "set":=⟨_,hS,rfl⟩
   have li0:=F.called_set.init.lookup
   have bi0:=F.called_set.init.bind (.ref s.heap.objs.size)
   repeat (any_goals (first | assumption | wp_step))
   refine codeAny_mono (codeAny_call_builtin (R:=wants (fun r s2=>r=.none/\∃h' tk,s2={ s with heap:=h',toks:=tk }/\ISet h' s.heap.objs.size (ledOf w) (lof ns) /\
    (∀b o,b<s.heap.objs.size->s.heap.get? b=some o->h'.get? b=some o)) E) F.called_set.init.plain F.entry_set_init (check_set_init_1 tyS ?_)) fun r2 s2 hr2=>?_
   ·obtain⟨ol,hol,hcl,nl,hdl⟩:=hl
    obtain⟨oc,od,oda,osl⟩:=ol
    simp only at hcl hdl
    subst hcl;subst hdl
    have hol1:H1.get? l=some { cls:=.type "list",dict:=od,data:=.seq vs.toArray nl,slots:=osl }:=old _ _ hol
    have sls:=F.sub_list_set
    have slf:=F.sub_list_frozenset
    have nld:(Value.type "list"==Value.type "dict")=false:=by decide
    have hl1:H1.IsList l vs.toArray:=⟨_,hol1,rfl,nl,rfl⟩
    have llt:l<s.heap.objs.size:=Heap.lt_size hol
    unfold Builtin.«set.__init__» noKeywords Builtin.Frozenset.updateFrom
    generalize hPI:pyIter=PI
    wp_walk
    subst hPI
    refine wpAny_pyIter_list hl1 ?_
    refine wpAny_bind (wpAny_runValue ?_)
    generalize hH2:H1.push { cls:=.type "list_iterator",data:=.fields #[.ref l,.int 0 0] }=H2
    have old2:∀b o,H1.get? b=some o->H2.get? b=some o:=fun b o e=>by rw[←hH2];exact Heap.get?_push_of_some _ e
    refine fillI (l:=l) (ns:=ns) (vs:=vs) (led:=ledOf w) (by simp[hh]) hT hin (by show s.heap.objs.size≠H1.objs.size;rw[hsz];exact Nat.ne_of_lt (Nat.lt_succ_self _)) (Nat.ne_of_gt llt) (by show l≠H1.objs.size;rw[hsz];exact Nat.ne_of_lt (Nat.lt_succ_of_lt llt)) ns.length 0 _ (by omega) (Nat.zero_le _) ?_ ?_ ?_ ?_
    ·rw[←hH2]
     exact⟨_,Heap.get?_push_size _ rfl,rfl,rfl⟩
    ·exact⟨_,old2 _ _ hol1,rfl,nl,rfl⟩
    ·refine⟨nil_subs,#[],0,old2 _ _ hS,[],rfl,rfl⟩
    ·intro h' tk kp hP
     show wpAny _ _ (pure ()) _ _ _
     refine wpAny_pure ?_
     show wpAny _ _ (ret Value.none) _ _ _
     refine wpAny_pure ⟨rfl,h',tk,rfl,hP,fun b o hb e=>?_⟩
     refine kp b o (Nat.ne_of_lt hb) ?_ (old2 _ _ (old _ _ e))
     show b≠H1.objs.size
     rw[hsz];exact Nat.ne_of_lt (Nat.lt_succ_of_lt hb)
   ·cases r2 with
    | error e=>exact hr2
    | ok f2 =>
     cases f2 with
     | ret r =>
      obtain⟨rfl,h',tk,rfl,hP,hk⟩:=hr2
      repeat (any_goals (first | assumption | wp_step))
      exact h _ _ hk hP
     | _=>exact hr2.elim
  | _=>exact hr.elim
theorem hint_set{r:Addr}{Q:Bool->Shared->Prop}(hT:s.TypeIs (.ref r) "set")(h:Q false s):wpAny (model prog w) A (Builtin.List.listLengthHint (.ref r)) Q E s:=by
 unfold Builtin.List.listLengthHint
 refine wpAny_bind (wpAny_specialOf hT PySem.F.slot_set_len.lookup ?_)
 generalize hid:("set.__len__":String)=id0
 wp_delta
 rw[show splitId id0=some ("set","__len__")from by subst hid;decide +kernel]
 subst hid
 refine wpAny_bind (wpAny_isInstance (T:="set") (b:=true) hT (by rw[isSubtype_type];kernel_rfl) (wpAny_ite_split (fun hab=>absurd hab (by decide)) (fun _=>wpAny_ite_split (fun _=>?_) (fun hab=>absurd (by decide +kernel) hab))))
 exact wpAny_bind (wpAny_typeOf hT (wpAny_pure h))
theorem src_set{S:Addr}{L:List Nat}{es:Array (Int×Value)}{ep:Nat}(hL:L∈subs)(he:EsIs es L) :
  PySem.W.KdlSrc prog w "set" S S es.size (fun i v=>∃e,(walk w S es ep)[i]?=some e/\v=e.2) (fun h=>h.get? S=some { cls:=.type "set",dict:=none,data:=.set es ep (tb (ledOf w) L) }) where
 type:=fun s ho=>⟨_,ho,rfl⟩
 there:=fun h ho=>⟨Heap.lt_size ho,Heap.lt_size ho⟩
 keep:=fun h h' ho k=>k S (.inl rfl) _ ho
 notList:=by decide
 notTuple:=by decide
 hint:=fun A E s Q ho q=>hint_set ⟨_,ho,rfl⟩ q
 iter:=fun A s hh ho=>⟨_,_,fun E Q q=>iter_set hL ho he q,walks_set hh (Nat.ne_of_lt (Heap.lt_size ho)) hL he,⟨by
  show IsIt _ _ _ (slotAt w L 0) 0 _ _
  have:slotAt w L 0=0:=by unfold slotAt;split<;>rfl
  rw[this]
  exact Heap.get?_push_size _ rfl,Heap.get?_push_of_some _ ho⟩⟩
theorem collect_set{S:Addr}{L:List Nat}{es:Array (Int×Value)}{ep:Nat}{Q:List Value->Shared->Prop}(hh:A.handled=none)(hL:L∈subs)(he:EsIs es L)(ho:s.heap.get? S=some { cls:=.type "set",dict:=none,data:=.set es ep (tb (ledOf w) L) })
  (h:∀h' tk,s.heap.objs.size<h'.objs.size->(∀b o,s.heap.get? b=some o->h'.get? b=some o)->Q ((walk w S es ep).toList.map (·.2)) { s with heap:=h',toks:=tk }):wpAny (model prog w) A (collect (.ref S)) Q E s:=by
 have hlt:S<s.heap.objs.size:=Heap.lt_size ho
 have h6:=(tab3 L hL).2.1
 generalize hN:s.heap.objs.size=N
 have hNS:N≠S:=by rw[←hN];exact Nat.ne_of_gt hlt
 have key:∀R:Result->Shared->Prop,(∀h' tk acc c,(∀b o,s.heap.get? b=some o->h'.get? b=some o)->h'.get? N=some { cls:=.type "list",dict:=none,data:=.seq acc c,slots:=#[] } ->
   ItemsOf (fun i v=>∃e,(walk w S es ep)[i]?=some e/\v=e.2) acc es.size->R (.ok (.ret (.ref N))) { s with heap:=h',toks:=tk })->codeAny (model prog w) A (.builtin "proto.collect" ⟨[.ref S],[]⟩) R s:=by
  intro R hR
  refine codeAny_builtin PyProof.Rows.entry_proto_collect' ?_
  rw[Around.under_plainId PySem.F.plain_proto_collect _]
  show wpAny (model prog w) A.in1 (newList [] >>= fun l=>again (.builtin "list.__iadd__" ⟨[l,.ref S],[]⟩)) _ _ s
  refine wpAny_bind (wpAny_newObj_type ?_)
  refine wpAny_pure ⟨plainId_quiet PySem.F.plain_list_iadd _,codeAny_builtin PySem.F.entry_list_iadd ?_⟩
  rw[Around.under_plainId PySem.F.plain_list_iadd _]
  rw[hN]
  show wpAny (model prog w) A.in1 (Builtin.List.listExtendWith (.ref N) (.ref S) (.ref N)) _ _ _
  have hS:(s.heap.push { cls:=.type "list",data:=.seq ([]:List Value).toArray }).get? N=some { cls:=.type "list",data:=.seq #[] 0 }:=by rw[←hN];exact Heap.get?_push_size _ rfl
  refine PySem.W.kdl_extend (s:={ s with heap:=s.heap.push { cls:=.type "list",data:=.seq ([]:List Value).toArray } }) (src_set (ep:=ep) hL he) (by simpa using hh) (Heap.get?_push_of_some _ ho) N hNS hNS (.ref N) 0 hS (fun h' tk acc c kp hS' hacc=>?_) (by rw[he.size,sizeLine_eq];omega)
  exact hR h' tk acc c (fun b o q=>kp b o (by rw[←hN];exact Nat.ne_of_lt (Heap.lt_size q)) (Heap.get?_push_of_some _ q)) hS' hacc
 unfold collect
 refine wpAny_bind (wpAny_runValue (key _ fun h' tk acc c kp hS' hacc=>?_))
 show wpAny (model prog w) A (load N >>= _) _ _ _
 refine wpAny_bind (wpAny_load hS' ?_)
 refine wpAny_pure ?_
 have e:acc.toList=(walk w S es ep).toList.map (·.2):=by
  apply List.ext_getElem?
  intro j
  by_cases hj:j<acc.size
  ·obtain⟨e,e1,e2⟩:=hacc.2 j _ (Array.getElem?_eq_getElem hj)
   rw[Array.getElem?_toList,Array.getElem?_eq_getElem hj,List.getElem?_map,Array.getElem?_toList,e1,e2]
   rfl
  ·have hz:(walk w S es ep).size≤j:=by rw[walk_size];have:=hacc.1;omega
   rw[Array.getElem?_toList,Array.getElem?_eq_none (by omega),List.getElem?_map,Array.getElem?_toList,Array.getElem?_eq_none hz]
   rfl
 show Q acc.toList _
 rw[e]
 exact h h' tk (by rw[hN];exact Heap.lt_size hS') kp
theorem sorted_set{S:Addr}{L:List Nat}{Q:Value->Shared->Prop}(hh:A.handled=none)(hP:ISet s.heap S (ledOf w) L)
  (h:∀(r:Addr) (h':Heap) (tk n:Nat) (out:List Value) (ms:List Int),s.heap.objs.size≤r->(∀b o,s.heap.get? b=some o->h'.get? b=some o)->h'.get? r=some (seqObj "list" out.toArray n)->IntsAre out ms->ms.Pairwise (·≤·)->ms.Perm (L.map fun(i:Nat)=>(i:Int))->Q (.ref r) { s with heap:=h',toks:=tk }) :
  wpAny (model prog w) A (call (.builtin "sorted") [.ref S]) Q E s:=by
 obtain⟨hL,es,ep,ho,he⟩:=hP.is
 have h6:=(tab3 L hL).2.1
 refine Calls.call_function_entry kind_sorted plain_sorted entry_sorted (args_sorted1 _) ?_
 unfold Builtin.«sorted»
 refine wpAny_bind (m:=checkCount "sorted" 1 1 _) (wpAny_pure ?_)
 refine wpAny_bind (collect_set (by simpa using hh) hL he ho fun h1 tk1 hgt k1=>?_)
 have hil:∃ns:List Int,IntsAre ((walk w S es ep).toList.map (·.2)) ns/\ns.Perm (L.map fun(i:Nat)=>(i:Int)):=by
  have hp:=walk_perm w S es ep
  obtain⟨tks,q1,q2⟩:=he
  have gen:∀(l:List (Int×Value)),(∀e∈l,∃x tk,e=ent x tk)->IntsAre (l.map (·.2)) (l.map (·.1)):=by
   intro l
   induction l with
   | nil=>intro _;exact .nil
   | cons e l ih =>
    intro hm
    obtain⟨x,tk,rfl⟩:=hm e List.mem_cons_self
    exact .cons _ _ (ih fun e he=>hm e (List.mem_cons_of_mem _ he))
  refine⟨(walk w S es ep).toList.map (·.1),gen _ fun e hm=>?_,?_⟩
  ·obtain⟨x,_,tk,e⟩:=EsIs.mem ⟨tks,q1,q2⟩ (hp.mem_iff.mp hm)
   exact⟨x,tk,e⟩
  ·refine(hp.map _).trans ?_
   rw[q2]
   have gen2:∀(L:List Nat) (tks:List Tok),tks.length=L.length->(List.zipWith ent L tks).map (·.1)=L.map fun(i:Nat)=>(i:Int):=by
    intro L
    induction L with
    | nil=>intro tks _;rfl
    | cons a L ih =>
     intro tks hl
     cases tks with
     | nil=>simp at hl
     | cons b tks=>simp only[List.zipWith_cons_cons,List.map_cons,ih tks (by simpa using hl)];rfl
   rw[gen2 L tks q1]
 obtain⟨ns,hi,hpm⟩:=hil
 generalize (walk w S es ep).toList.map (·.2)=vs at hi ⊢
 have hlen:vs.length=L.length:=by
  have a:=hpm.length_eq
  have b:=IntsAre.length hi
  rw[List.length_map]at a
  omega
 refine wpAny_bind (wpAny_newList ?_ (by rw[hlen,sizeLine_eq];omega))
 have hoL:(h1.push (seqObj "list" vs.toArray 0)).get? h1.objs.size=some (seqObj "list" vs.toArray 0):=Heap.get?_push_size _ rfl
 show wpAny (model prog w) _ _ _ _ { s with heap:=h1.push (seqObj "list" vs.toArray 0),toks:=tk1 }
 refine wpAny_bind (wpAny_holding (wpAny_call_entry slot_list_sort ⟨_,hoL,rfl⟩ entry_list_sort (list_sort_tree hoL hi (by omega) fun out ms a1 a2 a3=>⟨_,rfl,?_⟩) (args_list_sort _)))
 refine wpAny_pure ⟨_,rfl,?_⟩
 obtain⟨e,he2⟩:=sortedHeap_at (out:=out) hoL
 have hge:s.heap.objs.size≤h1.objs.size:=Nat.le_of_lt hgt
 refine h h1.objs.size (sortedHeap (h1.push (seqObj "list" vs.toArray 0)) h1.objs.size vs out) tk1 e out.toList ms hge (fun b o q=>?_) (by simpa using he2) a1 a3 (a2.trans hpm)
 rw[sortedHeap_old (Nat.ne_of_lt (Heap.lt_size (k1 b o q))) (by rw[Heap.size_push];exact Nat.lt_succ_of_lt (Heap.lt_size (k1 b o q)))]
 exact Heap.get?_push_of_some _ (k1 b o q)
end
end SI
set_option linter.all false
set_option maxRecDepth 100000
set_option maxHeartbeats 4000000
namespace L2
open PySem PySem.Spec PyProof.Rows
variable {X:Cx}
def SetI(w:World)(S:Addr)(L:List Nat):Heap->Prop:=fun h=>SI.ISet h S (SI.ledOf w) L
def natV(n:Nat):V:=.int (n:Int)
theorem vals_nats:∀{ns:List Nat} {us:List Value},Vals (ns.map natV) us->SI.IntsN us ns
 | [],_,.nil=>⟨rfl,fun i v h=>by simp at h⟩
 | n::ns,_,.cons r t=>by
  obtain⟨tk,rfl⟩:=r
  obtain⟨a,b⟩:=vals_nats t
  refine⟨by simp[a],fun i v h=>?_⟩
  cases i with
  | zero=>simp at h;exact⟨tk,h.symm⟩
  | succ i=>simpa using b i v (by simpa using h)
theorem call_setI(hc:X.calm=true):CallR X (.type "set") (fun xs H Q=>∃(a:Addr) (ns:List Nat),xs=[.ref a]/\SqL X.K H a (ns.map natV)/\(∀n∈ns,n<6)/\∀S,H S=none->Q (.ref S) (upd H S (.ext (SetI X.w S (SI.lof ns))))):=by
 intro pins s σ H xs us Q I r h
 obtain⟨a,ns,rfl,hq,hin,q⟩:=h
 obtain⟨u,rfl,ru⟩:=Vals.one r
 cases ru
 obtain⟨its,rv,p,hz⟩:=I.list hq
 refine SI.call_set_ints (ns:=ns) (I.ok.hd hc) p.isList (vals_nats rv) hin fun h' tk kp P=>?_
 have hn:H s.heap.objs.size=none:=I.hok.fresh (Nat.le_refl _)
 refine⟨.ref s.heap.objs.size,_,I.laid (t':=tk) (o:=.ext (SetI X.w s.heap.objs.size (SI.lof ns))) (fun b o e=>kp b o (Heap.lt_size e) e) (Nat.le_refl _) ?_,rfl,q _ hn⟩
 obtain⟨hL,es,ep,ho,he⟩:=P.is
 exact⟨P,⟨_,ho⟩,fun h1 h2 x k=>by obtain⟨a,es,ep,e,l⟩:=x.is;exact⟨a,es,ep,k _ e,l⟩⟩
theorem call_sortS(hc:X.calm=true):CallR X (.builtin "sorted") (fun xs H Q=>∃(S:Addr) (L:List Nat),xs=[.ref S]/\H S=some (.ext (SetI X.w S L))/\∀(r:Addr) (ms:List Int),H r=none->ms.Pairwise (·≤·)->ms.Perm (L.map fun(i:Nat)=>(i:Int))->Q (.ref r) (upd H r (.lst (ms.map V.int)))):=by
 intro pins s σ H xs us Q I r h
 obtain⟨S,L,rfl,hS,q⟩:=h
 obtain⟨u,rfl,ru⟩:=Vals.one r
 cases ru
 obtain⟨P,_,_⟩:=(show ObjOk X.prog X.w H s.heap S (.ext (SetI X.w S L))from I.hok S _ hS)
 have h6:=(SI.tab3 L P.is.1).2.1
 refine SI.sorted_set (I.ok.hd hc) P fun r h' tk n out ms hge kp ho hi hs hp=>?_
 have hn:H r=none:=I.hok.fresh hge
 have hl:ms.length≤6:=by have:=hp.length_eq;rw[List.length_map]at this;omega
 refine⟨.ref r,_,I.laid (t':=tk) (o:=.lst (ms.map V.int)) (fun b o e=>kp b o e) hge ?_,rfl,q r ms hn hs hp⟩
 exact⟨by rw[List.length_map,sizeLine_eq];omega,out,n,vals_ints hi,ho⟩
def rExtendT(K:PySem.W.Frag):V->List V->Hp->VK->Prop:=fun x vs H Q=>∃l b xs zs,x=.ref l/\vs=[.ref b]/\H l=some (.lst xs)/\SqT K H b zs/\xs.length+zs.length≤sizeLine/\Q .non (upd H l (.lst (xs++zs)))
end L2
namespace U
open PySem PySem.Spec PyProof.Rows L2
variable {B:Bs}{X:Cx}{e:Expr}{ta:TE'}{p p2 pos pos2:Pos}
def natP(n:Nat):PV:=.int (n:Int)
theorem rps_nats{K:PySem.W.Frag}{H:Hp}:∀{ns:List Nat} {us:List V},RPs K H (ns.map natP) us->us=ns.map natV
 | [],us,h=>by simpa[RPs]using h
 | b::bs,us,h=>by
  simp only[List.map_cons,RPs,RP,natP]at h
  obtain⟨u,r,rfl,rfl,h2⟩:=h
  rw[rps_nats h2];rfl
def sortSet(x:PV)(H:PHp)(Q:VK'):Prop:=match x with
 | .ref a=>∃ns:List Nat,H a=some (.lst (ns.map natP))/\(∀n∈ns,n<6)/\∀(r:Addr) (ms:List Nat),H r=none->ms.Pairwise (·<·)->(∀x,x∈ms↔x∈ns)->Q (.ref r) (put H r (.lst (ms.map natP)))
 | _=>False
theorem w_ss{a:Addr}{H:PHp}{Q:VK'}:sortSet (.ref a) H Q=∃ns:List Nat,H a=some (.lst (ns.map natP))/\(∀n∈ns,n<6)/\∀(r:Addr) (ms:List Nat),H r=none->ms.Pairwise (·<·)->(∀x,x∈ms↔x∈ns)->Q (.ref r) (put H r (.lst (ms.map natP))):=rfl
def uSortSet(ta:TE'):TE':=fun σ H Q=>ta σ H fun x H1=>sortSet x H1 Q
theorem nat_list{L:List Nat}:∀{ms:List Int},(∀x∈ms,∃n∈L,x=((n:Nat):Int))->ms=(ms.map Int.toNat).map fun(n:Nat)=>(n:Int)
 | [],_=>rfl
 | x::ms,h=>by
  obtain⟨n,_,rfl⟩:=h x List.mem_cons_self
  rw[List.map_cons,List.map_cons,← nat_list (ms:=ms) fun y hy=>h y (List.mem_cons_of_mem _ hy)]
  rfl
theorem qe_sorted_set(hc:X.calm=true)(hu:X.A.units+64<cLine)(hgl:Gl X "sorted")(hml:X.mg "sorted"=none)(hgs:Gl X "set")(hms:X.mg "set"=none)(bs:bootBuiltins "set"=some (.type "set"))(ha:PE' X B e ta)(bo:bootBuiltins "sorted"=some (.builtin "sorted"):=by decide +kernel)
  (he:starEach [.Call (.Name "set" p2) [e] [] pos2] X.env=[(false,eval (.Call (.Name "set" p2) [e] [] pos2) X.env)]:=by rfl) (he2:starEach [e] X.env=[(false,eval e X.env)]:=by rfl) :
  PE' X B (.Call (.Name "sorted" p) [.Call (.Name "set" p2) [e] [] pos2] [] pos) (uSortSet ta) :=
 pe_imp (pe_callB (call_sortS hc) hgl hml bo (pa_cons (pe_callTy (call_setI hc) hgs hms bs (pa_cons ha pa_nil he2) (by decide) (by decide) he2 rfl) pa_nil he) (by decide) (by decide) he rfl) fun σ H Q h=>by
  obtain⟨σ',H',Q',s,h,k⟩:=h
  refine⟨σ',H',_,s,h,fun x' H1' x H1 h1 rx s1 e1=>?_⟩
  cases x' with
  | ref a =>
   obtain⟨ns,ea,hin,q⟩:=h1
   simp only[RP]at rx
   subst rx
   obtain⟨us,eg,r2⟩:=s1.hp _ _ ea
   rw[rps_nats r2]at eg
   refine⟨a,ns,rfl,.inl (.inl eg),hin,fun S hS=>⟨S,SI.lof ns,rfl,upd_same,fun r ms hr hs hp=>?_⟩⟩
   have s2:=s1.hid (o:=.ext (SetI X.w S (SI.lof ns))) hS
   have e2:Ev H1' H1 H1' (upd H1 S (.ext (SetI X.w S (SI.lof ns)))):=Ev.hid hS
   have nd:=(SI.tab3 _ (SI.lof_subs hin)).2.2.1
   have hm:∀x∈ms,∃n∈SI.lof ns,x=((n:Nat):Int):=fun x hx=>by
    obtain⟨n,h1,h2⟩:=List.mem_map.mp (hp.mem_iff.mp hx)
    exact⟨n,h1,h2.symm⟩
   have em:=nat_list hm
   generalize ms.map Int.toNat=ks at em
   subst em
   have pk:ks.Perm (SI.lof ns):=by
    have:=hp.map Int.toNat
    simpa[List.map_map,Function.comp_def]using this
   have ndk:ks.Nodup:=pk.nodup_iff.mpr nd
   have hsk:ks.Pairwise (·<·):=by
    rw[List.pairwise_map]at hs
    refine List.Pairwise.imp₂ (fun a b h1 h2=>?_) hs ndk
    have:a≠b:=h2
    omega
   have hq:=q r ks (s2.hp.free hr) hsk fun x=>pk.mem_iff.trans SI.mem_lof
   have rr:RPs X.K (upd H1 S (.ext (SetI X.w S (SI.lof ns)))) (ks.map natP) ((ks.map fun(n:Nat)=>(n:Int)).map V.int):=by
    have e3:ks.map natP=(ks.map fun(n:Nat)=>(n:Int)).map PV.int:=by rw[List.map_map];rfl
    rw[e3]
    exact ints_rps
   exact k _ _ _ _ hq (by simp[RP]) (s2.new hr (newL hr rr)) ((e1.trans e2).trans (Ev.new hr))
  | _=>exact h1.elim
end U
namespace L2
open PySem PySem.Spec PyProof.Rows
variable {X:Cx}{tg:Expr}
theorem mt_extendT:MtM X "list.extend" (rExtendT X.K):=by
 intro pins s σ H x vs v us Q I rx rv h
 obtain⟨l,b,xs,zs,rfl,rfl,hH,hB,hz,q⟩:=h
 cases rx
 obtain⟨u,rfl,ru⟩:=rv.one
 cases ru
 obtain⟨z,its,n,r,hl,e⟩:=I.lstM hH
 obtain⟨is2,r2,⟨o2,ho2,hc2,n2,hd2⟩,hz2⟩:=I.tuple hB
 have hne:l≠b:=by
  rintro rfl
  rw[e]at ho2;cases ho2;exact absurd (show Value.type "list"=Value.type "tuple" from hc2) (by decide)
 have hlen2:=r2.length
 refine wpAny_call_entry F.slot_list_extend ⟨_,e,rfl⟩ F.entry_list_extend ?_ (F.args_list_extend_2 _ _)
 show wpAny _ _ (Builtin.List.listExtendWith (.ref l) (.ref b) .none) _ _ _
 unfold Builtin.List.listExtendWith
 refine wpAny_bind (wpAny_typeOf (T:="tuple") ⟨o2,ho2,hc2⟩ ?_)
 rw[if_pos (by rw[show(Value.type "tuple"==Value.type "tuple")=true from rfl];simp)]
 refine wpAny_bind (listItems_at ho2 hd2 ?_)
 refine wpAny_bind (listItems_at (xs:=its.toArray) (n:=n) e rfl ?_)
 have hsz:its.toArray.size+is2.toArray.size≤sizeLine:=by rw[List.size_toArray,List.size_toArray];omega
 rw[if_neg (by rw[notLongL hsz,Bool.and_false];exact Bool.false_ne_true)]
 refine wpAny_bind (listUpdate_at (xs:=its.toArray) (n:=n) e rfl ?_ (by rw[List.size_toArray];omega) (by show(its.toArray++is2.toArray).size≤_;rw[Array.size_append];omega))
 refine wpAny_pure ⟨_,rfl,?_⟩
 refine⟨.non,_,I.lset (its':=its++is2) hH e (by simp) (r.append r2) ?_,rfl,q⟩
 rw[List.length_append]
 omega
def Itd(lo:Int)(n:Nat):It:=⟨fun i _=>i<n,fun i H x H'=>H'=H/\x=.int (lo - i),fun i _=>n≤i⟩
theorem turn_down{P:Program}{w:World}{K:PySem.W.Frag}(it:Addr)(lo:Int)(n:Nat):Turn P w K tg (Itd lo n) [it] it (fun i h=>IsRangeIter h it (lo+(i:Nat)*(-1)) ((n:Int) - (i:Nat)) (-1)) where
 mem:=by simp
 obj:=fun i h st b hb=>by
  have q:b=it:=by simpa using hb
  subst q
  exact⟨_,st,fun v z=>by
   have z':Data.fields _=Data.cell v:=z
   cases z'⟩
 keep:=fun i h h' st k=>k it (by simp) _ st
 item:=by
  intro X hP hw hK hc i pins s σ H E I hf st hg
  subst hP hw hK
  obtain⟨f0,f1,f2,f3,f4,f5⟩:=hf it (by simp)
  have W:=Walks.range (prog:=X.prog) (w:=X.w) (I.ok.hd hc) it lo (-1) n
  refine W.item i s _ _ hg st fun v h' tk hv st' kk=>?_
  obtain⟨t,rfl⟩:=hv
  have J:Inv X pins σ H { s with heap:=h',toks:=tk }:=I.turned (fun b o hb e=>kk b o (by simpa using hb) e) f0 f1 f3 f4 f5
  refine⟨_,rfl,go_of (s:={ s with heap:=h',toks:=tk }) (n:="range_iterator") st' rfl rfl (by decide) ⟨.int (lo - i),H,J,⟨t,?_⟩,⟨rfl,rfl⟩,st',fun b hb=>(hf b hb).1⟩⟩
  congr 1
  omega
 done:=by
  intro X hP hw hK hc i pins s σ H E I hf st hg
  subst hP hw hK
  obtain⟨f0,f1,f2,f3,f4,f5⟩:=hf it (by simp)
  exact wpAny_pyNext_range_end (I.ok.hd hc) st (by have q:n≤i:=hg;omega) fun h' eb=>⟨rfl,I.turned (t':=s.toks) (fun b o hb e=>eb b o hb e) f0 f1 f3 f4 f5⟩
 self:=fun _ _ _ _ _ st h=>wpAny_pyIter_rangeiter st h
def iDown(ta:TA):TI:=fun σ H R=>ta σ H fun vs H1=>∃j:Int,vs=[.int j,.int (-1),.int (-1)]/\-1≤j/\j<1000/\R (Itd j (j+1).toNat) H1
theorem down_size{j:Int}(h:-1≤j):Builtin.Range.rangeSize j (-1) (-1)=j+1:=by
 unfold Builtin.Range.rangeSize
 rw[if_neg (by decide)]
 have e:-(-1:Int)=1:=rfl
 rw[e,Int.ediv_one]
 split<;>omega
theorem down_small{j:Int}(h:-1≤j)(h2:j<1000):Builtin.Range.small j (-1) (-1)=true:=by
 unfold Builtin.Range.small
 rw[down_size h]
 simp only[Builtin.Range.rangeFitsLong,Bool.and_eq_true,Bool.or_eq_true,decide_eq_true_eq,beq_iff_eq]
 refine⟨⟨⟨⟨by omega,by decide⟩,by decide⟩,by omega⟩,.inr (by decide)⟩
theorem pi_down{a b c:Expr}{ta:TA}{p pos:Pos}(hg:Gl X "range")(hm:X.mg "range"=none)(ha:PA X [a,b,c] ta)(hs:starEach [a,b,c] X.env=[(false,eval a X.env),(false,eval b X.env),(false,eval c X.env)]:=by rfl)
  (hs2:starEach [b,c] X.env=[(false,eval b X.env),(false,eval c X.env)]:=by rfl):PI X tg (.Call (.Name "range" p) [a,b,c] [] pos) (iDown ta):=by
 intro pins s σ H R I h
 refine Call_ (ld_blt I hg hm boot_range (PyProof.Rows.callWith_type1 (thn (ha pos pins s σ H _ I h) fun us s1 ⟨vs,H1,I1,r1,q1⟩=>?_) (by rw[hs,hs2]) (by rw[hs2];rfl)))
 obtain⟨j,e,q1,q2,q⟩:=q1
 subst e
 cases r1 with
 | cons r rr =>
  cases rr with
  | cons r' rr =>
   cases rr with
   | cons r'' rr =>
    cases rr
    obtain⟨t,rfl⟩:=r
    obtain⟨t',rfl⟩:=r'
    obtain⟨t'',rfl⟩:=r''
    refine call_range_3 (by decide) ?_ (Or.inl (PyProof.noPylong_of_log2 (by decide +kernel)))
    generalize hh:s1.heap.push { cls:=.type "range",data:=.fields #[.int j t,.int (-1) t',.int (-1) t''] }=h2
    have I2:Inv X pins σ H1 { s1 with heap:=h2 }:=by rw[←hh];exact I1.kept (t':=s1.toks) fun b o e=>Heap.get?_push_of_some _ e
    refine wpAny_pyIter_range (s:={ s1 with heap:=h2,toks:=s1.toks }) (by rw[←hh];exact IsRange.new ..) (down_small q1 q2) ?_
    refine⟨h2.objs.size,[h2.objs.size],_,_,H1,rfl,I2.kept (t':=s1.toks) fun b o e=>Heap.get?_push_of_some _ e,turn_down _ j (j+1).toNat,?_,fun b hb=>?_,q⟩
    ·show IsRangeIter _ _ (j+((0:Nat):Int)*(-1)) ((((j+1).toNat:Nat):Int) - ((0:Nat):Int)) (-1)
     have e1:j+((0:Nat):Int)*(-1)=j:=by simp
     have e2:(((j+1).toNat:Nat):Int) - ((0:Nat):Int)=Builtin.Range.rangeSize j (-1) (-1):=by rw[down_size q1];omega
     rw[e1,e2]
     exact Heap.get?_push_size _ rfl
    ·have e:b=h2.objs.size:=by simpa using hb
     subst e
     exact I2.fpOk (Nat.le_refl _) (I2.hok.fresh (Nat.le_refl _))
end L2
namespace U
open PySem PySem.Spec PyProof.Rows L2
variable {B:Bs}{X:Cx}{a b c:Expr}{pos:Pos}
def uExtT:PV->List PV->PHp->VK'->Prop:=fun x vs H Q=>match x,vs with
 | .ref a,[.tup m]=>∃l,H a=some (.lst l)/\l.length+m.length≤sizeLine/\Q .non (put H a (.lst (l++m)))
 | _,_=>False
theorem w_et{a:Addr}{m:List PV}{H:PHp}{Q:VK'}:uExtT (.ref a) [.tup m] H Q=∃l,H a=some (.lst l)/\l.length+m.length≤sizeLine/\Q .non (put H a (.lst (l++m))):=rfl
theorem vm_extT{K:PySem.W.Frag}:VM K B uExtT (rExtendT K):=by
 intro σ' σ H' H x' xs' x xs Q' Q s rx r h k
 unfold uExtT at h
 split at h
 ·rename_i a m
  obtain⟨l,e,hl,h⟩:=h
  obtain⟨us,q,r2⟩:=s.hp _ _ e
  simp only[RP,RPs]at rx r
  obtain⟨u,r1,rfl,⟨b,ws,rfl,hb,r3⟩,rfl⟩:=r
  subst rx
  exact⟨a,b,us,ws,rfl,rfl,q,hb,by rw[RPs.length _ r2,RPs.length _ r3];exact hl,k _ _ _ _ h (by simp[RP]) (s.wr e (wrL s.hp e (RPs.append _ r2 r3))) (Ev.wr e)⟩
 ·exact h.elim
def dwnL(lo:Int)(n:Nat):List PV:=(List.range n).map fun k=>PV.int (lo - (k:Nat))
theorem walks_dwn{K:PySem.W.Frag}{H1:Hp}{lo:Int}{n:Nat}:Walks K H1 (Itd lo n) ⟨dwnL lo n,fun _=>True⟩ where
 go:=fun H' H i _ _ _ hi=>by
  have q:i<n:=by simpa[dwnL]using hi
  exact q
 yld:=fun H' H i x H2 _ _ _ y=>by
  obtain⟨rfl,rfl⟩:=y
  refine⟨rfl,fun x' hx=>?_⟩
  unfold dwnL at hx
  rw[List.getElem?_map]at hx
  cases q:(List.range n)[i]? with
  | none=>rw[q]at hx;cases hx
  | some j =>
   rw[q]at hx
   have:j=i:=by
    have:=(List.getElem?_eq_some_iff.mp q).2
    simpa using this.symm
   subst this
   cases hx
   simp[RP]
 stop:=fun H' H i _ _ _ hi=>by
  have q:n≤i:=by simpa[dwnL]using hi
  exact q
def down3(vs:List PV)(H1:PHp)(R:It'->PHp->Prop):Prop:=match vs with
 | [.int j,.int e,.int f]=>e=-1/\f=-1/\-1≤j/\j<1000/\R ⟨dwnL j (j+1).toNat,fun _=>True⟩ H1
 | _=>False
theorem w_d3{j e f:Int}{H1:PHp}{R:It'->PHp->Prop}:down3 [.int j,.int e,.int f] H1 R=(e=-1/\f=-1/\-1≤j/\j<1000/\R ⟨dwnL j (j+1).toNat,fun _=>True⟩ H1):=rfl
def uDown(t:TA'):TI':=fun σ H R=>t σ H fun vs H1=>down3 vs H1 R
theorem qi_range3{tg:Expr}{t:TA'}{p:Pos}(hg:Gl X "range")(hm:X.mg "range"=none)(ha:PA' X B [a,b,c] t)(hs:starEach [a,b,c] X.env=[(false,eval a X.env),(false,eval b X.env),(false,eval c X.env)]:=by rfl)
  (hs2:starEach [b,c] X.env=[(false,eval b X.env),(false,eval c X.env)]:=by rfl):PI' X B tg (.Call (.Name "range" p) [a,b,c] [] pos) (uDown t) :=
 pi_imp (pi_down hg hm ha hs hs2) fun σ H R ⟨σ',H',R',s,h,k⟩=>by
  refine⟨σ',H',_,s,h,fun vs' H1' vs H1 h1 r1 s1 e1=>?_⟩
  unfold down3 at h1
  split at h1
  ·rename_i j e f
   obtain⟨rfl,rfl,h2,h3,q⟩:=h1
   simp only[RPs,RP]at r1
   obtain⟨u,r,rfl,rfl,u2,r2,rfl,rfl,u3,r3,rfl,rfl,rfl⟩:=r1
   exact⟨j,rfl,h2,h3,k _ _ _ _ q walks_dwn s1 e1⟩
  ·exact h1.elim
end U
set_option linter.all false
set_option maxRecDepth 100000
set_option maxHeartbeats 4000000
namespace U
open PySem PySem.Spec PyProof.Rows L2
variable {B:Bs}{X:Cx}{a b:Expr}{ta tb:TE'}{pos:Pos}
def uCat:R2':=fun x y H Q=>match x,y with
 | .ref a,.ref b=>∃l m,H a=some (.lst l)/\H b=some (.lst m)/\l.length+m.length≤sizeLine/\∀p,H p=none->Q (.ref p) (put H p (.lst (l++m)))
 | _,_=>False
theorem w_ca{a b:Addr}{H:PHp}{Q:VK'}:uCat (.ref a) (.ref b) H Q=∃l m,H a=some (.lst l)/\H b=some (.lst m)/\l.length+m.length≤sizeLine/\∀p,H p=none->Q (.ref p) (put H p (.lst (l++m))):=rfl
theorem vr_cat{K:PySem.W.Frag}:VR K B uCat rCat:=by
 intro σ' σ H' H x' y' x y Q' Q s rx ry h k
 unfold uCat at h
 split at h
 ·rename_i a b
  obtain⟨l,m,e1,e2,hl,h⟩:=h
  simp only[RP]at rx ry
  subst rx;subst ry
  obtain⟨us,q1,r1⟩:=s.hp _ _ e1
  obtain⟨ws,q2,r2⟩:=s.hp _ _ e2
  refine⟨a,b,us,ws,rfl,rfl,q1,q2,by rw[RPs.length _ r1,RPs.length _ r2];exact hl,fun p hp=>?_⟩
  exact k _ _ _ _ (h p (s.hp.free hp)) (by simp[RP]) (s.new hp (newL hp (RPs.append _ r1 r2))) (Ev.new hp)
 ·exact h.elim
theorem qe_cat(ha:PE' X B a ta)(hb:PE' X B b tb):PE' X B (.BinOp a .Add b pos) (uOp uCat ta tb):=qe_op op_cat vr_cat ha hb
theorem w_si{a:Addr}{H:PHp}{Q:VK'}:uSortI [.ref a] H Q=∃ns:List Int,H a=some (.lst (ns.map PV.int))/\ns.length<64/\∀(r:Addr) (ms:List Int),H r=none->ms.Perm ns->ms.Pairwise (·≤·)->Q (.ref r) (put H r (.lst (ms.map PV.int))):=rfl
theorem nats_of{F:List Int}(h:∀x∈F,0≤x/\x<6):F.map PV.int=(F.map Int.toNat).map natP:=by
 rw[List.map_map]
 refine List.map_congr_left fun x hx=>?_
 have:=h x hx
 show PV.int x=PV.int ((x.toNat:Nat):Int)
 congr 1
 omega
end U
namespace L2
open PySem PySem.Spec PyProof.Rows
section
variable {κ:Type}[DecidableEq κ]
def valV(kvs:List (κ×V))(k:κ):Option V:=(kvs.find? fun kv=>decide (kv.1=k)).map (·.2)
def putK(kvs:List (κ×V))(k:κ)(v:V):List (κ×V) :=
 if (kvs.any fun kv=>decide (kv.1=k))=true then kvs.map (fun kv=>if kv.1=k then(kv.1,v)else kv)else kvs++[(k,v)]
theorem valV_pos{p:κ×V}{r:List (κ×V)}{k:κ}(e:p.1=k):valV (p::r) k=some p.2:=by simp[valV,List.find?_cons,e]
theorem valV_neg{p:κ×V}{r:List (κ×V)}{k:κ}(e:¬p.1=k):valV (p::r) k=valV r k:=by simp[valV,List.find?_cons,e]
theorem valV_any(k:κ):∀kvs:List (κ×V),(kvs.any fun kv=>decide (kv.1=k))=(valV kvs k).isSome
 | []=>rfl
 | p::r=>by
  rw[List.any_cons]
  by_cases e:p.1=k
  ·simp only[valV_pos e,decide_eq_true e,Bool.true_or,Option.isSome_some]
  ·rw[valV_neg e,decide_eq_false e,Bool.false_or];exact valV_any k r
theorem length_putK(kvs:List (κ×V))(k:κ)(v:V):(putK kvs k v).length≤kvs.length+1:=by
 unfold putK
 split
 ·rw[List.length_map];omega
 ·rw[List.length_append,List.length_cons,List.length_nil];omega
theorem putK_new{kvs:List (κ×V)}{k:κ}(v:V)(h:valV kvs k=none):putK kvs k v=kvs++[(k,v)]:=by
 unfold putK
 rw[valV_any,h]
 exact if_neg (by decide)
theorem RelO.isSome_eq{o:Option V}{u:Option Value}(r:RelO o u):o.isSome=u.isSome:=by
 cases o with
 | none=>cases u with
  | none=>rfl
  | some _=>exact(show False from r).elim
 | some _=>cases u with
  | none=>exact(show False from r).elim
  | some _=>rfl
theorem KV.val{kvs:List (κ×V)}{vs:List (κ×Value)}(r:KV kvs vs)(k:κ):RelO (valV kvs k) (valueAt vs k):=by
 unfold KV at r
 induction r with
 | nil=>exact True.intro
 | @cons p q ps qs h t ih =>
  obtain⟨h1,h2⟩:=h
  by_cases e:p.1=k
  ·have e':q.1=k:=h1.symm.trans e
   have b:valueAt (q::qs) k=some q.2:=by simp[valueAt,List.find?_cons,e']
   rw[valV_pos e,b];exact h2
  ·have e':¬q.1=k:=fun z=>e (h1.trans z)
   have b:valueAt (q::qs) k=valueAt qs k:=by simp[valueAt,List.find?_cons,e']
   rw[valV_neg e,b];exact ih
theorem KV.any{kvs:List (κ×V)}{vs:List (κ×Value)}(r:KV kvs vs)(k:κ):(kvs.any fun kv=>decide (kv.1=k))=vs.any fun kv=>decide (kv.1=k):=by
 unfold KV at r
 induction r with
 | nil=>rfl
 | cons h t ih=>rw[List.any_cons,List.any_cons,ih,h.1]
theorem KV.repl{kvs:List (κ×V)}{vs:List (κ×Value)}(r:KV kvs vs)(k:κ){y:V}{u:Value}(ry:RelV y u) :
  KV (kvs.map fun kv=>if kv.1=k then(kv.1,y)else kv) (vs.map fun kv=>if kv.1=k then(kv.1,u)else kv):=by
 unfold KV at r ⊢
 induction r with
 | nil=>exact .nil
 | @cons p q ps qs h t ih =>
  rw[List.map_cons,List.map_cons]
  refine .cons ?_ ih
  obtain⟨h1,h2⟩:=h
  by_cases e:p.1=k
  ·rw[if_pos e,if_pos (h1.symm.trans e)];exact⟨h1,ry⟩
  ·rw[if_neg e,if_neg (fun z=>e (h1.trans z))];exact⟨h1,h2⟩
theorem KV.put{kvs:List (κ×V)}{vs:List (κ×Value)}(r:KV kvs vs)(k:κ){y:V}{u:Value}(ry:RelV y u):KV (putK kvs k y) (stored vs k u):=by
 unfold putK stored
 rw[r.any k]
 by_cases e:(vs.any fun kv=>decide (kv.1=k))=true
 ·rw[if_pos e,if_pos e];exact r.repl k ry
 ·rw[if_neg e,if_neg e];exact Paired.snoc r ⟨rfl,ry⟩
theorem KV.length{kvs:List (κ×V)}{vs:List (κ×Value)}(r:KV kvs vs):kvs.length=vs.length:=Paired.length r
end
theorem kV_is{P:Program}{w:World}{k:Key}{u:Value}(r:RelV (kV k) u):(mixKind P w).is k u=true:=by
 cases k with
 | inl i=>obtain⟨t,e⟩:=(show ∃t,u=Value.int i t from r);subst e;exact mixKind_int P w i t
 | inr x=>obtain⟨t,e⟩:=(show ∃t,u=Value.str x t from r);subst e;exact mixKind_str P w x t
theorem items_are{P:Program}{w:World}:∀{ks:List Key} {us:List Value},Vals (ks.map kV) us->ItemsAre (mixKind P w) ks us
 | [],_,r=>by rw[List.map_nil]at r;cases r;exact .nil
 | k::ks,_,r=>by
  rw[List.map_cons]at r
  cases r with
  | cons h t=>exact .cons (kV_is h) (items_are t)
abbrev KT(H:Hp):List (List Key×V)->List (List Key×Addr×Value)->Prop:=Paired fun p q=>p.1=q.1/\H q.2.1=some (.tup (p.1.map kV))/\RelV p.2 q.2.2
theorem KT.val{H:Hp}{kvs:List (List Key×V)}{xs:List (List Key×Addr×Value)}(r:KT H kvs xs)(k:List Key):RelO (valV kvs k) ((atKey xs k).map (·.2)):=by
 induction r with
 | nil=>exact True.intro
 | @cons p q ps qs h t ih =>
  obtain⟨h1,_,h2⟩:=h
  by_cases e:p.1=k
  ·have e':q.1=k:=h1.symm.trans e
   have b:atKey (q::qs) k=some q.2:=by simp[atKey,List.find?_cons,e']
   rw[valV_pos e,b];exact h2
  ·have e':¬q.1=k:=fun z=>e (h1.trans z)
   have b:atKey (q::qs) k=atKey qs k:=by simp[atKey,List.find?_cons,e']
   rw[valV_neg e,b];exact ih
theorem KT.repl{H:Hp}{kvs:List (List Key×V)}{xs:List (List Key×Addr×Value)}(r:KT H kvs xs)(k:List Key){y:V}{u:Value}(ry:RelV y u) :
  KT H (kvs.map fun kv=>if kv.1=k then(kv.1,y)else kv) (xs.map (putAt k u)):=by
 induction r with
 | nil=>exact .nil
 | @cons p q ps qs h t ih =>
  rw[List.map_cons,List.map_cons]
  refine .cons ?_ ih
  obtain⟨h1,h2,h3⟩:=h
  unfold putAt
  by_cases e:p.1=k
  ·rw[if_pos e,if_pos (h1.symm.trans e)];exact⟨h1,h2,ry⟩
  ·rw[if_neg e,if_neg (fun z=>e (h1.trans z))];exact⟨h1,h2,h3⟩
theorem KT.put{H:Hp}{kvs:List (List Key×V)}{xs:List (List Key×Addr×Value)}(r:KT H kvs xs)(k:List Key){b:Addr}{y:V}{u:Value}(hb:H b=some (.tup (k.map kV)))(ry:RelV y u) :
  KT H (putK kvs k y) (storedH xs k b u):=by
 have e:(kvs.any fun kv=>decide (kv.1=k))=(atKey xs k).isSome:=by
  rw[valV_any,(r.val k).isSome_eq,Option.isSome_map]
 unfold putK storedH
 rw[e]
 by_cases q:(atKey xs k).isSome=true
 ·rw[if_pos q,if_pos q];exact r.repl k ry
 ·rw[if_neg q,if_neg q];exact Paired.snoc r ⟨rfl,hb,ry⟩
theorem KT.keeps{H H':Hp}{kvs:List (List Key×V)}{xs:List (List Key×Addr×Value)}(r:KT H kvs xs)(ht:∀b ys,H b=some (.tup ys)->H' b=some (.tup ys)):KT H' kvs xs :=
 Paired.mapP r fun _ _ z=>⟨z.1,ht _ _ z.2.1,z.2.2⟩
section
variable {P:Program}{w:World}{H:Hp}{h:Heap}{a:Addr}
theorem rd_of{u:HO}(ok:HOk P w H h)(e:Rd H a u):ObjOk P w H h a u:=e.ok ok
theorem dk_rd{kvs:List (Key×V)}(ok:HOk P w H h)(e:Rd H a (.dK kvs)):kvs.length≤sizeLine/\(a==sysModules)=false/\∃vs,KV kvs vs/\h.DictOf (mixKind P w) a vs :=
 show ObjOk P w H h a (.dK kvs)from rd_of ok e
theorem dk_of{kvs:List (Key×V)}(ok:HOk P w H h)(e:H a=some (.dK kvs)):kvs.length≤sizeLine/\(a==sysModules)=false/\∃vs,KV kvs vs/\h.DictOf (mixKind P w) a vs:=dk_rd ok (.inl e)
theorem key_of{ks:List Key}(ok:HOk P w H h)(e:H a=some (.tup (ks.map kV))):(tupleKind (mixKind P w)).is h ks a:=by
 obtain⟨_,its,r,o,h1,h2,n,h3⟩:=(show ObjOk P w H h a (.tup (ks.map kV))from ok a _ e)
 exact⟨o,its.toArray,n,h1,h2,h3,by simpa using items_are r⟩
theorem dt_rd{kvs:List (List Key×V)}(ok:HOk P w H h)(e:Rd H a (.dT kvs)):kvs.length≤sizeLine/\(a==sysModules)=false /\
  ∃xs,KT H kvs xs/\h.DictOfH (tupleKind (mixKind P w)) a xs:=by
 obtain⟨z,y,xs,r,o,es,ep,h1,h2,h3,h4,h5⟩:=(show ObjOk P w H h a (.dT kvs)from rd_of ok e)
 refine⟨z,y,xs,r,o,es,ep,h1,h2,h3,h4,fun x hx=>?_,h5⟩
 have all:∀{l:List (List Key×V)} {m:List (List Key×Addr×Value)},KT H l m->∀x∈m,(tupleKind (mixKind P w)).is h x.1 x.2.1:=by
  intro l m q
  induction q with
  | nil=>intro x hx;exact nomatch hx
  | @cons p q ps qs hq t ih =>
   intro x hx
   rcases List.mem_cons.mp hx with e | hx
   ·subst e
    exact key_of ok (by rw[←hq.1];exact hq.2.1)
   ·exact ih x hx
 exact all r x hx
theorem dt_of{kvs:List (List Key×V)}(ok:HOk P w H h)(e:H a=some (.dT kvs)):kvs.length≤sizeLine/\(a==sysModules)=false /\
  ∃xs,KT H kvs xs/\h.DictOfH (tupleKind (mixKind P w)) a xs:=dt_rd ok (.inl e)
end
def DGet(H:Hp)(a:Addr)(y:V)(r:Option V):Prop :=
 (∃kvs k,Rd H a (.dK kvs)/\y=kV k/\r=valV kvs k)∨∃kvs k b,Rd H a (.dT kvs)/\y=.ref b/\H b=some (.tup (k.map kV))/\r=valV kvs k
def DPut(H:Hp)(a:Addr)(y v:V)(H':Hp):Prop :=
 (∃kvs k,H a=some (.dK kvs)/\y=kV k/\kvs.length<sizeLine/\H'=upd H a (.dK (putK kvs k v))) ∨
 ∃kvs k b,H a=some (.dT kvs)/\y=.ref b/\H b=some (.tup (k.map kV))/\kvs.length<sizeLine/\H'=upd H a (.dT (putK kvs k v))
theorem DGet.k{H:Hp}{a:Addr}{kvs:List (Key×V)}{k:Key}(e:H a=some (.dK kvs)):DGet H a (kV k) (valV kvs k):=.inl ⟨kvs,k,.inl e,rfl,rfl⟩
theorem DPut.k{H:Hp}{a:Addr}{kvs:List (Key×V)}{k:Key}{v:V}(e:H a=some (.dK kvs))(hl:kvs.length<sizeLine):DPut H a (kV k) v (upd H a (.dK (putK kvs k v))):=.inl ⟨kvs,k,e,rfl,hl,rfl⟩
section
variable {X:Cx}{pins:List (Addr×Obj)}{σ:St}{H:Hp}{s:Shared}{a:Addr}{y v:V}{u r:Value}{o:Option V}{A:Around}{E:Value->Shared->Prop}
theorem Inv.big(I:Inv X pins σ H s):sysModules<s.heap.objs.size:=by
 have h:mainGlobals<s.heap.objs.size:=(I.mod.glob.keeps I.bk).lt
 exact Nat.lt_trans (by decide) h
theorem d_notIn{Q:Value->Shared->Prop}(hu:A.units+1<cLine)(I:Inv X pins σ H s)(g:DGet H a y o)(ry:RelV y u)(h:∀s',Inv X pins σ H s'->Q (.bool (!o.isSome)) s') :
  wpAny (model X.prog X.w) A (compareOp .NotIn u (.ref a)) Q E s:=by
 rcases g with⟨kvs,k,e,ey,l⟩ |⟨kvs,k,b,e,ey,eb,l⟩
 ·subst ey
  obtain⟨z,hd,vs,rel,dd⟩:=dk_rd I.hok e
  refine wpAny_notIn_of (kV_is ry) hd dd.mapOf ?_
  rw[←(rel.val k).isSome_eq,← l]
  exact h _ (I.tok _)
 ·subst ey
  cases (show u=Value.ref b from ry)
  obtain⟨z,hd,xs,rel,dd⟩:=dt_rd I.hok e
  refine wpAny_notIn_heap (tupleKind_room_in1 hu) (key_of I.hok eb) hd dd ?_
  have q:=(rel.val k).isSome_eq
  rw[Option.isSome_map]at q
  rw[←q,← l]
  exact h _ (I.tok _)
theorem d_write{h':Heap}{t':Nat}{ob:HO}(I:Inv X pins σ H s)(mu:Mut (H a))(hs:Heap.SameBut a s.heap h')(he:∃q,h'.get? a=some q)(new:ObjOk X.prog X.w (upd H a ob) h' a ob) :
  Inv X pins σ (upd H a ob) { s with heap:=h',toks:=t' } :=
 I.write (x:=a) (e:=a) mu (.inl rfl) (fun b q hb z=>(hs.2 b hb).trans z) he new
theorem dk_new{P:Program}{w:World}{H':Hp}{h':Heap}{kvs:List (Key×V)}{vs:List (Key×Value)}(z:kvs.length≤sizeLine)(hd:(a==sysModules)=false)(rel:KV kvs vs)(dd:h'.DictOf (mixKind P w) a vs) :
  ObjOk P w H' h' a (.dK kvs):=⟨z,hd,vs,rel,dd⟩
theorem d_setItem{H':Hp}{Q:Unit->Shared->Prop}(hu:A.units+1<cLine)(I:Inv X pins σ H s)(g:DPut H a y v H')(ry:RelV y u)(rv:RelV v r)(h:∀s',Inv X pins σ H' s'->Q () s') :
  wpAny (model X.prog X.w) A (setItem (.ref a) u r) Q E s:=by
 rcases g with⟨kvs,k,e,ey,l,eH⟩ |⟨kvs,k,b,e,ey,eb,l,eH⟩
 ·subst ey eH
  obtain⟨z,hd,vs,rel,dd⟩:=dk_of I.hok e
  have hz:vs.length≤sizeLine:=by rw[←rel.length];exact z
  have hl:(putK kvs k v).length≤sizeLine:=by have:=length_putK kvs k v;omega
  refine wpAny_setItem_pairs (hsz:=hz) (kV_is ry) dd fun h' dd' hs=>h _ ?_
  have he:∃q,h'.get? a=some q:=let ⟨q,_,_,hq,_⟩:=dd';⟨q,hq⟩
  exact d_write I (by rw[e];exact True.intro) hs he (dk_new hl hd (rel.put k rv) dd')
 ·subst ey eH
  cases (show u=Value.ref b from ry)
  obtain⟨z,hd,xs,rel,dd⟩:=dt_of I.hok e
  have hz:xs.length≤sizeLine:=by rw[←Paired.length rel];exact z
  have hl:(putK kvs k v).length≤sizeLine:=by have:=length_putK kvs k v;omega
  refine wpAny_setItem_heap (hsz:=hz) (tupleKind_room_in1 hu) (key_of I.hok eb) dd fun h' dd' hs=>h _ ?_
  obtain⟨q,es,ep,hq,h2,h3,h4,_,h5⟩:=dd'
  refine d_write I (by rw[e];exact True.intro) hs ⟨q,hq⟩ ⟨hl,hd,_,(rel.put k eb rv).keeps fun c ys ec=>?_,q,es,ep,hq,h2,h3,h4,h5⟩
  rw[upd_ne (ne_of ec e (fun z=>nomatch z))]
  exact ec
end
section
variable {X:Cx}{pins:List (Addr×Obj)}{σ:St}{H:Hp}{s:Shared}{a:Addr}{kvs:List (Key×V)}{k:Key}{u:Value}{A:Around}{E:Value->Shared->Prop}
end
def tDNotIn(ty td:TE):TE:=fun σ H Q=>ty σ H fun y H1=>td σ H1 fun x H2=>∃a o,x=.ref a/\DGet H2 a y o/\Q (.bl (!o.isSome)) H2
def sDPut(td ty tv:TE):TS:=fun D σ H=>tv σ H fun v H1=>td σ H1 fun x H2=>ty σ H2 fun y H3=>∃a H4,x=.ref a/\DPut H3 a y v H4/\D.nx σ H4
section
variable {X:Cx}{o i e value:Expr}{pos pos' tpos:Pos}{td ty tv:TE}
theorem pc_dnotin(hu:X.A.units+1<cLine)(hi:PE X i ty)(ho:PE X o td):PC X .NotIn i o (tDNotIn ty td):=by
 intro pins s σ H Q I h
 refine thn (hi pins s σ H _ I h) fun iv s1 ⟨y,H1,I1,ry,q1⟩=>thn (ho pins s1 σ H1 _ I1 q1) fun u s2 ⟨x,H2,I2,rx,a,ov,ex,g,q2⟩=>?_
 subst ex
 obtain rfl:u=Value.ref a:=rx
 exact d_notIn hu I2 g ry fun s3 I3=>⟨.bl (!ov.isSome),H2,I3,rfl,q2⟩
theorem ps_dput(hu:X.A.units+1<cLine)(ho:PE X o td)(hi:PE X i ty)(hv:PE X value tv)(hs:swapsWith value (some (.Subscript o i pos')) pos.line X.env=pure false) :
  PS X (.Assign [.Subscript o i pos'] value pos) (sDPut td ty tv):=by
 intro pins s σ H D I h
 refine wpAny_Assign_Subscript (thn (hv pins s σ H _ I h) fun r s1 ⟨v,H1,I1,rv,q1⟩=>thn (ho pins s1 σ H1 _ I1 q1) fun u s2 ⟨x,H2,I2,rx,q2⟩=>thn (hi pins s2 σ H2 _ I2 q2) fun iv s3 ⟨y,H3,I3,ry,a,H4,ex,g,q3⟩=>?_) hs
 subst ex
 obtain rfl:u=Value.ref a:=rx
 exact d_setItem hu I3 g ry rv fun s4 I4=>⟨σ,H4,I4,q3⟩
end
theorem dk_empty{P:Program}{w:World}{H:Hp}(h:Heap)(hb:sysModules<h.objs.size):ObjOk P w H (h.push { cls:=.type "dict",data:=.dict #[] }) h.objs.size (.dK []) :=
 ⟨Nat.zero_le _,beq_eq_false_iff_ne.mpr (Ne.symm (Nat.ne_of_lt hb)),[],.nil,Heap.DictOf.new h⟩
section
variable {X:Cx}{pos:Pos}
end
def tPairs:List (TE×TE)->St->Hp->(List (V×V)->Hp->Prop)->Prop
 | [],_,H,Q=>Q [] H
 |(tk,tv)::r,σ,H,Q=>tk σ H fun x H1=>tv σ H1 fun y H2=>tPairs r σ H2 fun ps H3=>Q ((x,y)::ps) H3
abbrev VV:List (V×V)->List (Value×Value)->Prop:=Paired fun p q=>RelV p.1 q.1/\RelV p.2 q.2
def PPs(X:Cx)(pos:Pos)(keys:List (Option Expr))(values:List Expr)(trs:List (TE×TE)):Prop :=
 ∀(pins:List (Addr×Obj)) (s:Shared) (σ:St) (H:Hp) (Q:List (V×V)->Hp->Prop),Inv X pins σ H s->tPairs trs σ H Q ->
  wpAny (model X.prog X.w) X.A (evalPairs (pairTrees keys values X.env pos)) (fun vs s'=>∃ps H',Inv X pins σ H' s'/\VV ps vs/\Q ps H') X.xe s
theorem pps_nil{X:Cx}{pos:Pos}:PPs X pos [] [] []:=fun pins s σ H Q I h=>pairTrees_nil_walk ⟨[],H,I,.nil,h⟩
theorem pps_cons{X:Cx}{pos:Pos}{k v:Expr}{ks:List (Option Expr)}{vs:List Expr}{tk tv:TE}{trs:List (TE×TE)}(hk:PE X k tk)(hv:PE X v tv)(hr:PPs X pos ks vs trs) :
  PPs X pos (some k::ks) (v::vs) ((tk,tv)::trs):=fun pins s σ H Q I h =>
 pairTrees_cons_walk (thn (hk pins s σ H _ I h) fun u s1 ⟨x,H1,I1,rx,q1⟩=>thn (hv pins s1 σ H1 _ I1 q1) fun w2 s2 ⟨y,H2,I2,ry,q2⟩ =>
  thn (hr pins s2 σ H2 _ I2 q2) fun ws s3 ⟨ps,H3,I3,rel,q3⟩=>⟨(x,y)::ps,H3,I3,.cons ⟨rx,ry⟩ rel,q3⟩)
def mergeK(kvs more:List (Key×V)):List (Key×V):=more.foldl (fun acc kv=>putK acc kv.1 kv.2) kvs
theorem KV.merge:∀{more:List (Key×V)} {rs:List (Key×Value)} {kvs:List (Key×V)} {vs:List (Key×Value)},KV more rs->KV kvs vs->KV (mergeK kvs more) (merged vs rs):=by
 intro more rs kvs vs r
 unfold KV at r
 induction r generalizing kvs vs with
 | nil=>intro q;exact q
 | @cons p q ps qs h t ih =>
  intro r0
  have e:KV (putK kvs p.1 p.2) (stored vs q.1 q.2):=by
   have:=r0.put p.1 h.2
   rw[←h.1];exact this
  exact ih e
theorem length_mergeK:∀(more kvs:List (Key×V)),(mergeK kvs more).length≤kvs.length+more.length
 | [],kvs=>by show kvs.length≤kvs.length+0;omega
 | p::r,kvs=>by
  have h1:=length_mergeK r (putK kvs p.1 p.2)
  have h2:=length_putK kvs p.1 p.2
  show(mergeK (putK kvs p.1 p.2) r).length≤_
  rw[List.length_cons];omega
theorem carries_of{P:Program}{w:World}:∀{kvs:List (Key×V)} {ws:List (Value×Value)},VV (kvs.map fun kv=>(kV kv.1,kv.2)) ws->∃rs,Carries (mixKind P w) ws rs/\KV kvs rs
 | [],_,r=>by rw[List.map_nil]at r;cases r;exact⟨[],True.intro,.nil⟩
 | p::kvs,_,r=>by
  rw[List.map_cons]at r
  cases r with
  | @cons a b as bs h t =>
   obtain⟨rs,c,q⟩:=carries_of (P:=P) (w:=w) t
   obtain⟨b1,b2⟩:=b
   exact⟨(p.1,b2)::rs,⟨kV_is h.1,rfl,c⟩,.cons ⟨rfl,h.2⟩ q⟩
def tDisp(trs:List (TE×TE)):TE:=fun σ H Q=>∀p,H p=none->tPairs trs σ (upd H p (.dK [])) fun ps H2=>H2 p=some (.dK [])/\∃kvs:List (Key×V),ps=kvs.map (fun kv=>(kV kv.1,kv.2))/\kvs.length≤15/\Q (.ref p) (upd H2 p (.dK (mergeK [] kvs)))
theorem pe_disp{X:Cx}{pos:Pos}{keys:List (Option Expr)}{values:List Expr}{trs:List (TE×TE)}(h:PPs X pos keys values trs)(hall:keys.all (·.isSome)=true)(hl:keys.length=values.length)(h0:keys≠[])
  (h15:keys.length≤15):PE X (.Dict keys values pos) (tDisp trs):=by
 intro pins s σ H Q I q
 have hn:=I.hok.fresh (Nat.le_refl s.heap.objs.size)
 have I1:=I.laid (a:=s.heap.objs.size) (o:=.dK []) (h':=s.heap.push { cls:=.type "dict",data:=.dict #[] }) (t':=s.toks) (fun _ _ q=>Heap.get?_push_of_some _ q) (Nat.le_refl _) (dk_empty s.heap I.big)
 refine wpAny_Dict_walk (knd:=mixKind X.prog X.w) hall hl h0 h15 (thn (h pins _ σ _ _ I1 (q _ hn)) fun ws s2 ⟨ps,H2,I2,rel,e,kvs,ep,lk,q2⟩=>?_)
 subst ep
 obtain⟨rs,c,rk⟩:=carries_of (P:=X.prog) (w:=X.w) rel
 obtain⟨z,hd,vs0,r0,dd⟩:=dk_of I2.hok e
 cases r0
 refine⟨rs,c,dd,fun h' dd' hs=>⟨.ref s.heap.objs.size,_,?_,rfl,q2⟩⟩
 have hz:(mergeK [] kvs).length≤sizeLine:=by
  have h1:=length_mergeK kvs []
  rw[List.length_nil]at h1
  rw[sizeLine_eq];omega
 have he:∃q,h'.get? s.heap.objs.size=some q:=let ⟨q,_,_,hq,_⟩:=dd';⟨q,hq⟩
 exact d_write I2 (by rw[e];exact True.intro) hs he (dk_new hz hd (rk.merge .nil) dd')
end L2
set_option linter.all false
set_option maxRecDepth 100000
set_option maxHeartbeats 4000000
namespace SI
open PySem PyProof.Rows
section
variable {prog:Program}{w:World}{A:Around}{E:Value->Shared->Prop}{s:Shared}{T:String}{r d:Addr}{n:Nat}{P:Nat->Value->Prop}{OK:Heap->Prop}
theorem collect_src{Q:List Value->Shared->Prop}(K:PySem.W.KdlSrc prog w T r d n P OK)(hh:A.handled=none)(ho:OK s.heap)(hn:n≤sizeLine)
  (h:∀h' tk vs,s.heap.objs.size<h'.objs.size->(∀b o,s.heap.get? b=some o->h'.get? b=some o)->vs.length=n->(∀(j:Nat) (v:Value),vs[j]?=some v->P j v)->Q vs { s with heap:=h',toks:=tk }):wpAny (model prog w) A (collect (.ref r)) Q E s:=by
 obtain⟨hr,hd⟩:=K.there _ ho
 generalize hN:s.heap.objs.size=N
 have n1:N≠r:=by rw[←hN];exact Nat.ne_of_gt hr
 have n2:N≠d:=by rw[←hN];exact Nat.ne_of_gt hd
 have key:∀R:Result->Shared->Prop,(∀h' tk acc c,(∀b o,s.heap.get? b=some o->h'.get? b=some o)->h'.get? N=some { cls:=.type "list",dict:=none,data:=.seq acc c,slots:=#[] } ->
   ItemsOf P acc n->R (.ok (.ret (.ref N))) { s with heap:=h',toks:=tk })->codeAny (model prog w) A (.builtin "proto.collect" ⟨[.ref r],[]⟩) R s:=by
  intro R hR
  refine codeAny_builtin PyProof.Rows.entry_proto_collect' ?_
  rw[Around.under_plainId PySem.F.plain_proto_collect _]
  show wpAny (model prog w) A.in1 (newList [] >>= fun l=>again (.builtin "list.__iadd__" ⟨[l,.ref r],[]⟩)) _ _ s
  refine wpAny_bind (wpAny_newObj_type (wpAny_pure ⟨plainId_quiet PySem.F.plain_list_iadd _,codeAny_builtin PySem.F.entry_list_iadd ?_⟩))
  rw[Around.under_plainId PySem.F.plain_list_iadd _,hN]
  show wpAny (model prog w) A.in1 (Builtin.List.listExtendWith (.ref N) (.ref r) (.ref N)) _ _ _
  have hS:(s.heap.push { cls:=.type "list",data:=.seq ([]:List Value).toArray }).get? N=some { cls:=.type "list",data:=.seq #[] 0 }:=by rw[←hN];exact Heap.get?_push_size _ rfl
  refine PySem.W.kdl_extend (s:={ s with heap:=s.heap.push { cls:=.type "list",data:=.seq ([]:List Value).toArray } }) K (by simpa using hh) (K.keep _ _ ho fun b _ o e=>Heap.get?_push_of_some _ e) N n1 n2 (.ref N) 0 hS (fun h' tk acc c kp hS' hacc=>?_) hn
  exact hR h' tk acc c (fun b o q=>kp b o (by rw[←hN];exact Nat.ne_of_lt (Heap.lt_size q)) (Heap.get?_push_of_some _ q)) hS' hacc
 unfold collect
 refine wpAny_bind (wpAny_runValue (key _ fun h' tk acc c kp hS' hacc=>?_))
 show wpAny (model prog w) A (load N >>= _) _ _ _
 refine wpAny_bind (wpAny_load hS' (wpAny_pure ?_))
 exact h h' tk acc.toList (by rw[hN];exact Heap.lt_size hS') kp (by rw[Array.length_toList];exact hacc.1) fun j v e=>hacc.2 j v (by rw[←Array.getElem?_toList];exact e)
theorem sorted_src{ks:List Int}{Q:Value->Shared->Prop}(K:PySem.W.KdlSrc prog w T r d n P OK)(hh:A.handled=none)(ho:OK s.heap)(hn:n<64)(hk:∀vs:List Value,vs.length=n->(∀(j:Nat) (v:Value),vs[j]?=some v->P j v)->IntsAre vs ks)
  (h:∀(q:Addr) (h':Heap) (tk m:Nat) (out:List Value) (ms:List Int),s.heap.objs.size≤q->(∀b o,s.heap.get? b=some o->h'.get? b=some o)->h'.get? q=some (seqObj "list" out.toArray m)->IntsAre out ms->ms.Pairwise (·≤·)->ms.Perm ks->Q (.ref q) { s with heap:=h',toks:=tk }) :
  wpAny (model prog w) A (call (.builtin "sorted") [.ref r]) Q E s:=by
 refine Calls.call_function_entry kind_sorted plain_sorted entry_sorted (args_sorted1 _) ?_
 unfold Builtin.«sorted»
 refine wpAny_bind (m:=checkCount "sorted" 1 1 _) (wpAny_pure (wpAny_bind (collect_src K (by simpa using hh) ho (by rw[sizeLine_eq];omega) fun h1 tk1 vs hgt k1 hlen hP=>?_)))
 have hi:=hk vs hlen hP
 refine wpAny_bind (wpAny_newList ?_ (by rw[hlen,sizeLine_eq];omega))
 have hoL:(h1.push (seqObj "list" vs.toArray 0)).get? h1.objs.size=some (seqObj "list" vs.toArray 0):=Heap.get?_push_size _ rfl
 show wpAny (model prog w) _ _ _ _ { s with heap:=h1.push (seqObj "list" vs.toArray 0),toks:=tk1 }
 refine wpAny_bind (wpAny_holding (wpAny_call_entry slot_list_sort ⟨_,hoL,rfl⟩ entry_list_sort (list_sort_tree hoL hi (by omega) fun out ms a1 a2 a3=>⟨_,rfl,?_⟩) (args_list_sort _)))
 obtain⟨e,he2⟩:=sortedHeap_at (out:=out) hoL
 refine wpAny_pure ⟨_,rfl,h h1.objs.size (sortedHeap (h1.push (seqObj "list" vs.toArray 0)) h1.objs.size vs out) tk1 e out.toList ms (Nat.le_of_lt hgt) (fun b o q=>?_) (by simpa using he2) a1 a3 a2⟩
 rw[sortedHeap_old (Nat.ne_of_lt (Heap.lt_size (k1 b o q))) (by rw[Heap.size_push];exact Nat.lt_succ_of_lt (Heap.lt_size (k1 b o q)))]
 exact Heap.get?_push_of_some _ (k1 b o q)
end
end SI
set_option linter.all false
set_option maxRecDepth 100000
set_option maxHeartbeats 4000000
namespace L2
open PySem PySem.Spec PyProof.Rows
variable {X:Cx}
def dkV(ks:List Int):List (Key×V):=ks.map fun n=>(Sum.inl n,V.bl true)
theorem valV_dk{n:Int}:∀{ks:List Int},(valV (dkV ks) (Sum.inl n)).isSome=decide (n∈ks)
 | []=>rfl
 | k::ks=>by
  have ih:=valV_dk (n:=n) (ks:=ks)
  by_cases h:k=n
  ·subst h
   rw[show dkV (k::ks)=(Sum.inl k,V.bl true)::dkV ks from rfl,valV_pos rfl]
   simp
  ·rw[show dkV (k::ks)=(Sum.inl k,V.bl true)::dkV ks from rfl,valV_neg (by simpa using h),ih]
   have:n≠k:=fun e=>h e.symm
   simp[this]
theorem putK_dk{n:Int}{ks:List Int}(h:n∉ks):putK (dkV ks) (Sum.inl n) (V.bl true)=dkV (ks++[n]):=by
 have hn:valV (dkV ks) (Sum.inl n)=none:=by
  have:=valV_dk (n:=n) (ks:=ks)
  cases q:valV (dkV ks) (Sum.inl n)with
  | none=>rfl
  | some v=>rw[q]at this;simp[h]at this
 rw[putK_new _ hn]
 unfold dkV
 rw[List.map_append]
 rfl
theorem call_sortD(hc:X.calm=true):CallR X (.builtin "sorted") (fun xs H Q=>∃(a:Addr) (ks:List Int),xs=[.ref a]/\H a=some (.dK (dkV ks))/\ks.length<64/\∀(r:Addr) (ms:List Int),H r=none->ms.Pairwise (·≤·)->ms.Perm ks->Q (.ref r) (upd H r (.lst (ms.map V.int)))):=by
 intro pins s σ H xs us Q I r h
 obtain⟨a,ks,rfl,ha,hl,q⟩:=h
 obtain⟨u,rfl,ru⟩:=Vals.one r
 cases ru
 obtain⟨hz,hd,vs,rk,dd⟩:=(show ObjOk X.prog X.w H s.heap a (.dK (dkV ks))from I.hok a _ ha)
 obtain⟨ep,da⟩:=dd.dictAt
 have hlen:vs.length=ks.length:=by
  have:=Paired.length rk
  unfold dkV at this
  rw[List.length_map]at this
  exact this.symm
 have hkey:∀(j:Nat) (k:Key) (x:Value),vs[j]?=some (k,x)->k=Sum.inl (ks.getD j 0):=by
  have gen:∀(ks:List Int) (vs:List (Key×Value)),KV (dkV ks) vs->∀(j:Nat) (k:Key) (x:Value),vs[j]?=some (k,x)->k=Sum.inl (ks.getD j 0):=by
   intro ks
   induction ks with
   | nil=>intro vs h j k x e;cases h;simp at e
   | cons n ks ih =>
    intro vs h j k x e
    cases h with
    | cons h t =>
     cases j with
     | zero=>simp at e;subst e;exact h.1.symm
     | succ j=>simpa using ih _ t j k x (by simpa using e)
  exact gen ks vs rk
 refine SI.sorted_src (ks:=ks) (PySem.W.kdl_dict hd) (I.ok.hd hc) da (by omega) (fun ws hw hP=>?_) fun r h' tk m out ms hge kp ho hi hs hp=>?_
 ·have gen:∀(ks:List Int) (ws:List Value),ws.length=ks.length->(∀(j:Nat) (v:Value),ws[j]?=some v->∃t,v=Value.int (ks.getD j 0) t)->IntsAre ws ks:=by
   intro ks
   induction ks with
   | nil=>intro ws h _;have:ws=[]:=List.length_eq_zero_iff.mp h;subst this;exact .nil
   | cons n ks ih =>
    intro ws h hv
    cases ws with
    | nil=>simp at h
    | cons v ws =>
     obtain⟨t,e⟩:=hv 0 v rfl
     have e':v=Value.int n t:=by simpa using e
     subst e'
     exact .cons _ _ (ih ws (by simpa using h) fun j u hu=>by simpa using hv (j+1) u (by simpa using hu))
  refine gen ks ws (by omega) fun j v e=>?_
  obtain⟨k,x,e1,e2⟩:=hP j v e
  rw[hkey j k x e1]at e2
  have e3:Value.isInt (ks.getD j 0) v=true:=e2
  cases v with
  | int i t =>
   have:i=ks.getD j 0:=by simpa[Value.isInt]using e3
   exact⟨t,by rw[this]⟩
  | _=>simp[Value.isInt]at e3
 ·have hn:H r=none:=I.hok.fresh hge
  have hlm:ms.length=ks.length:=hp.length_eq
  refine⟨.ref r,_,I.laid (t':=tk) (o:=.lst (ms.map V.int)) (fun b o e=>kp b o e) hge ?_,rfl,q r ms hn hs hp⟩
  exact⟨by rw[List.length_map,sizeLine_eq];omega,out,m,vals_ints hi,ho⟩
end L2
namespace U
open PySem PySem.Spec PyProof.Rows L2
variable {B:Bs}{X:Cx}{a b o i value:Expr}{ta tb td ty:TE'}{pos pos':Pos}
def dkP(ks:List Int):PO:=.dK (ks.map fun n=>(Sum.inl n,PV.bl true))
theorem frel_dk{K:PySem.W.Frag}{H:Hp}:∀{ks:List Int} {ws:List (Key×V)},FRel K H (ks.map fun n=>((Sum.inl n:Key),PV.bl true)) ws->ws=dkV ks
 | [],_,.nil=>rfl
 | n::ks,(k,v)::ws,.cons h t=>by
  obtain⟨h1,h2⟩:=h
  simp only[RP]at h2
  dsimp only at h1 h2
  subst h1;subst h2
  rw[frel_dk t];rfl
theorem dk_frel{K:PySem.W.Frag}{H:Hp}:∀{ks:List Int},FRel K H (ks.map fun n=>((Sum.inl n:Key),PV.bl true)) (dkV ks)
 | []=>.nil
 | n::ks=>.cons ⟨rfl,by simp[RP]⟩ dk_frel
def disp1(p:Addr)(x:PV)(H:PHp)(Q:VK'):Prop:=match x with
 | .int n=>H p=some (.dK [])/\Q (.ref p) (put H p (dkP [n]))
 | _=>False
def uDisp1(ta:TE'):TE':=fun σ H Q=>∀p,H p=none->ta σ (put H p (.dK [])) fun x H1=>disp1 p x H1 Q
theorem w_di{p:Addr}{n:Int}{H:PHp}{Q:VK'}:disp1 p (.int n) H Q=(H p=some (.dK [])/\Q (.ref p) (put H p (dkP [n]))):=rfl
theorem qe_disp1{j:Nat}{bpos:Pos}(ha:PE' X B a ta):PE' X B (.Dict [some a] [.Constant (.bool true) j bpos] pos) (uDisp1 ta) :=
 pe_imp (pe_disp (pps_cons ha pe_bl pps_nil) rfl rfl (by simp) (by simp)) fun σ H Q ⟨σ',H',Q',s,h,k⟩=>by
  intro p hp
  have h1:=h p (s.hp.free hp)
  have new:OAt X.K (upd H p (.dK [])) p (.dK []):=⟨[],upd_same,.nil⟩
  have s1:=s.new hp new
  refine⟨σ',_,_,s1,h1,fun x' H1' x H1 h2 rx s2 e2=>?_⟩
  show _/\_
  unfold disp1 at h2
  split at h2
  ·rename_i n
   obtain⟨e,q⟩:=h2
   simp only[RP]at rx
   subst rx
   obtain⟨ws,e3,fr⟩:=s2.hp _ _ e
   cases fr
   refine⟨e3,[(Sum.inl n,V.bl true)],rfl,by simp,?_⟩
   have new2:OAt X.K (upd H1 p (.dK (dkV [n]))) p (dkP [n]):=⟨_,upd_same,dk_frel⟩
   exact k _ _ _ _ q (by simp[RP]) (s2.wr e new2) ((Ev.new hp).trans (e2.trans (Ev.wr e)))
  ·exact h2.elim
def notInD(y x:PV)(H:PHp)(Q:VK'):Prop:=match y,x with
 | .int n,.ref a=>∃ks,H a=some (dkP ks)/\Q (.bl (!decide (n∈ks))) H
 | _,_=>False
def uNotInD(ty td:TE'):TE':=fun σ H Q=>ty σ H fun y H1=>td σ H1 fun x H2=>notInD y x H2 Q
theorem w_nd{n:Int}{a:Addr}{H:PHp}{Q:VK'}:notInD (.int n) (.ref a) H Q=∃ks,H a=some (dkP ks)/\Q (.bl (!decide (n∈ks))) H:=rfl
theorem qt_notInD(hu:X.A.units+64<cLine)(hi:PE' X B i ty)(ho:PE' X B o td)(hm:behindInMarks .NotIn o=false:=by with_unfolding_all rfl):PT' X B (.Compare i [.NotIn] [o] pos) (uTest (uNotInD ty td)) :=
 pt_imp (pt_cmp (pc_dnotin (by omega) hi ho) hm) fun σ H Q h=>by
  obtain⟨σ',H',Q',s,h,k⟩:=low_test h
  refine⟨σ',H',_,s,h,fun y' H1' y H1 h1 ry s1 e1=>⟨σ',H1',_,s1,h1,fun x' H2' x H2 h2 rx s2 e2=>?_⟩⟩
  unfold notInD at h2
  split at h2
  ·rename_i n a
   obtain⟨ks,ea,q⟩:=h2
   have ry2:=RP.kp X.K (e2.kp s1.hp) ry
   simp only[RP]at rx ry2
   subst rx;subst ry2
   obtain⟨ws,ew,fr⟩:=s2.hp _ _ ea
   rw[frel_dk fr]at ew
   have:=DGet.k (k:=Sum.inl n) ew
   refine⟨a,_,rfl,this,?_⟩
   rw[valV_dk]
   exact k _ _ _ _ q (by simp[RP]) s2 (e1.trans e2)
  ·exact h2.elim
def putD(y x:PV)(H:PHp)(Q:PHp->Prop):Prop:=match y,x with
 | .int n,.ref a=>∃ks,H a=some (dkP ks)/\n∉ks/\ks.length<1000/\Q (put H a (dkP (ks++[n])))
 | _,_=>False
def uPutD(td ty:TE'):TS':=fun D σ H=>td σ H fun x H1=>ty σ H1 fun y H2=>putD y x H2 fun H3=>D.nx σ H3
theorem w_pd{n:Int}{a:Addr}{H:PHp}{Q:PHp->Prop}:putD (.int n) (.ref a) H Q=∃ks,H a=some (dkP ks)/\n∉ks/\ks.length<1000/\Q (put H a (dkP (ks++[n]))):=rfl
theorem qs_putD{j:Nat}{bpos:Pos}(hu:X.A.units+64<cLine)(ho:PE' X B o td)(hi:PE' X B i ty)(hs:swapsWith (.Constant (.bool true) j bpos) (some (.Subscript o i pos')) pos.line X.env=pure false:=by rfl) :
  PS' X B (.Assign [.Subscript o i pos'] (.Constant (.bool true) j bpos) pos) (uPutD td ty) :=
 ps_imp (ps_dput (by omega) ho hi pe_bl hs) fun D σ H ⟨σ',H',D',s,h,dd⟩=>by
  show(fun _=>_) _
  refine⟨σ',H',_,s,h,fun x' H1' x H1 h1 rx s1 e1=>⟨σ',H1',_,s1,h1,fun y' H2' y H2 h2 ry s2 e2=>?_⟩⟩
  unfold putD at h2
  split at h2
  ·rename_i n a
   obtain⟨ks,ea,hn,hl,q⟩:=h2
   have rx2:=RP.kp X.K (e2.kp s1.hp) rx
   simp only[RP]at rx2 ry
   subst rx2;subst ry
   obtain⟨ws,ew,fr⟩:=s2.hp _ _ ea
   rw[frel_dk fr]at ew
   have hlw:(dkV ks).length<sizeLine:=by unfold dkV;rw[List.length_map];exact small1000 (by omega)
   refine⟨a,_,rfl,DPut.k (k:=Sum.inl n) ew hlw,?_⟩
   rw[putK_dk hn]
   have new:OAt X.K (upd H2 a (.dK (dkV (ks++[n])))) a (dkP (ks++[n])):=⟨_,upd_same,dk_frel⟩
   exact dd.nx _ _ _ _ q (s2.wr ea new) ((e1.trans e2).trans (Ev.wr ea))
  ·exact h2.elim
def uSortD:List PV->PHp->VK'->Prop:=arg1 fun x H Q=>match x with
 | .ref a=>∃ks:List Int,H a=some (dkP ks)/\ks.length<64/\∀(r:Addr) (ms:List Int),H r=none->ms.Pairwise (·≤·)->ms.Perm ks->Q (.ref r) (put H r (.lst (ms.map PV.int)))
 | _=>False
theorem w_sd{a:Addr}{H:PHp}{Q:VK'}:uSortD [.ref a] H Q=∃ks:List Int,H a=some (dkP ks)/\ks.length<64/\∀(r:Addr) (ms:List Int),H r=none->ms.Pairwise (·≤·)->ms.Perm ks->Q (.ref r) (put H r (.lst (ms.map PV.int))):=rfl
theorem vc_sortD{K:PySem.W.Frag}:VC K B uSortD (fun xs H Q=>∃(a:Addr) (ks:List Int),xs=[.ref a]/\H a=some (.dK (dkV ks))/\ks.length<64/\∀(r:Addr) (ms:List Int),H r=none->ms.Pairwise (·≤·)->ms.Perm ks->Q (.ref r) (upd H r (.lst (ms.map V.int)))):=by
 intro σ' σ H' H xs' xs Q' Q s r h k
 obtain⟨x',x,rfl,rfl,rx,h⟩:=arg1.ex h r
 cases x' with
 | ref a =>
  obtain⟨ks,ea,hl,q⟩:=h
  simp only[RP]at rx
  subst rx
  obtain⟨ws,ew,fr⟩:=s.hp _ _ ea
  rw[frel_dk fr]at ew
  refine⟨a,ks,rfl,ew,hl,fun r ms hr h1 h2=>?_⟩
  exact k _ _ _ _ (q r ms (s.hp.free hr) h1 h2) (by simp[RP]) (s.new hr (newL hr ints_rps)) (Ev.new hr)
 | _=>exact h.elim
end U
namespace U
open PySem PySem.Spec PyProof.Rows L2
theorem hl_pop:∀x H Q,uPop x [] H Q->match x with | .ref a=>∃l,H a=some (.lst l) | _=>False:=by
 intro x H Q h
 cases x with
 | ref a=>obtain⟨l,y,e,_⟩:=h;exact⟨l,e⟩
 | _=>exact h
end U
set_option linter.all false
set_option maxRecDepth 100000
set_option maxHeartbeats 4000000
namespace L2
open PySem PySem.Spec PyProof.Rows
variable {X:Cx}
theorem lof_len{ns:List Nat}(hin:∀n∈ns,n<6)(nd:ns.Nodup):(SI.lof ns).length=ns.length:=by
 have h1:=(SI.tab3 _ (SI.lof_subs hin)).2.2.1
 exact((List.perm_ext_iff_of_nodup h1 nd).mpr fun x=>SI.mem_lof).length_eq
theorem call_lenI:CallR X (.builtin "len") (fun xs H Q=>∃(S:Addr) (L:List Nat),xs=[.ref S]/\H S=some (.ext (SetI X.w S L))/\Q (.int L.length) H):=by
 intro pins s σ H xs us Q I r h
 obtain⟨S,L,rfl,hS,q⟩:=h
 obtain⟨u,rfl,ru⟩:=Vals.one r
 cases ru
 obtain⟨P,_,_⟩:=(show ObjOk X.prog X.w H s.heap S (.ext (SetI X.w S L))from I.hok S _ hS)
 obtain⟨hL,es,ep,ho,he⟩:=P.is
 have h6:=(SI.tab3 L hL).2.1
 have hz:=he.size
 have hf:=(SI.tab4 L hL _ (SI.led_in (SI.ledOf X.w))).1
 rw[←hz]at hf q h6
 exact call_len_set ho ⟨rfl,rfl,rfl⟩ rfl hf (by omega) ⟨.int es.size,H,I.tok _,⟨_,rfl⟩,q⟩
end L2
namespace U
open PySem PySem.Spec PyProof.Rows L2
variable {B:Bs}{X:Cx}{a b e:Expr}{ta tb:TE'}{p p2 pos pos2:Pos}
def uShl:R2':=uI CPow fun i j=>.int (i*2 ^ j.toNat)
def uAny:List PV->PHp->VK'->Prop:=arg1 fun x H Q=>match x with
 | .ref a=>∃bs:List Bool,H a=some (.lst (bs.map PV.bl))/\Q (.bl (bs.any id)) H
 | _=>False
theorem w_an{a:Addr}{H:PHp}{Q:VK'}:uAny [.ref a] H Q=∃bs:List Bool,H a=some (.lst (bs.map PV.bl))/\Q (.bl (bs.any id)) H:=rfl
def lenSetI(x:PV)(H:PHp)(Q:VK'):Prop:=match x with
 | .ref a=>∃ns:List Nat,H a=some (.lst (ns.map natP))/\(∀n∈ns,n<6)/\ns.Nodup/\Q (.int ns.length) H
 | _=>False
theorem w_li{a:Addr}{H:PHp}{Q:VK'}:lenSetI (.ref a) H Q=∃ns:List Nat,H a=some (.lst (ns.map natP))/\(∀n∈ns,n<6)/\ns.Nodup/\Q (.int ns.length) H:=rfl
def uLenSetI(ta:TE'):TE':=fun σ H Q=>ta σ H fun x H1=>lenSetI x H1 Q
theorem qe_len_setI(hc:X.calm=true)(hgl:Gl X "len")(hml:X.mg "len"=none)(hgs:Gl X "set")(hms:X.mg "set"=none)(bs:bootBuiltins "set"=some (.type "set"))(ha:PE' X B e ta)
  (he:starEach [.Call (.Name "set" p2) [e] [] pos2] X.env=[(false,eval (.Call (.Name "set" p2) [e] [] pos2) X.env)]:=by rfl) (he2:starEach [e] X.env=[(false,eval e X.env)]:=by rfl) :
  PE' X B (.Call (.Name "len" p) [.Call (.Name "set" p2) [e] [] pos2] [] pos) (uLenSetI ta) :=
 pe_imp (pe_callB call_lenI hgl hml PySem.boot_len (pa_cons (pe_callTy (call_setI hc) hgs hms bs (pa_cons ha pa_nil he2) (by decide) (by decide) he2 rfl) pa_nil he) (by decide) (by decide) he rfl) fun σ H Q h=>by
  obtain⟨σ',H',Q',s,h,k⟩:=h
  refine⟨σ',H',_,s,h,fun x' H1' x H1 h1 rx s1 e1=>?_⟩
  cases x' with
  | ref a =>
   obtain⟨ns,ea,hin,nd,q⟩:=h1
   simp only[RP]at rx
   subst rx
   obtain⟨us,eg,r2⟩:=s1.hp _ _ ea
   rw[rps_nats r2]at eg
   refine⟨a,ns,rfl,.inl (.inl eg),hin,fun S hS=>⟨S,SI.lof ns,rfl,upd_same,?_⟩⟩
   rw[←lof_len hin nd]at q
   exact k _ _ _ _ q (by simp[RP]) (s1.hid hS) (e1.trans (Ev.hid hS))
  | _=>exact h1.elim
end U
set_option linter.all false
set_option maxRecDepth 100000
set_option maxHeartbeats 4000000 -- own
namespace TR
open PySem PyProof.Rows
section
variable {prog:Program}{w:World}{A:Around}{E:Value->Shared->Prop}{s:Shared}
theorem collect_range{Q:List Value->Shared->Prop}{r:Addr}{a b c:Int}{t u v:Tok}{n:Nat}(hh:A.handled=none)(hr:IsRange s.heap r a b c t u v)(hs:Builtin.Range.small a b c=true)(hn:Builtin.Range.rangeSize a b c=n)(hl:n≤2 ^ 24)
  (q:∀(h':Heap) tk acc,(∀b o,s.heap.get? b=some o->h'.get? b=some o)->ItemsOf (fun i v=>∃t,v=.int (a+i*c) t) acc n->Q acc.toList { s with heap:=h',toks:=tk }):wpAny (model prog w) A (collect (.ref r)) Q E s:=by
 unfold collect
 refine wpAny_bind (wpAny_runValue (codeAny_builtin F.entry_proto_collect ?go))
 case go =>
  rw[Around.under_plainId F.plain_proto_collect _]
  show wpAny _ A.in1 (newList [] >>= fun l=>again (.builtin "list.__iadd__" ⟨[l,.ref r],[]⟩)) _ _ s
  refine wpAny_bind (wpAny_newObj_type (wpAny_pure ⟨plainId_quiet F.plain_list_iadd _,codeAny_builtin F.entry_list_iadd ?_⟩))
  rw[Around.under_plainId F.plain_list_iadd _]
  show wpAny _ A.in1 (Builtin.List.listExtendWith (.ref s.heap.objs.size) (.ref r) (.ref s.heap.objs.size)) _ _ _
  have hS0:(s.heap.push { cls:=.type "list",data:=.seq ([]:List Value).toArray }).get? s.heap.objs.size=some { cls:=.type "list",data:=.seq #[] }:=Heap.get?_push_size _ rfl
  refine wpAny_extend_range (R:=fun r s'=>match r with | .ok (.ret v)=>wpAny (model prog w) A (match v with | .ref a=>(do match (← load a).data with | .seq xs _=>pure xs.toList | _=>unsupported "internal:collect") | _=>unsupported "internal:collect") Q E s' | .ok _=>False | .error e=>E e s') (s:={ s with heap:=s.heap.push { cls:=.type "list",data:=.seq ([]:List Value).toArray } }) hh (Heap.get?_push_of_some _ hr) hs hn hl _ _ 0 hS0 fun h' tk acc c' hk hS hacc=>?_
  show wpAny _ A (load s.heap.objs.size >>= _) _ _ _
  exact wpAny_bind (wpAny_load hS (wpAny_pure (q h' tk acc (fun b o e=>hk b o (Nat.ne_of_lt (Heap.lt_size e)) (Heap.get?_push_of_some _ e)) hacc)))
end
open AutoSeq1 (wpAny_loadPart')
theorem meets_new{r:Addr}{a b c:Int}{t u v:Tok}{n:Nat}(hs:Builtin.Range.small a b c=true)(hn:Builtin.Range.rangeSize a b c=n)(hl:n≤2 ^ 24) :
  Meets (Builtin.«tuple.__new__» ⟨[.type "tuple",.ref r],[]⟩)
   (fun A R s=>A.handled=none/\IsRange s.heap r a b c t u v/\∀(h':Heap) tk acc,(∀b o,s.heap.get? b=some o->h'.get? b=some o)->ItemsOf (fun i v=>∃t,v=.int (a+i*c) t) acc n ->
    R (.ok (.ret (.ref h'.objs.size))) { s with heap:=h'.push { cls:=.type "tuple",data:=.seq acc },toks:=tk }) :=
 .of_wp fun prog w A R s h=>by
  obtain⟨hh,hr,h⟩:=h
  have hsub:=sub_tuple_self
  have hinit:=init_tuple_lookup
  have hmh:=madeHere_tuple
  have hT:s.TypeIs (.ref r) "range":=⟨_,hr,rfl⟩
  have hh1:A.in1.handled=none:=hh
  wp_walk using wpAny_typeOf hT,collect_range hh1 hr hs hn hl
  intro h' tk acc hk hacc
  show wpAny _ _ (Builtin.Tuple.tupleExact acc.toList.toArray >>= fun v=>ret v) _ _ _
  unfold Builtin.Tuple.tupleExact
  have e:acc.toList.toArray=acc:=by simp
  rw[e]
  refine wpAny_bind (wpAny_newObj_type (wpAny_pure ⟨_,rfl,h h' tk acc hk hacc⟩) (show acc.size≤sizeLine by rw[hacc.1,sizeLine_eq];omega))
section
variable {prog:Program}{w:World}{A:Around}{E:Value->Shared->Prop}{s:Shared}
theorem call_tuple_range{Q:Value->Shared->Prop}{r:Addr}{a b c:Int}{t u v:Tok}{n:Nat}(hh:A.handled=none)(hr:IsRange s.heap r a b c t u v)(hs:Builtin.Range.small a b c=true)(hn:Builtin.Range.rangeSize a b c=n)(hl:n≤2 ^ 24)
  (q:∀(h':Heap) tk acc,(∀b o,s.heap.get? b=some o->h'.get? b=some o)->ItemsOf (fun i v=>∃t,v=.int (a+i*c) t) acc n->Q (.ref h'.objs.size) { s with heap:=h'.push { cls:=.type "tuple",data:=.seq acc },toks:=tk }) :
  wpAny (model prog w) A (call (.type "tuple") [.ref r]) Q E s :=
 callType_new F.called_tuple (by decide) (F.typeCall_tuple_1 _) (F.newCall_tuple_1 _) (fun obj=>F.args_object_init_2 obj _) F.entry_tuple_new
  (meets_new (r:=r) (t:=t) (u:=u) (v:=v) hs hn hl) ⟨hh,hr,fun h' tk acc hk hacc=>⟨⟨_,Heap.get?_push_size _ rfl,rfl⟩,q h' tk acc hk hacc⟩⟩
end
end TR
namespace L2
open PySem PySem.Spec PyProof.Rows
variable {X:Cx}{a:Expr}{ta:TE}{p p2 pos pos2:Pos}
def rngV(n:Nat):List V:=(List.range n).map fun k=>V.int ((k:Nat):Int)
theorem small_up{n:Nat}(h:n<1000):Builtin.Range.rangeSize 0 (n:Int) 1=(n:Nat)/\Builtin.Range.small 0 (n:Int) 1=true:=by
 have e:Builtin.Range.rangeSize 0 (n:Int) 1=(n:Nat):=by
  unfold Builtin.Range.rangeSize
  rw[if_pos (by decide)]
  split<;>omega
 refine⟨e,?_⟩
 unfold Builtin.Range.small
 rw[e]
 have hn:((n:Nat):Int)≤1000:=by omega
 have h0:(0:Int)≤((n:Nat):Int):=by omega
 generalize ((n:Nat):Int)=m at *
 simp only[Builtin.Range.rangeFitsLong,Bool.and_eq_true,Bool.or_eq_true,decide_eq_true_eq,beq_iff_eq]
 refine⟨⟨⟨⟨by omega,by omega⟩,by decide⟩,by omega⟩,?_⟩
 refine .inr ?_
 rw[if_pos (by decide),Bool.and_eq_true,decide_eq_true_eq,decide_eq_true_eq]
 exact⟨by omega,by omega⟩
theorem vals_rng{n:Nat}{acc:Array Value}(h:ItemsOf (fun i v=>∃t,v=Value.int (0+i*1) t) acc n):Vals (rngV n) acc.toList:=by
 obtain⟨h1,h2⟩:=h
 have key:∀(l:List Value) (k:Nat),(∀j v,l[j]?=some v->∃t,v=Value.int ((k+j:Nat):Int) t)->Vals ((List.range l.length).map fun j=>V.int ((k+j:Nat):Int)) l:=by
  intro l
  induction l with
  | nil=>intro k _;exact .nil
  | cons v l ih =>
   intro k hh
   rw[List.length_cons,List.range_succ_eq_map,List.map_cons,List.map_map]
   obtain⟨t,e⟩:=hh 0 v rfl
   have:=ih (k+1) fun j v hj=>by
    have:=hh (j+1) v (by simpa using hj)
    rw[show k+1+j=k+(j+1) by omega];exact this
   refine .cons ⟨t,e⟩ ?_
   have ee:((fun j=>V.int ((k+j:Nat):Int)) ∘ Nat.succ)=fun j=>V.int ((k+1+j:Nat):Int):=by
    funext j;show V.int ((k+(j+1):Nat):Int)=_;rw[show k+(j+1)=k+1+j by omega]
   rw[ee]
   exact this
 have:=key acc.toList 0 fun j v hj=>by
  obtain⟨t,e⟩:=h2 j v (by simpa using hj)
  exact⟨t,by rw[e];congr 1;omega⟩
 rw[Array.length_toList,h1]at this
 unfold rngV
 simpa using this
def tTupR(ta:TE):TE:=fun σ H Q=>ta σ H fun x H1=>∃n:Nat,[x]=[V.int (n:Nat)]/\n<1000/\∀q,H1 q=none->Q (.ref q) (upd H1 q (.tup (rngV n)))
theorem pe_tupR(hc:X.calm=true)(hg:Gl X "tuple")(hm:X.mg "tuple"=none)(hg2:Gl X "range")(hm2:X.mg "range"=none)(b1:bootBuiltins "tuple"=some (.type "tuple"))(ha:PE X a ta)
  (he:starEach [.Call (.Name "range" p2) [a] [] pos2] X.env=[(false,eval (.Call (.Name "range" p2) [a] [] pos2) X.env)]:=by rfl) (he2:starEach [a] X.env=[(false,eval a X.env)]:=by rfl) (hpl:(backTo pos (starEach [] X.env)).any (·.1)=false:=by rfl) (hpl2:(backTo pos2 (starEach [] X.env)).any (·.1)=false:=by rfl) :
  PE X (.Call (.Name "tuple" p) [.Call (.Name "range" p2) [a] [] pos2] [] pos) (tTupR ta):=by
 intro pins s σ H Q I h
 refine wpAny_Call_Name_kw (ld_blt I hg hm b1 ?_ (by decide) (by decide))
 refine PyProof.Rows.callWith_type1 ?_ he hpl
 rw[he]
 show wpAny _ _ (spliced ((false,eval (.Call (.Name "range" p2) [a] [] pos2) X.env)::[])) _ _ s
 refine Calls.spliced_cons ?_
 refine wpAny_Call_Name_kw (ld_blt I hg2 hm2 boot_range ?_ (by decide) (by decide))
 refine PyProof.Rows.callWith_type1 ?_ he2 hpl2
 refine thn (pa_cons ha pa_nil he2 pos2 pins s σ H (fun xs H1=>∃n:Nat,xs=[.int (n:Nat)]/\n<1000/\∀q,H1 q=none->Q (.ref q) (upd H1 q (.tup (rngV n)))) I h) fun us s1 ⟨vs,H1,I1,r1,q1⟩=>?_
 obtain⟨n,rfl,hn,q⟩:=q1
 obtain⟨u,rfl,t,rfl⟩:=vals1 r1
 obtain⟨e1,e2⟩:=small_up hn
 refine call_range_1 ?_
 refine Calls.spliced_nil ?_
 refine TR.call_tuple_range (I.ok.hd hc) (IsRange.new ..) e2 e1 (by omega) fun h' tk acc kp hacc=>?_
 have k2:∀b o,s1.heap.get? b=some o->h'.get? b=some o:=fun b o e=>kp b o (Heap.get?_push_of_some _ e)
 have I2:Inv X pins σ H1 { s1 with heap:=h',toks:=tk }:=I1.kept (t':=tk) k2
 refine⟨.ref _,_,I2.laid (t':=tk) (o:=.tup (rngV n)) (fun b o e=>Heap.get?_push_of_some _ e) (Nat.le_refl _) ?_,rfl,q _ (I2.hok.fresh (Nat.le_refl _))⟩
 refine⟨by unfold rngV;rw[List.length_map,List.length_range,sizeLine_eq];omega,acc.toList,vals_rng hacc,?_⟩
 have e:acc.toList.toArray=acc:=by simp
 rw[e]
 exact IsTup.new _ _
end L2
namespace U
open PySem PySem.Spec PyProof.Rows L2
variable {B:Bs}{X:Cx}{a:Expr}{ta:TE'}{p p2 pos pos2:Pos}
def tupR(x:PV)(H:PHp)(Q:VK'):Prop:=match x with
 | .int i=>0≤i/\i<1000/\Q (.tup (rngL 0 i.toNat)) H
 | _=>False
theorem w_tR{i:Int}{H:PHp}{Q:VK'}:tupR (.int i) H Q=(0≤i/\i<1000/\Q (.tup (rngL 0 i.toNat)) H):=rfl
def uTupR(ta:TE'):TE':=fun σ H Q=>ta σ H fun x H1=>tupR x H1 Q
theorem rps_rng{K:PySem.W.Frag}{H:Hp}{n:Nat}:RPs K H (rngL 0 n) (rngV n):=by
 have e1:rngL 0 n=((List.range n).map fun k=>((k:Nat):Int)).map PV.int:=by
  unfold rngL;rw[List.map_map];refine List.map_congr_left fun k _=>?_;show PV.int (0+((k:Nat):Int))=PV.int ((k:Nat):Int);rw[Int.zero_add]
 have e2:rngV n=((List.range n).map fun k=>((k:Nat):Int)).map V.int:=by unfold rngV;rw[List.map_map];rfl
 rw[e1,e2]
 exact RPs.ints K _
theorem qe_tupR(hc:X.calm=true)(hg:Gl X "tuple")(hm:X.mg "tuple"=none)(hg2:Gl X "range")(hm2:X.mg "range"=none)(b1:bootBuiltins "tuple"=some (.type "tuple"))(ha:PE' X B a ta)
  (he:starEach [.Call (.Name "range" p2) [a] [] pos2] X.env=[(false,eval (.Call (.Name "range" p2) [a] [] pos2) X.env)]:=by rfl) (he2:starEach [a] X.env=[(false,eval a X.env)]:=by rfl) (hpl:(backTo pos (starEach [] X.env)).any (·.1)=false:=by rfl) (hpl2:(backTo pos2 (starEach [] X.env)).any (·.1)=false:=by rfl) :
  PE' X B (.Call (.Name "tuple" p) [.Call (.Name "range" p2) [a] [] pos2] [] pos) (uTupR ta) :=
 pe_imp (pe_tupR hc hg hm hg2 hm2 b1 ha he he2 hpl hpl2) fun σ H Q h=>by
  obtain⟨σ',H',Q',s,h,k⟩:=h
  refine⟨σ',H',_,s,h,fun x' H1' x H1 h1 rx s1 e1=>?_⟩
  cases x' with
  | int i =>
   obtain⟨h0,h3,q⟩:=h1
   simp only[RP]at rx
   refine⟨i.toNat,by rw[rx,Int.toNat_of_nonneg h0],by omega,fun q' hq=>?_⟩
   exact k _ _ _ _ q (newT hq rps_rng) (s1.hid hq) (e1.trans (Ev.hid hq))
  | _=>exact h1.elim
end U
set_option linter.all false
set_option maxRecDepth 100000
set_option maxHeartbeats 4000000 -- own
namespace L2
open PySem PySem.Spec PyProof.Rows
variable {X:Cx}{a:Expr}{ta:TE}{p p2 pos pos2:Pos}
end L2
namespace U
open PySem PySem.Spec PyProof.Rows L2
variable {B:Bs}{X:Cx}{a:Expr}{ta:TE'}{p p2 pos pos2:Pos}
def lsR(x:PV)(H:PHp)(Q:VK'):Prop:=match x with
 | .int i=>0≤i/\i<1000/\∀r,H r=none->Q (.ref r) (put H r (.lst (rngL 0 i.toNat)))
 | _=>False
theorem w_lR{i:Int}{H:PHp}{Q:VK'}:lsR (.int i) H Q=(0≤i/\i<1000/\∀r,H r=none->Q (.ref r) (put H r (.lst (rngL 0 i.toNat)))):=rfl
def uLsR(ta:TE'):TE':=fun σ H Q=>ta σ H fun x H1=>lsR x H1 Q
end U
set_option linter.all false
set_option maxRecDepth 100000
set_option maxHeartbeats 4000000 -- own
namespace L2
open PySem PySem.Spec PyProof.Rows
variable {X:Cx}{pos:Pos}
end L2
namespace U
open PySem PySem.Spec PyProof.Rows L2
variable {B:Bs}{X:Cx}{es:List Expr}{pos:Pos}
def vUnl(n:Nat)(t:TGs'):TG':=fun v σ H Q=>match v with
 | .ref a=>∃l,H a=some (.lst l)/\l.length=n/\t l σ H Q
 | _=>False
theorem w_ul{n:Nat}{t:TGs'}{a:Addr}{σ:St'}{H:PHp}{Q:St'->PHp->Prop}:vUnl n t (.ref a) σ H Q=∃l,H a=some (.lst l)/\l.length=n/\t l σ H Q:=rfl
end U
set_option linter.all false
set_option maxRecDepth 100000
set_option maxHeartbeats 4000000 -- own
namespace EN
open PySem
section
variable {prog:Program}{w:World}{A:Around}{E:Value->Shared->Prop}{s:Shared}
end
end EN
set_option linter.all false
set_option maxRecDepth 100000
set_option maxHeartbeats 4000000 -- own
namespace RT
open PySem PyProof.Rows
theorem own_rev:Manifest.owners.lookup (String.ofList ['d','e','s','r','e','v','e','r'].reverse)=some Manifest.sig_reversed:=by kernel_rfl
theorem slot_n:Slot "reversed" "__next__" "reversed.__next__" :=
 .of (owner:="reversed") (n:="__next__") (by rw[typeLookup_type,builtinLookup_eq_fast];kernel_rfl) (by decide +kernel) (by decide +kernel) (by decide +kernel) (by first | exact .inl (by decide +kernel) | exact .inr (by decide +kernel)) (by rw[isSubtype_type];kernel_rfl)
theorem entry_n:entryFor table "reversed.__next__"=some Builtin.«reversed.__next__»:=entryFor_of_tree (by kernel_rfl)
theorem args_n(a:Value):argsOk "reversed.__next__" ⟨[a],[]⟩:=by
 unfold argsOk
 rw[signature?_of (id:="reversed.__next__") (n:=['_','_','t','x','e','n','_','_']) (o:=['d','e','s','r','e','v','e','r']) (by kernel_rfl) own_rev]
 kernel_rfl
theorem slot_i:Slot "reversed" "__iter__" "reversed.__iter__" :=
 .of (owner:="reversed") (n:="__iter__") (by rw[typeLookup_type,builtinLookup_eq_fast];kernel_rfl) (by decide +kernel) (by decide +kernel) (by decide +kernel) (by first | exact .inl (by decide +kernel) | exact .inr (by decide +kernel)) (by rw[isSubtype_type];kernel_rfl)
theorem args_i(a:Value):argsOk "reversed.__iter__" ⟨[a],[]⟩:=by
 unfold argsOk
 rw[signature?_of (id:="reversed.__iter__") (n:=['_','_','r','e','t','i','_','_']) (o:=['d','e','s','r','e','v','e','r']) (by kernel_rfl) own_rev]
 kernel_rfl
theorem slot_h:Slot "reversed" "__length_hint__" "reversed.__length_hint__" :=
 .of (owner:="reversed") (n:="__length_hint__") (by rw[typeLookup_type,builtinLookup_eq_fast];kernel_rfl) (by decide +kernel) (by decide +kernel) (by decide +kernel) (by first | exact .inl (by decide +kernel) | exact .inr (by decide +kernel)) (by rw[isSubtype_type];kernel_rfl)
theorem entry_h:entryFor table "reversed.__length_hint__"=some Builtin.«reversed.__length_hint__»:=entryFor_of_tree (by kernel_rfl)
theorem args_h(a:Value):argsOk "reversed.__length_hint__" ⟨[a],[]⟩:=by
 unfold argsOk
 rw[signature?_of (id:="reversed.__length_hint__") (n:=['_','_','t','n','i','h','_','h','t','g','n','e','l','_','_']) (o:=['d','e','s','r','e','v','e','r']) (by kernel_rfl) own_rev]
 kernel_rfl
theorem no_len:typeLookup (.type "reversed") "__len__"=pure none:=by rw[typeLookup_type,builtinLookup_eq_fast];kernel_rfl
theorem no_rev:typeLookup (.type "tuple") "__reversed__"=pure none:=by rw[typeLookup_type,builtinLookup_eq_fast];kernel_rfl
theorem entry_i:entryFor table "reversed.__iter__"=some Builtin.«dict_keyiterator.__iter__» :=
 entryFor_alias (id':="dict_keyiterator.__iter__") (by kernel_rfl) (by first | rfl | decide +kernel |(unfold String.splitOn;simp +decide [String.splitOnAux])) (by decide +kernel) (by kernel_rfl)
def rv(t:Addr)(i:Int):Obj:={ cls:=.type "reversed",data:=.fields #[.ref t,rawInt i] }
theorem no_dict:isSubtype (.type "tuple") (.type "dict")=pure false:=by rw[isSubtype_type];kernel_rfl
theorem meets_new(t:Addr)(its:Array Value):Meets (Builtin.«reversed.__new__» ⟨[.type "reversed",.ref t],[]⟩) (fun A R s=>IsTup s.heap t its/\(its.size:Int)<2 ^ 63/\R (.ok (.ret (.ref s.heap.objs.size))) { s with heap:=s.heap.push (rv t ((its.size:Int) - 1)),toks:=s.toks+1+1 }) :=
 .of_wp fun prog w A R s h=>by
  obtain⟨ht,hz,h⟩:=h
  unfold Builtin.«reversed.__new__»
  refine wpAny_bind (wpAny_of_eq (newClass_reversed _) ?_)
  try dsimp only
  refine wpAny_bind (wpAny_of_eq (a:=()) (by first | rfl | kernel_rfl) ?_)
  refine wpAny_bind (wpAny_of_eq (a:=()) (by first | rfl | kernel_rfl) ?_)
  try dsimp only
  refine wpAny_bind (wpAny_specialOf ht.typeIs no_rev ?_)
  try dsimp only
  refine wpAny_bind ?_
  wp_delta
  refine wpAny_bind (wpAny_isInstance (T:="tuple") (b:=false) ht.typeIs no_dict ?_)
  rw[if_neg (by decide)]
  refine wpAny_bind (wpAny_specialOf ht.typeIs slot_tuple_getitem.lookup ?_)
  dsimp only
  rw[if_pos (by decide +kernel)]
  refine wpAny_pure ?_
  rw[if_neg (by decide)]
  refine wpAny_bind (len_tuple ht hz ?_)
  refine wpAny_bind (m:=asInt? _) (wpAny_pure ?_)
  dsimp only
  refine wpAny_bind ?_
  unfold Builtin.SmallTypes.newRecord
  exact wpAny_newObj_type (wpAny_pure ⟨_,rfl,h⟩)
def IsRv(h:Heap)(a t:Addr)(i:Int):Prop:=∃o,h.get? a=some o/\o.cls=.type "reversed"/\o.data=.fields #[.ref t,rawInt i]
theorem IsRv.at{h h':Heap}{a t:Addr}{i:Int}(x:IsRv h a t i)(e:∀o,h.get? a=some o->h'.get? a=some o):IsRv h' a t i:=let ⟨o,ho,r⟩:=x;⟨o,e _ ho,r⟩
section
variable {prog:Program}{w:World}{A:Around}{E:Value->Shared->Prop}{s:Shared}{it t:Addr}{its:Array Value}
theorem IsRv.ty{i:Int}(x:IsRv s.heap it t i):s.TypeIs (.ref it) "reversed":=let ⟨o,ho,hc,_⟩:=x;⟨o,ho,hc⟩
theorem ix_nat{i n:Nat}(h:i<n):seqIndex? ((i:Nat):Int) n=some i:=by
 unfold seqIndex?
 simp only[show ¬(((i:Nat):Int)<0) by omega,if_false]
 rw[if_pos (by simp;omega),Int.toNat_natCast]
theorem next_item{i:Nat}{x:Value}{Q:Option Value->Shared->Prop}(hit:IsRv s.heap it t ((i:Nat):Int))(ht:IsTup s.heap t its)(hx:its[i]?=some x)(hz:its.size<2 ^ 62)
  (hQ:∀h' tk,IsRv h' it t (((i:Nat):Int) - 1)->Heap.SameBut it s.heap h'->Q (some x) { s with heap:=h',toks:=tk }):wpAny (model prog w) A (pyNext (.ref it)) Q E s:=by
 obtain⟨o,ho,hc,hd⟩:=id hit
 have hi:i<its.size:=by
  rcases Nat.lt_or_ge i its.size with q | q
  ·exact q
  ·rw[Array.getElem?_eq_none q]at hx;cases hx
 unfold pyNext
 refine wpAny_bind (wpAny_attempt (wpAny_callSpecial?_slot (name:=Str.ofString "__next__") hit.ty slot_n (wpAny_call_entry slot_n hit.ty entry_n ?_ (args_n _))))
 unfold Builtin.«reversed.__next__»
 refine wpAny_bind (wpAny_of_eq (a:=(Value.ref it,[])) rfl ?_)
 dsimp only
 refine wpAny_bind (wpAny_field ho hd (x:=.ref t) rfl ?_)
 refine wpAny_bind (wpAny_field ho hd (x:=rawInt ((i:Nat):Int)) rfl ?_)
 show wpAny _ _ (if ((i:Nat):Int)<0 then _ else _) _ _ s
 rw[if_neg (by omega)]
 refine wpAny_bind (wpAny_specialOf ht.typeIs slot_tuple_getitem.lookup ?_)
 rw[if_neg (by decide)]
 refine wpAny_bind (wpAny_mkInt ?_)
 refine wpAny_bind (wpAny_attempt (getItem_tuple (j:=i) (x:=x) (s:={ s with toks:=s.toks+1 }) ht (by omega) (by omega) (ix_nat hi) hx ?_))
 dsimp only
 refine wpAny_bind (wpAny_field ho hd (x:=rawInt ((i:Nat):Int)) rfl ?_)
 refine wpAny_bind (wpAny_setField (s:={ s with toks:=s.toks+1 }) ho hd (by simp) ?_)
 refine wpAny_pure ⟨x,rfl,wpAny_pure (hQ _ _ ?_ (Heap.SameBut.update ..))⟩
 refine⟨_,Heap.get?_update_self _ ho (Obj.isFreed_of_fields (Obj.data_mapFields hd _)),(Obj.cls_mapFields ..).trans hc,?_⟩
 rw[Obj.data_mapFields hd]
 simp
theorem next_end{Q:Option Value->Shared->Prop}(hA:A.handled=none)(hit:IsRv s.heap it t (-1))(hQ:∀h',Heap.ExtBut it s.heap h'->Q none { s with heap:=h' }):wpAny (model prog w) A (pyNext (.ref it)) Q E s:=by
 obtain⟨o,ho,hc,hd⟩:=id hit
 unfold pyNext
 refine wpAny_bind (wpAny_attempt (wpAny_callSpecial?_slot (name:=Str.ofString "__next__") hit.ty slot_n (wpAny_call_entry slot_n hit.ty entry_n ?_ (args_n _))))
 unfold Builtin.«reversed.__next__»
 refine wpAny_bind (wpAny_of_eq (a:=(Value.ref it,[])) rfl ?_)
 dsimp only
 refine wpAny_bind (wpAny_field ho hd (x:=.ref t) rfl ?_)
 refine wpAny_bind (wpAny_field ho hd (x:=rawInt (-1)) rfl ?_)
 show wpAny _ _ (if (-1:Int)<0 then _ else _) _ _ s
 rw[if_pos (by decide)]
 refine wpAny_bind (wpAny_rule ?_)
 refine wpAny_bind ?_
 wp_delta
 refine wpAny_bind (wpAny_setField ho hd (by simp) ?_)
 have d2:=Obj.data_mapFields hd fun vs=>vs.set! 1 (rawInt (-1))
 have o2:=Heap.get?_update_self _ ho (Obj.isFreed_of_fields d2)
 refine wpAny_setField (s:={ s with heap:=s.heap.update it _ }) o2 d2 (by simp) ?_
 show wpAny _ _ (Builtin.SmallTypes.stopIteration >>= _) _ _ _
 refine wpAny_bind ?_
 show wpAny _ _ (newExc (Value.type "StopIteration") [] >>= _) _ _ _
 refine wpAny_bind (?_)
 simp only[newTuple,newExc]
 refine wpAny_bind (wpAny_newObj_type (?_) (by size_fits))
 refine wpAny_bind (m:=firstArgMember _ _) (wpAny_of_eq (a:=Value.none) (by first | rfl |(simp only[firstArgMember];rfl)) (?_))
 refine wpAny_newObj_type (?_) (by size_fits)
 simp only[raiseNew,bind_assoc]
 refine wpAny_bind (wpAny_handled (?_))
 first | rw[show A.in1.handled=none from hA] | rw[hA]
 refine wpAny_bind (wpAny_pure (wpAny_throw (?_)))
 refine wpAny_bind (wpAny_isInstance (T:="StopIteration") (b:=true) ⟨_,Heap.get?_push_size _ rfl,rfl⟩ isSubtype_stop ?_)
 exact wpAny_pure (hQ _ ((((Heap.SameBut.update ..).trans (Heap.SameBut.update ..)).extBut.push _).push _))
theorem iter_self{i:Int}{Q:Value->Shared->Prop}(hit:IsRv s.heap it t i)(h:Q (.ref it) s):wpAny (model prog w) A (pyIter (.ref it)) Q E s:=by
 refine wpAny_pyIter_slot hit.ty slot_i (wpAny_call_entry slot_i hit.ty entry_i ?_ (args_i _))
 show wpAny _ _ (ret (Value.ref it)) _ _ s
 exact wpAny_pure ⟨_,rfl,"reversed",_,hit.ty,slot_n.lookup,h⟩
theorem hint_call{Q:Value->Shared->Prop}(hit:IsRv s.heap it t ((its.size:Int) - 1))(ht:IsTup s.heap t its)(hz:its.size<2 ^ 62)(h:∀u tk,s.toks≤tk->Q (.int (its.size:Int) u) { s with toks:=tk }):wpAny (model prog w) A (call (.builtin "reversed.__length_hint__") [.ref it]) Q E s:=by
 obtain⟨o,ho,hc,hd⟩:=id hit
 refine wpAny_call_entry slot_h hit.ty entry_h ?_ (args_h _)
 unfold Builtin.«reversed.__length_hint__»
 refine wpAny_bind (wpAny_of_eq (a:=Value.ref it) rfl ?_)
 refine wpAny_bind (wpAny_field ho hd (x:=.ref t) rfl ?_)
 show wpAny _ _ (if (Value.ref t==Value.none)=true then _ else _) _ _ s
 rw[if_neg (show ¬(Value.ref t==Value.none)=true from Bool.false_ne_true)]
 refine wpAny_bind (len_tuple ht (by omega) ?_)
 refine wpAny_bind (m:=asInt? _) (wpAny_pure ?_)
 dsimp only
 refine wpAny_bind (wpAny_field (s:={ s with toks:=s.toks+1+1 }) ho hd (x:=rawInt ((its.size:Int) - 1)) rfl ?_)
 show wpAny _ _ (if ((its.size:Nat):Int)<((its.size:Int) - 1)+1 then _ else _) _ _ _
 rw[if_neg (by omega),show((its.size:Int) - 1)+1=(its.size:Int) by omega]
 exact wpAny_bind (wpAny_mkInt (wpAny_pure ⟨_,rfl,h _ _ (by show s.toks≤s.toks+1+1+1;omega)⟩))
end
theorem walks{prog:Program}{w:World}{A:Around}(hA:A.handled=none)(it t:Addr)(ne:t≠it)(its:Array Value)(hz:its.size<2 ^ 62) :
  Walks prog w A it [it,t] [it] its.size (fun i v=>its[its.size - 1 - i]?=some v) (fun i h=>i≤its.size/\IsRv h it t ((its.size:Int) - 1 - (i:Int))/\h.IsTuple t its) where
 sub:=fun b hb=>by simp at hb;simp[hb]
 frame:=fun _ _ _ x hk=>⟨x.1,x.2.1.at fun o e=>hk it (by simp) o e,x.2.2.at fun o e=>hk t (by simp) o e⟩
 item:=fun i s Q E hi x hQ=>by
  have e:(its.size:Int) - 1 - (i:Int)=((its.size - 1 - i:Nat):Int):=by omega
  have hit:=x.2.1
  rw[e]at hit
  have hx:its[its.size - 1 - i]?=some (its[its.size - 1 - i]'(by omega)):=Array.getElem?_eq_getElem (by omega)
  refine next_item hit x.2.2 hx hz fun h1 tk hit1 sb=>?_
  have e2:((its.size - 1 - i:Nat):Int) - 1=(its.size:Int) - 1 - ((i+1:Nat):Int):=by omega
  rw[e2]at hit1
  exact hQ _ h1 tk hx ⟨hi,hit1,x.2.2.at fun o q=>(sb.2 t ne).trans q⟩ fun b o hb q=>sb.extBut b o (fun z=>hb (by simp[z])) q
 done:=fun s Q E x hQ=>by
  have hit:=x.2.1
  rw[show(its.size:Int) - 1 - (its.size:Int)=-1 by omega]at hit
  exact next_end hA hit fun h1 eb=>hQ h1 s.toks fun b o hb q=>eb b o (fun z=>hb (by simp[z])) q
 self:=fun _ _ _ _ x hQ=>iter_self x.2.1 hQ
section
variable {prog:Program}{w:World}{A:Around}{E:Value->Shared->Prop}{s:Shared}{it t:Addr}{its:Array Value}
theorem as_int(n:Int)(u:Tok):asInt? (.int n u)=pure (some n):=rfl
theorem hint_b{Q:Bool->Shared->Prop}(hit:IsRv s.heap it t ((its.size:Int) - 1))(ht:IsTup s.heap t its)(hz:its.size<2 ^ 20)(h:∀tk,s.toks≤tk->Q ((its.size:Int) !=0) { s with toks:=tk }):wpAny (model prog w) A (Builtin.List.listLengthHint (.ref it)) Q E s:=by
 unfold Builtin.List.listLengthHint
 refine wpAny_bind (wpAny_specialOf hit.ty no_len ?_)
 dsimp only
 refine wpAny_ite_split (fun hab=>absurd hab (by decide +kernel)) (fun _=>?_)
 refine wpAny_ite_split (fun hab=>absurd hab (by decide +kernel)) (fun _=>?_)
 refine wpAny_bind (wpAny_specialOf hit.ty slot_h.lookup ?_)
 generalize hid:("reversed.__length_hint__":String)=id0
 wp_delta
 rw[show splitId id0=some ("reversed","__length_hint__")from by subst hid;decide +kernel]
 subst hid
 refine wpAny_bind (wpAny_isInstance (T:="reversed") (b:=true) hit.ty F.sub_reversed_self ?_)
 refine wpAny_ite_split (fun hab=>absurd hab (by decide)) (fun _=>?_)
 refine wpAny_ite_split (fun hab=>absurd hab (by decide +kernel)) (fun _=>?_)
 refine wpAny_bind (wpAny_rule ?_)
 refine wpAny_bind (wpAny_of_eq (slot_h.bind _) ?_)
 dsimp only
 refine wpAny_bind (wpAny_attempt (hint_call hit ht (by omega) fun u tk htk=>?_))
 have f1:Builtin.List.listFitsIndex ((its.size:Nat):Int)=true:=by
  have a:-(2 ^ 63:Int)≤((its.size:Nat):Int):=Int.le_trans (by decide) (Int.natCast_nonneg _)
  have b:((its.size:Nat):Int)<2 ^ 63:=Int.lt_trans (Int.ofNat_lt.mpr hz) (by decide)
  unfold Builtin.List.listFitsIndex
  rw[decide_eq_true a,decide_eq_true b]
  rfl
 have f2:Builtin.List.listTooLong ((its.size:Nat):Int).toNat=false:=by
  have hs:its.size≤sizeLine:=by rw[sizeLine_eq];omega
  unfold Builtin.List.listTooLong
  rw[Int.toNat_natCast]
  exact decide_eq_false (Nat.not_lt.mpr hs)
 have f3:¬((its.size:Nat):Int)<0:=Int.not_lt.mpr (Int.natCast_nonneg _)
 have hq:=h tk htk
 clear h
 generalize ((its.size:Nat):Int)=n at *
 show wpAny _ A (asInt? (.int n u) >>= _) _ _ _
 rw[as_int,pure_bind]
 dsimp only
 rw[if_neg (by rw[f1];decide),if_neg f3,if_neg (by rw[f2];decide)]
 exact wpAny_pure hq
theorem collect_rev{Q:List Value->Shared->Prop}(hA:A.handled=none)(hit:IsRv s.heap it t ((its.size:Int) - 1))(ht:s.heap.IsTuple t its)(ne:t≠it)(hz:its.size<2 ^ 20)
  (hQ:∀(h1:Heap) tk acc,(∀b o,b≠it->s.heap.get? b=some o->h1.get? b=some o)->ItemsOf (fun i v=>its[its.size - 1 - i]?=some v) acc its.size->Q acc.toList { s with heap:=h1,toks:=tk }):wpAny (model prog w) A (collect (.ref it)) Q E s:=by
 have W:=walks (prog:=prog) (w:=w) (A:=A.in1) hA it t ne its (by omega)
 obtain⟨o,ho,_⟩:=id hit
 obtain⟨ot,hot,_⟩:=id ht
 have l1:it<s.heap.objs.size:=Heap.lt_size ho
 have l2:t<s.heap.objs.size:=Heap.lt_size hot
 have hSf:s.heap.objs.size∉[it,t]:=by simp only[List.mem_cons,List.not_mem_nil,or_false,not_or];exact⟨Nat.ne_of_gt l1,Nat.ne_of_gt l2⟩
 have hSI:s.heap.objs.size≠it:=Nat.ne_of_gt l1
 unfold collect
 refine wpAny_bind (wpAny_runValue (codeAny_builtin F.entry_proto_collect ?_))
 rw[Around.under_plainId F.plain_proto_collect _]
 show wpAny _ A.in1 (newList [] >>= fun l=>again (.builtin "list.__iadd__" ⟨[l,Value.ref it],[]⟩)) _ _ s
 refine wpAny_bind (wpAny_newObj_type (wpAny_pure ⟨plainId_quiet F.plain_list_iadd _,codeAny_builtin F.entry_list_iadd ?_⟩))
 rw[Around.under_plainId F.plain_list_iadd _]
 have S1:(s.heap.push { cls:=.type "list",data:=.seq ([]:List Value).toArray }).get? s.heap.objs.size=some { cls:=.type "list",data:=.seq ([]:List Value).toArray }:=Heap.get?_push_size _ rfl
 have it1:IsRv (s.heap.push { cls:=.type "list",data:=.seq ([]:List Value).toArray }) it t ((its.size:Int) - 1):=hit.at fun o e=>Heap.get?_push_of_some _ e
 have t1:(s.heap.push { cls:=.type "list",data:=.seq ([]:List Value).toArray }).IsTuple t its:=ht.at fun o e=>Heap.get?_push_of_some _ e
 have k1:∀b o,s.heap.get? b=some o->(s.heap.push { cls:=.type "list",data:=.seq ([]:List Value).toArray }).get? b=some o:=fun b o e=>Heap.get?_push_of_some _ e
 generalize s.heap.push { cls:=.type "list",data:=.seq ([]:List Value).toArray }=g at *
 show wpAny _ A.in1 (Builtin.List.listExtendWith (Value.ref s.heap.objs.size) (.ref it) (.ref s.heap.objs.size)) _ _ _
 have h1:Builtin.List.listSameRef (.ref s.heap.objs.size) (.ref it)=false:=by simp[Builtin.List.listSameRef,hSI]
 have key:∀(h:Heap) (c₁ tk:Nat),(∀b o,b≠s.heap.objs.size->g.get? b=some o->h.get? b=some o)->h.get? s.heap.objs.size=some { cls:=.type "list",data:=.seq #[] c₁ } ->
   codeAny (model prog w) A (.builtin "list.extend.loop" ⟨[.ref s.heap.objs.size,.ref it,.ref s.heap.objs.size],[]⟩) (fun r s'=>match r with | .ok (.ret v)=>wpAny (model prog w) A (match v with | .ref a=>(do match (← load a).data with | .seq xs _=>pure xs.toList | _=>unsupported "internal:collect") | _=>unsupported "internal:collect") Q E s' | .ok _=>False | .error e=>E e s') { s with heap:=h,toks:=tk }:=by
  intro h c₁ tk hk hS₁
  have st:(0:Nat)≤its.size/\IsRv h it t ((its.size:Int) - 1 - ((0:Nat):Int))/\h.IsTuple t its:=⟨Nat.zero_le _,by simpa using it1.at fun o e=>hk it o hSI.symm e,t1.at fun o e=>hk t o (Nat.ne_of_lt l2) e⟩
  refine codeAny_extend_loopS W.toS (by rw[sizeLine_eq];omega) _ hSf _ its.size 0 { s with heap:=h,toks:=tk } #[] c₁ rfl (Nat.zero_le _) st hS₁ (ItemsOf.nil _) fun s' acc' c' hm hS' hacc=>?_
  rw[Moved.eq_with hm]at hS' ⊢
  show wpAny _ A (load s.heap.objs.size >>= _) _ _ _
  refine wpAny_bind (wpAny_load hS' (wpAny_pure (hQ s'.heap s'.toks acc' (fun b o hb e=>hm.heap b o (fun hmem=>?_) (hk b o (Nat.ne_of_lt (Heap.lt_size e)) (k1 b o e))) hacc)))
  rcases List.mem_cons.mp hmem with q | q
  ·exact Nat.ne_of_lt (Heap.lt_size e) q
  ·exact hb (List.mem_singleton.mp q)
 unfold Builtin.List.listExtendWith
 have it2:IsRv ({ s with heap:=g }:Shared).heap it t ((its.size:Int) - 1):=it1
 refine wpAny_bind (wpAny_typeOf (T:="reversed") it2.ty ?_)
 simp only[h1,show(Value.type "reversed"==Value.type "list")=false by decide,show(Value.type "reversed"==Value.type "tuple")=false by decide,Bool.or_false,Bool.false_eq_true,if_false]
 refine wpAny_bind (iter_self it2 ?_)
 refine wpAny_bind (wpAny_holding (hint_b it2 t1 hz fun tk htk=>?_))
 refine wpAny_ite_split (fun _=>?_) (fun _=>wpAny_pure ⟨plainId_quiet PySem.F.plain_extend_loop _,key g 0 tk (fun b o _ e=>e) S1⟩)
 refine wpAny_bind (wpAny_rule ?_)
 refine wpAny_bind ?_
 show wpAny _ A.in1 (updateSeq s.heap.objs.size (·.push .none) >>= fun _=>updateSeq s.heap.objs.size (·.pop)) _ _ _
 refine wpAny_bind (wpAny_updateSeq S1 rfl ?_)
 have S2:=Heap.get?_update_self (Obj.mapSeq (·.push Value.none)) S1 rfl
 refine wpAny_updateSeq S2 rfl ?_
 have S3:=Heap.get?_update_self (Obj.mapSeq (·.pop)) S2 rfl
 refine wpAny_pure ⟨plainId_quiet PySem.F.plain_extend_loop _,key _ _ tk (fun b o hb e=>(Heap.get?_update_other _ _ (Ne.symm hb)).trans ((Heap.get?_update_other _ _ (Ne.symm hb)).trans e)) S3⟩
end
end RT
set_option linter.all false
set_option maxRecDepth 100000
set_option maxHeartbeats 4000000 -- own
namespace RR
open PySem PyProof.Rows
def rit(x n:Int):Obj:={ cls:=.type "range_iterator",data:=.fields #[rawInt x,rawInt n,rawInt (-1)] }
theorem fits{n:Nat}(h:n<1000):(Builtin.Range.rangeFitsLong 0&&Builtin.Range.rangeFitsLong (n:Int)&&Builtin.Range.rangeFitsLong 1&&Builtin.Range.rangeFitsLong (-1)&&Builtin.Range.rangeFitsLong (0 - 1)&&Builtin.Range.rangeFitsLong (Builtin.Range.rangeSize 0 (n:Int) 1))=true:=by
 rw[(L2.small_up h).1]
 have a:Builtin.Range.rangeFitsLong ((n:Nat):Int)=true:=by
  simp only[Builtin.Range.rangeFitsLong,Bool.and_eq_true,decide_eq_true_eq]
  constructor<;>omega
 rw[a]
 decide +kernel
theorem flds{prog:Program}{w:World}{A:Around}{E:Value->Shared->Prop}{s:Shared}{Q:Int×Int×Int->Shared->Prop}{r:Addr}{a b c:Int}{t u v:Tok}(hr:IsRange s.heap r a b c t u v)(h:Q (a,b,c) s):wpAny (model prog w) A (Builtin.Range.rangeFields (.ref r)) Q E s:=by
 unfold Builtin.Range.rangeFields
 refine wpAny_bind (wpAny_field hr rfl (x:=.int a t) rfl ?_)
 refine wpAny_bind (m:=asInt? _) (wpAny_pure ?_)
 refine wpAny_bind (wpAny_field hr rfl (x:=.int b u) rfl ?_)
 refine wpAny_bind (m:=asInt? _) (wpAny_pure ?_)
 refine wpAny_bind (wpAny_field hr rfl (x:=.int c v) rfl ?_)
 refine wpAny_bind (m:=asInt? _) (wpAny_pure ?_)
 exact wpAny_pure h
theorem own_rr{n:Nat}{prog:Program}{w:World}{A:Around}{E:Value->Shared->Prop}{s:Shared}{Q:Value->Shared->Prop}{r:Addr}{t u v:Tok}(hn:n<1000)(hr:IsRange s.heap r 0 (n:Int) 1 t u v)
  (h:Q (.ref s.heap.objs.size) { s with heap:=s.heap.push (rit ((n:Int) - 1) n) }):wpAny (model prog w) A (call (.builtin "range.__reversed__") [.ref r]) Q E s:=by
 have f:=fits hn
 have z:=(L2.small_up hn).1
 refine wpAny_call_entry F.slot_range_reversed ⟨_,hr,rfl⟩ F.entry_range_reversed ?_ (F.args_range_reversed_1 _)
 unfold Builtin.«range.__reversed__»
 refine wpAny_bind (wpAny_of_eq (a:=Value.ref r) rfl ?_)
 refine wpAny_bind (flds hr ?_)
 dsimp only
 rw[f,z]
 rw[if_neg (by decide)]
 have e:(0:Int)+(((n:Nat):Int) - 1)*1=(n:Int) - 1:=by omega
 rw[e]
 exact wpAny_bind (wpAny_newObj_type (wpAny_pure ⟨_,rfl,h⟩))
theorem sub_rit:isSubtype (.type "range_iterator") (.type "reversed")=pure false:=by rw[isSubtype_type];kernel_rfl
theorem code_new{n:Nat}{prog:Program}{w:World}{A:Around}{E:Value->Shared->Prop}{s:Shared}{Q:Value->Shared->Prop}{r:Addr}{t u v:Tok}(hn:n<1000)(hr:IsRange s.heap r 0 (n:Int) 1 t u v)
  (h:Q (.ref s.heap.objs.size) { s with heap:=s.heap.push (rit ((n:Int) - 1) n) }):codeAny (model prog w) A (.call (.builtin "reversed.__new__") ⟨[.type "reversed",.ref r],[]⟩) (wants Q E) s:=by
 have hT:s.TypeIs (.ref r) "range":=⟨_,hr,rfl⟩
 refine codeAny_of_tree ?_
 show wpAny _ A.in1 (checkBuiltinCall "reversed.__new__" ⟨[.type "reversed",.ref r],[]⟩ >>= fun _=>again (.builtin "reversed.__new__" ⟨[.type "reversed",.ref r],[]⟩)) _ _ s
 refine wpAny_bind (wpAny_of_eq (F.newCall_reversed_1 _) (wpAny_pure ⟨plainId_quiet F.plain_reversed_new _,codeAny_builtin F.entry_reversed_new ?_⟩))
 rw[Around.under_plainId F.plain_reversed_new _]
 unfold Builtin.«reversed.__new__»
 refine wpAny_bind (wpAny_of_eq (newClass_reversed _) ?_)
 refine wpAny_bind (wpAny_of_eq (a:=()) (by first | rfl | kernel_rfl) (wpAny_bind (wpAny_of_eq (a:=()) (by first | rfl | kernel_rfl) ?_)))
 refine wpAny_bind (wpAny_specialOf hT F.slot_range_reversed.lookup (wpAny_bind (wpAny_of_eq (F.slot_range_reversed.bind _) ?_)))
 show wpAny _ _ (if (Value.builtin "range.__reversed__"==Value.none)=true then _ else _) _ _ _
 rw[if_neg (show ¬(Value.builtin "range.__reversed__"==Value.none)=true from Bool.false_ne_true)]
 refine wpAny_bind (wpAny_rule (wpAny_bind (m:=runValue (.call (.builtin "range.__reversed__") ⟨[.ref r],[]⟩)) (own_rr hn hr ?_)))
 first
 | exact wpAny_pure h
 | exact wpAny_bind (wpAny_pure (wpAny_pure h))
theorem call_rr{n:Nat}{prog:Program}{w:World}{A:Around}{E:Value->Shared->Prop}{s:Shared}{Q:Value->Shared->Prop}{r:Addr}{t u v:Tok}(hn:n<1000)(hr:IsRange s.heap r 0 (n:Int) 1 t u v)
  (h:Q (.ref s.heap.objs.size) { s with heap:=s.heap.push (rit ((n:Int) - 1) n) }):wpAny (model prog w) A (call (.type "reversed") [.ref r]) Q E s:=by
 refine callType_other (U:="range_iterator") (Q₁:=fun o s1=>o=.ref s.heap.objs.size/\s1={ s with heap:=s.heap.push (rit ((n:Int) - 1) n) }) (by decide +kernel) F.create_reversed ⟨_,_,F.mro_reversed⟩ F.made_reversed sub_rit (F.typeCall_reversed_1 _) (code_new hn hr ⟨rfl,rfl⟩) ?_
 rintro o s1 ⟨rfl,rfl⟩
 exact⟨⟨_,Heap.get?_push_size _ rfl,rfl⟩,h⟩
theorem hint{n:Nat}{prog:Program}{w:World}{A:Around}{E:Value->Shared->Prop}{s:Shared}{Q:Value->Shared->Prop}{I:Addr}{x:Int}(hn:n<1000)(hit:IsRangeIter s.heap I x (n:Int) (-1))
  (h:∀k u tk,s.toks≤tk->Builtin.List.listTooLong (Int.toNat k)=false->Q (.int k u) { s with toks:=tk }):wpAny (model prog w) A (call (.builtin "range_iterator.__length_hint__") [.ref I]) Q E s:=by
 refine wpAny_call_entry F.slot_range_iterator_length_hint ⟨_,hit,rfl⟩ F.entry_range_iterator_length_hint ?_ (F.args_range_iterator_length_hint_1 _)
 unfold Builtin.«range_iterator.__length_hint__»
 refine wpAny_bind (wpAny_of_eq (a:=Value.ref I) rfl ?_)
 refine wpAny_bind (wpAny_field hit rfl (x:=rawInt (n:Int)) rfl ?_)
 have f2:Builtin.List.listTooLong ((n:Int)).toNat=false:=by
  unfold Builtin.List.listTooLong
  rw[Int.toNat_natCast]
  exact decide_eq_false (Nat.not_lt.mpr (by rw[sizeLine_eq];omega))
 exact wpAny_bind (wpAny_mkInt (wpAny_pure ⟨_,rfl,h _ _ _ (Nat.le_succ _) f2⟩))
theorem collect_rr{n:Nat}{prog:Program}{w:World}{A:Around}{E:Value->Shared->Prop}{s:Shared}{Q:List Value->Shared->Prop}{I:Addr}(hA:A.handled=none)(hn:n<1000)(hit:IsRangeIter s.heap I ((n:Int) - 1) (n:Int) (-1))
  (hQ:∀(h1:Heap) tk acc,(∀b o,b≠I->s.heap.get? b=some o->h1.get? b=some o)->ItemsOf (fun i v=>∃t,v=Value.int ((n:Int) - 1+i*(-1)) t) acc n->Q acc.toList { s with heap:=h1,toks:=tk }):wpAny (model prog w) A (collect (.ref I)) Q E s:=by
 refine wpAny_collect_iter_range (Walks.range (A:=A.in1) hA I ((n:Int) - 1) (-1) n).toS (fun i s1 st=>⟨_,st,rfl⟩) ?_ ?_ (by simp) ?_ ?_ (by rw[sizeLine_eq];omega)
 ·show IsRangeIter s.heap I _ _ _
  simpa using hit
 ·intro b hb
  rw[List.mem_singleton.mp hb]
  exact Heap.lt_size hit
 ·intro s1 Q1 E1 st h
  refine hint (n:=n) (x:=(n:Int) - 1) hn ?_ h
  have st':IsRangeIter s1.heap I ((n:Int) - 1+((0:Nat):Int)*(-1)) ((n:Int) - ((0:Nat):Int)) (-1):=st
  simpa using st'
 ·intro s1 acc hm ha
  rw[Moved.eq_with hm]
  exact hQ s1.heap s1.toks acc (fun b o hb e=>hm.heap b o (by simpa using hb) e) ha
theorem meets_tn{n:Nat}{I:Addr}(hn:n<1000) :
  Meets (Builtin.«tuple.__new__» ⟨[.type "tuple",.ref I],[]⟩)
   (fun A R s=>A.handled=none/\IsRangeIter s.heap I ((n:Int) - 1) (n:Int) (-1)/\∀(h1:Heap) tk acc,(∀b o,b≠I->s.heap.get? b=some o->h1.get? b=some o)->ItemsOf (fun i v=>∃t,v=Value.int ((n:Int) - 1+i*(-1)) t) acc n ->
    R (.ok (.ret (.ref h1.objs.size))) { s with heap:=h1.push { cls:=.type "tuple",data:=.seq acc },toks:=tk }) :=
 .of_wp fun prog w A R s h=>by
  obtain⟨hA,hr,h⟩:=h
  have hsub:=sub_tuple_self
  have hinit:=init_tuple_lookup
  have hmh:=madeHere_tuple
  have hT:s.TypeIs (.ref I) "range_iterator":=⟨_,hr,rfl⟩
  have hA1:A.in1.handled=none:=hA
  wp_walk using wpAny_typeOf hT,collect_rr hA1 hn hr
  intro h1 tk acc hk hacc
  show wpAny _ _ (Builtin.Tuple.tupleExact acc.toList.toArray >>= fun v=>ret v) _ _ _
  unfold Builtin.Tuple.tupleExact
  rw[show acc.toList.toArray=acc by simp]
  refine wpAny_bind (wpAny_newObj_type (wpAny_pure ⟨_,rfl,h h1 tk acc hk hacc⟩) (show acc.size≤sizeLine by rw[hacc.1,sizeLine_eq];omega))
theorem call_tuple_rr{n:Nat}{prog:Program}{w:World}{A:Around}{E:Value->Shared->Prop}{s:Shared}{Q:Value->Shared->Prop}{I:Addr}(hn:n<1000)(hA:A.handled=none)(hr:IsRangeIter s.heap I ((n:Int) - 1) (n:Int) (-1))
  (q:∀(h1:Heap) tk acc,(∀b o,b≠I->s.heap.get? b=some o->h1.get? b=some o)->ItemsOf (fun i v=>∃t,v=Value.int ((n:Int) - 1+i*(-1)) t) acc n->Q (.ref h1.objs.size) { s with heap:=h1.push { cls:=.type "tuple",data:=.seq acc },toks:=tk }) :
  wpAny (model prog w) A (call (.type "tuple") [.ref I]) Q E s :=
 callType_new F.called_tuple (by decide) (F.typeCall_tuple_1 _) (F.newCall_tuple_1 _) (fun obj=>F.args_object_init_2 obj _) F.entry_tuple_new
  (meets_tn (n:=n) hn) ⟨hA,hr,fun h1 tk acc hk hacc=>⟨⟨_,Heap.get?_push_size _ rfl,rfl⟩,q h1 tk acc hk hacc⟩⟩
end RR
namespace L2
open PySem PySem.Spec PyProof.Rows
variable {X:Cx}{a:Expr}{ta:TE}{p p2 p3 pos pos2 pos3:Pos}
theorem vals_rr{n:Nat}{acc:Array Value}(h:ItemsOf (fun i v=>∃t,v=Value.int ((n:Int) - 1+i*(-1)) t) acc n):Vals (rngV n).reverse acc.toList:=by
 have e:∀(l:List Value) (m:Nat),l.length=m->(∀j v,l[j]?=some v->∃t,v=Value.int ((m:Int) - 1 - (j:Nat)) t)->Vals (rngV m).reverse l:=by
  intro l
  induction l with
  | nil=>intro m hm _;cases hm;exact .nil
  | cons v l ih =>
   intro m hm hh
   obtain⟨k,rfl⟩:∃k,m=k+1:=⟨l.length,by simpa using hm.symm⟩
   have e1:(rngV (k+1)).reverse=V.int (k:Nat)::(rngV k).reverse:=by
    unfold rngV
    rw[List.range_succ,List.map_append,List.reverse_append]
    rfl
   rw[e1]
   obtain⟨t,ev⟩:=hh 0 v rfl
   refine .cons ⟨t,by rw[ev];congr 1;omega⟩ (ih k (by simpa using hm) fun j w hj=>?_)
   obtain⟨t,ev⟩:=hh (j+1) w (by simpa using hj)
   exact⟨t,by rw[ev];congr 1;omega⟩
 refine e _ _ (by rw[Array.length_toList];exact h.1) fun j v hj=>?_
 obtain⟨t,ev⟩:=h.2 j v (by simpa using hj)
 exact⟨t,by rw[ev];congr 1;omega⟩
def tRvR(ta:TE):TE:=fun σ H Q=>ta σ H fun x H1=>∃n:Nat,[x]=[V.int (n:Nat)]/\n<1000/\∀q,H1 q=none->Q (.ref q) (upd H1 q (.tup (rngV n).reverse))
theorem pe_rvR(hc:X.calm=true)(hg:Gl X "tuple")(hm:X.mg "tuple"=none)(hg2:Gl X "reversed")(hm2:X.mg "reversed"=none)(hg3:Gl X "range")(hm3:X.mg "range"=none)(b1:bootBuiltins "tuple"=some (.type "tuple"))(b2:bootBuiltins "reversed"=some (.type "reversed"))(ha:PE X a ta)
  (he:starEach [.Call (.Name "reversed" p2) [.Call (.Name "range" p3) [a] [] pos3] [] pos2] X.env=[(false,eval (.Call (.Name "reversed" p2) [.Call (.Name "range" p3) [a] [] pos3] [] pos2) X.env)]:=by rfl)
  (he2:starEach [.Call (.Name "range" p3) [a] [] pos3] X.env=[(false,eval (.Call (.Name "range" p3) [a] [] pos3) X.env)]:=by rfl) (he3:starEach [a] X.env=[(false,eval a X.env)]:=by rfl)
  (hpl:(backTo pos (starEach [] X.env)).any (·.1)=false:=by rfl) (hpl2:(backTo pos2 (starEach [] X.env)).any (·.1)=false:=by rfl) (hpl3:(backTo pos3 (starEach [] X.env)).any (·.1)=false:=by rfl) :
  PE X (.Call (.Name "tuple" p) [.Call (.Name "reversed" p2) [.Call (.Name "range" p3) [a] [] pos3] [] pos2] [] pos) (tRvR ta):=by
 intro pins s σ H Q I h
 refine wpAny_Call_Name_kw (ld_blt I hg hm b1 ?_ (by decide) (by decide))
 refine PyProof.Rows.callWith_type1 ?_ he hpl
 rw[he]
 show wpAny _ _ (spliced ((false,eval (.Call (.Name "reversed" p2) [.Call (.Name "range" p3) [a] [] pos3] [] pos2) X.env)::[])) _ _ s
 refine Calls.spliced_cons ?_
 refine wpAny_Call_Name_kw (ld_blt I hg2 hm2 b2 ?_ (by decide) (by decide))
 refine PyProof.Rows.callWith_type1 ?_ he2 hpl2
 rw[he2]
 show wpAny _ _ (spliced ((false,eval (.Call (.Name "range" p3) [a] [] pos3) X.env)::[])) _ _ s
 refine Calls.spliced_cons ?_
 refine wpAny_Call_Name_kw (ld_blt I hg3 hm3 boot_range ?_ (by decide) (by decide))
 refine PyProof.Rows.callWith_type1 ?_ he3 hpl3
 refine thn (pa_cons ha pa_nil he3 pos3 pins s σ H (fun xs H1=>∃n:Nat,xs=[.int (n:Nat)]/\n<1000/\∀q,H1 q=none->Q (.ref q) (upd H1 q (.tup (rngV n).reverse))) I h) fun us s1 ⟨vs,H1,I1,r1,q1⟩=>?_
 obtain⟨n,rfl,hn,q⟩:=q1
 obtain⟨u,rfl,t,rfl⟩:=vals1 r1
 refine call_range_1 ?_
 refine Calls.spliced_nil ?_
 refine RR.call_rr (n:=n) hn (IsRange.new ..) ?_
 refine Calls.spliced_nil ?_
 refine RR.call_tuple_rr (n:=n) hn (I.ok.hd hc) (Heap.get?_push_size _ rfl) fun h1 tk acc kp hacc=>?_
 have k2:∀b o,s1.heap.get? b=some o->h1.get? b=some o:=fun b o e=>by
  refine kp b o (fun z=>?_) (Heap.get?_push_of_some _ (Heap.get?_push_of_some _ e))
  have h3:b<s1.heap.objs.size:=Heap.lt_size e
  rw[z]at h3
  rw[Heap.size_push]at h3
  exact absurd h3 (Nat.not_lt.mpr (Nat.le_succ _))
 have I2:Inv X pins σ H1 { s1 with heap:=h1,toks:=tk }:=I1.kept (t':=tk) k2
 refine⟨.ref _,_,I2.laid (t':=tk) (o:=.tup (rngV n).reverse) (fun b o e=>Heap.get?_push_of_some _ e) (Nat.le_refl _) ?_,rfl,q _ (I2.hok.fresh (Nat.le_refl _))⟩
 refine⟨by unfold rngV;rw[List.length_reverse,List.length_map,List.length_range,sizeLine_eq];omega,acc.toList,vals_rr hacc,?_⟩
 rw[show acc.toList.toArray=acc by simp]
 exact IsTup.new _ _
end L2
set_option linter.all false
set_option maxRecDepth 100000
set_option maxHeartbeats 4000000 -- own
namespace RT
open PySem PyProof.Rows
theorem meets_tn{r t:Addr}{its:Array Value}(ne:t≠r)(hz:its.size<2 ^ 20) :
  Meets (Builtin.«tuple.__new__» ⟨[.type "tuple",.ref r],[]⟩)
   (fun A R s=>A.handled=none/\IsRv s.heap r t ((its.size:Int) - 1)/\s.heap.IsTuple t its/\∀(h1:Heap) tk acc,(∀b o,b≠r->s.heap.get? b=some o->h1.get? b=some o)->ItemsOf (fun i v=>its[its.size - 1 - i]?=some v) acc its.size ->
    R (.ok (.ret (.ref h1.objs.size))) { s with heap:=h1.push { cls:=.type "tuple",data:=.seq acc },toks:=tk }) :=
 .of_wp fun prog w A R s h=>by
  obtain⟨hA,hr,ht,h⟩:=h
  have hsub:=sub_tuple_self
  have hinit:=init_tuple_lookup
  have hmh:=madeHere_tuple
  have hT:s.TypeIs (.ref r) "reversed":=hr.ty
  have hA1:A.in1.handled=none:=hA
  wp_walk using wpAny_typeOf hT,collect_rev hA1 hr ht ne hz
  intro h1 tk acc hk hacc
  show wpAny _ _ (Builtin.Tuple.tupleExact acc.toList.toArray >>= fun v=>ret v) _ _ _
  unfold Builtin.Tuple.tupleExact
  rw[show acc.toList.toArray=acc by simp]
  refine wpAny_bind (wpAny_newObj_type (wpAny_pure ⟨_,rfl,h h1 tk acc hk hacc⟩) (show acc.size≤sizeLine by rw[hacc.1,sizeLine_eq];omega))
end RT
namespace L2
open PySem PySem.Spec PyProof.Rows
variable {X:Cx}{a:Expr}{ta:TE}{p p2 pos pos2:Pos}
end L2
namespace U
open PySem PySem.Spec PyProof.Rows L2
variable {B:Bs}{X:Cx}{a:Expr}{ta:TE'}{p p2 pos pos2:Pos}
def rvT(x:PV)(H:PHp)(Q:VK'):Prop:=match x with
 | .tup l=>l.length≤1000/\Q (.tup l.reverse) H
 | _=>False
theorem w_rT{l:List PV}{H:PHp}{Q:VK'}:rvT (.tup l) H Q=(l.length≤1000/\Q (.tup l.reverse) H):=rfl
def uRvT(ta:TE'):TE':=fun σ H Q=>ta σ H fun x H1=>rvT x H1 Q
theorem rps_rev{K:PySem.W.Frag}{H:Hp}:∀{l:List PV} {us:List V},RPs K H l us->RPs K H l.reverse us.reverse
 | [],_,h=>by simp only[RPs]at h;subst h;simp[RPs]
 | x::l,_,h=>by
  simp only[RPs]at h
  obtain⟨u,r,rfl,a,b⟩:=h
  rw[List.reverse_cons,List.reverse_cons]
  exact RPs.append K (rps_rev b) (RPs.cons K a (RPs.nil K))
theorem boot_rev:bootBuiltins "reversed"=some (.type "reversed"):=by decide +kernel
end U
set_option linter.all false
set_option maxRecDepth 100000
set_option maxHeartbeats 4000000 -- own
namespace U
open PySem PySem.Spec PyProof.Rows L2
variable {B:Bs}{X:Cx}{a:Expr}{ta:TE'}{p p2 p3 pos pos2 pos3:Pos}
def rvR(x:PV)(H:PHp)(Q:VK'):Prop:=match x with
 | .int i=>0≤i/\i<1000/\Q (.tup (rngL 0 i.toNat).reverse) H
 | _=>False
theorem w_rR{i:Int}{H:PHp}{Q:VK'}:rvR (.int i) H Q=(0≤i/\i<1000/\Q (.tup (rngL 0 i.toNat).reverse) H):=rfl
def uRvR(ta:TE'):TE':=fun σ H Q=>ta σ H fun x H1=>rvR x H1 Q
theorem qe_rvR(hc:X.calm=true)(hg:Gl X "tuple")(hm:X.mg "tuple"=none)(hg2:Gl X "reversed")(hm2:X.mg "reversed"=none)(hg3:Gl X "range")(hm3:X.mg "range"=none)(b1:bootBuiltins "tuple"=some (.type "tuple"))(ha:PE' X B a ta)
  (he:starEach [.Call (.Name "reversed" p2) [.Call (.Name "range" p3) [a] [] pos3] [] pos2] X.env=[(false,eval (.Call (.Name "reversed" p2) [.Call (.Name "range" p3) [a] [] pos3] [] pos2) X.env)]:=by rfl)
  (he2:starEach [.Call (.Name "range" p3) [a] [] pos3] X.env=[(false,eval (.Call (.Name "range" p3) [a] [] pos3) X.env)]:=by rfl) (he3:starEach [a] X.env=[(false,eval a X.env)]:=by rfl)
  (hpl:(backTo pos (starEach [] X.env)).any (·.1)=false:=by rfl) (hpl2:(backTo pos2 (starEach [] X.env)).any (·.1)=false:=by rfl) (hpl3:(backTo pos3 (starEach [] X.env)).any (·.1)=false:=by rfl) :
  PE' X B (.Call (.Name "tuple" p) [.Call (.Name "reversed" p2) [.Call (.Name "range" p3) [a] [] pos3] [] pos2] [] pos) (uRvR ta) :=
 pe_imp (pe_rvR hc hg hm hg2 hm2 hg3 hm3 b1 boot_rev ha he he2 he3 hpl hpl2 hpl3) fun σ H Q h=>by
  obtain⟨σ',H',Q',s,h,k⟩:=h
  refine⟨σ',H',_,s,h,fun x' H1' x H1 h1 rx s1 e1=>?_⟩
  cases x' with
  | int i =>
   obtain⟨h0,h3,q⟩:=h1
   simp only[RP]at rx
   refine⟨i.toNat,by rw[rx,Int.toNat_of_nonneg h0],by omega,fun q' hq=>?_⟩
   exact k _ H1' _ _ q (newT hq (rps_rev rps_rng)) (s1.hid hq) (e1.trans (Ev.hid hq))
  | _=>exact h1.elim
end U
set_option linter.all false
set_option maxRecDepth 100000
set_option maxHeartbeats 4000000 -- own
namespace L2
open PySem PySem.Spec PyProof.Rows
variable {X:Cx}
def isBl(b:Bool)(v:Value):Bool:=match v with
 | .bool c=>c==b
 | _=>false
theorem bls_mem:∀{bs:List Bool} {us:List Value},Vals (bs.map V.bl) us->∀y∈us,∃c,y=Value.bool c
 | [],_,r,y,hy=>by cases r;cases hy
 | b::bs,_,r,y,hy=>by
  cases r with
  | cons h r =>
   rcases List.mem_cons.mp hy with e | e
   ·exact⟨b,e.trans h⟩
   ·exact bls_mem r y e
theorem bls_get:∀{bs:List Bool} {us:List Value},Vals (bs.map V.bl) us->∀(j:Nat) (h1:j<us.length) (h2:j<bs.length),us[j]=Value.bool bs[j]
 | b::bs,_,r,0,h1,h2=>by cases r with | cons h r=>exact h
 | b::bs,_,r,j+1,h1,h2=>by
  cases r with
  | cons h r=>exact bls_get r j (Nat.lt_of_succ_lt_succ h1) (Nat.lt_of_succ_lt_succ h2)
theorem before_first:∀{bs:List Bool} {j:Nat},j<bs.idxOf true->∀h:j<bs.length,bs[j]=false
 | b::bs,0,h,_=>by cases b<;>simp_all
 | b::bs,j+1,h,h2=>by
  cases b with
  | true=>simp at h
  | false =>
   have h':j<bs.idxOf true:=by
    rw[List.idxOf_cons]at h
    exact Nat.lt_of_succ_lt_succ h
   exact before_first h' (Nat.lt_of_succ_lt_succ h2)
theorem mt_indexB:MtR X "list.index" (fun x xs H Q=>∃(a:Addr) (bs:List Bool),x=.ref a/\xs=[.bl true]/\SqL X.K H a (bs.map V.bl)/\true∈bs/\Q (.int (bs.idxOf true:Nat)) H):=by
 intro pins s σ H x xs v us Q I rx rv h
 obtain⟨a,bs,rfl,rfl,hq,ht,q⟩:=h
 cases rx
 obtain⟨u,rfl,ru⟩:=rv.one
 cases ru
 obtain⟨its,r,p,hz⟩:=I.list hq
 obtain⟨⟨cls,dd,data,sl⟩,ho,hc,n,hd⟩:=id p.isList
 simp only at hc hd
 subst hc hd
 have hl:bs.length=its.length:=by have:=Paired.length r;rwa [List.length_map]at this
 have hj:bs.idxOf true<bs.length:=List.idxOf_lt_length_iff.mpr ht
 have h63:=line63
 rw[List.length_map]at hz
 refine call_meets PySem.F.slot_list_index ⟨_,ho,rfl⟩ PySem.F.entry_list_index (PySem.F.args_list_index_2 _ _)
  (PySem.SeqAt.list_indexAt a its.toArray n dd sl (.bool true) (isBl true) (bs.idxOf true) (by simpa[←hl]using hj) (by omega) ?_ ?_) ⟨ho,fun y hy=>?_,?_⟩
 ·show isBl true its[bs.idxOf true]=true
  rw[bls_get r _ (by omega) hj]
  show(bs[bs.idxOf true]==true)=true
  have e:=List.getElem_idxOf hj
  simpa using e
 ·intro j hjs hlt
  show isBl true its[j]=false
  rw[bls_get r j (by simpa using hjs) (by omega)]
  show(bs[j]==true)=false
  rw[before_first hlt (by omega)]
  rfl
 ·obtain⟨c,rfl⟩:=bls_mem r y (by simpa using hy)
  exact SeqAt.EqAt.bool_bool c true
 ·exact⟨.int (bs.idxOf true:Nat),H,I.kept fun b o e=>e,⟨_,rfl⟩,q⟩
end L2
namespace U
open PySem PySem.Spec PyProof.Rows L2
variable {B:Bs}
def uIndexT:PV->List PV->PHp->VK'->Prop:=fun x vs H Q=>match x,vs with
 | .ref a,[.bl true]=>∃bs:List Bool,H a=some (.lst (bs.map PV.bl))/\true∈bs/\Q (.int (bs.idxOf true:Nat)) H
 | _,_=>False
theorem w_ixt{a:Addr}{H:PHp}{Q:VK'}:uIndexT (.ref a) [.bl true] H Q=∃bs:List Bool,H a=some (.lst (bs.map PV.bl))/\true∈bs/\Q (.int (bs.idxOf true:Nat)) H:=rfl
theorem rps_bls{K:PySem.W.Frag}{H:Hp}:∀{bs:List Bool} {us:List V},RPs K H (bs.map PV.bl) us->us=bs.map V.bl
 | [],_,r=>by simpa[RPs]using r
 | b::bs,_,r=>by
  simp only[List.map_cons,RPs]at r
  obtain⟨u,r1,e,ru,r2⟩:=r
  simp only[RP]at ru
  rw[e,ru,rps_bls r2];rfl
theorem vm_indexT{K:PySem.W.Frag}:VM K B uIndexT (fun x xs H Q=>∃(a:Addr) (bs:List Bool),x=.ref a/\xs=[.bl true]/\SqL K H a (bs.map V.bl)/\true∈bs/\Q (.int (bs.idxOf true:Nat)) H):=by
 intro σ' σ H' H x' xs' x xs Q' Q s rx r h k
 unfold uIndexT at h
 split at h
 ·rename_i a
  obtain⟨bs,e,ht,h⟩:=h
  obtain⟨us,q,r2⟩:=s.hp _ _ e
  simp only[RP,RPs]at rx r
  obtain⟨u,r1,rfl,ru,rfl⟩:=r
  subst rx;subst ru
  rw[rps_bls r2]at q
  exact⟨a,bs,rfl,rfl,.inl (.inl q),ht,k _ _ _ _ h (by simp[RP]) s (Ev.refl _ _)⟩
 ·exact h.elim
end U
set_option linter.all false
set_option maxRecDepth 100000
set_option maxHeartbeats 4000000 -- own
namespace U
open PySem PySem.Spec PyProof.Rows L2
variable {B:Bs}{X:Cx}
def rEqP(K:PySem.W.Frag)(g:Bool->Bool):R2:=fun x y H Q=>∃a b x1 x2 y1 y2 d1 d2 e1 e2,x=.ref a/\y=.ref b/\SqT K H a [x1,x2]/\SqT K H b [y1,y2] /\
 (RDv K H d1 x1/\RDv K H d2 x2/\RDv K H e1 y1/\RDv K H e2 y2)/\(flat 8 d1=true/\flat 8 d2=true/\flat 8 e1=true/\flat 8 e2=true)/\Q (.bl (g (deq d1 e1&&deq d2 e2))) H
theorem two{R:V->Value->Prop}{x y:V}{its:List Value}(h:Paired R [x,y] its):∃u v,its=[u,v]/\R x u/\R y v:=by
 cases h with
 | cons a h=>cases h with
  | cons b h=>cases h;exact⟨_,_,rfl,a,b⟩
open SeqAt in
theorem eqp_at{pins:List (Addr×Obj)}{s:Shared}{σ:L2.St}{H:Hp}(I:Inv X pins σ H s){A:Around}(hu:A.units+64<cLine){d1 d2 e1 e2:PV}{u1 u2 v1 v2:Value}(f:flat 8 d1=true/\flat 8 d2=true/\flat 8 e1=true/\flat 8 e2=true)
  (r1:RD X.K H d1 u1) (r2:RD X.K H d2 u2) (r3:RD X.K H e1 v1) (r4:RD X.K H e2 v2):∀(j:Nat) (h1:j<[u1,u2].toArray.size) (h2:j<[v1,v2].toArray.size),EqAt A.in1 s ([u1,u2].toArray[j]) ([v1,v2].toArray[j]) ((fun i=>deq ([d1,d2].getD i .non) ([e1,e2].getD i .non)) j):=by
 have hu1:A.in1.units+8<cLine:=by show A.units+1+8<cLine;omega
 intro j h1 h2
 match j,h1,h2 with
 | 0,_,_=>exact(eq_core I 8 hu1 f.1 f.2.2.1 r1 r3).1
 | 1,_,_=>exact(eq_core I 8 hu1 f.2.1 f.2.2.2 r2 r4).1
 | j+2,h1,_=>exact absurd h1 (by simp)
open SeqAt in
theorem op_eqP(hu:X.A.units+64<cLine):OpR X (compareOp .Eq) (rEqP X.K fun b=>b):=by
 intro pins s σ H x y v u Q I rx ry h
 obtain⟨a,b,x1,x2,y1,y2,d1,d2,e1,e2,rfl,rfl,q1,q2,⟨r1,r2,r3,r4⟩,f,q⟩:=h
 cases rx;cases ry
 obtain⟨its,rv,p,_⟩:=I.tuple q1
 obtain⟨its',rv',p',_⟩:=I.tuple q2
 obtain⟨u1,u2,rfl,ru1,ru2⟩:=two rv
 obtain⟨v1,v2,rfl,rv1,rv2⟩:=two rv'
 have:=RcAt.tuples (A:=X.A) p p' (by omega) (eqp_at I hu f (r1.rd ru1) (r2.rd ru2) (r3.rd rv1) (r4.rd rv2))
 have e:((List.range (min [u1,u2].toArray.size [v1,v2].toArray.size)).all (fun i=>deq ([d1,d2].getD i .non) ([e1,e2].getD i .non))&&[u1,u2].toArray.size==[v1,v2].toArray.size)=(deq d1 e1&&deq d2 e2):=by
  simp[List.range_succ]
 rw[e]at this
 exact this _ _ _ _ ⟨.bl _,H,I,rfl,q⟩
open SeqAt in
theorem op_neP(hu:X.A.units+64<cLine):OpR X (compareOp .NotEq) (rEqP X.K fun b=>!b):=by
 intro pins s σ H x y v u Q I rx ry h
 obtain⟨a,b,x1,x2,y1,y2,d1,d2,e1,e2,rfl,rfl,q1,q2,⟨r1,r2,r3,r4⟩,f,q⟩:=h
 cases rx;cases ry
 obtain⟨its,rv,p,_⟩:=I.tuple q1
 obtain⟨its',rv',p',_⟩:=I.tuple q2
 obtain⟨u1,u2,rfl,ru1,ru2⟩:=two rv
 obtain⟨v1,v2,rfl,rv1,rv2⟩:=two rv'
 have:=RcNeAt.tuples (A:=X.A) p p' (by omega) (eqp_at I hu f (r1.rd ru1) (r2.rd ru2) (r3.rd rv1) (r4.rd rv2))
 have e:((List.range (min [u1,u2].toArray.size [v1,v2].toArray.size)).all (fun i=>deq ([d1,d2].getD i .non) ([e1,e2].getD i .non))&&[u1,u2].toArray.size==[v1,v2].toArray.size)=(deq d1 e1&&deq d2 e2):=by
  simp[List.range_succ]
 rw[e]at this
 exact this _ _ _ _ ⟨.bl _,H,I,rfl,q⟩
def uEqP(g:Bool->Bool):R2':=fun x y H Q=>match x,y with
 | .tup [x1,x2],.tup [y1,y2]=>withD x1 H fun d1=>withD x2 H fun d2=>withD y1 H fun e1=>withD y2 H fun e2=>(flat 8 d1=true/\flat 8 d2=true/\flat 8 e1=true/\flat 8 e2=true)/\Q (.bl (g (deq d1 e1&&deq d2 e2))) H
 | _,_=>False
theorem w_ep{g:Bool->Bool}{x1 x2 y1 y2:PV}{H:PHp}{Q:VK'}:uEqP g (.tup [x1,x2]) (.tup [y1,y2]) H Q=withD x1 H fun d1=>withD x2 H fun d2=>withD y1 H fun e1=>withD y2 H fun e2=>(flat 8 d1=true/\flat 8 d2=true/\flat 8 e1=true/\flat 8 e2=true)/\Q (.bl (g (deq d1 e1&&deq d2 e2))) H:=rfl
theorem w_wT{l:List PV}{H:PHp}{k:PV->Prop}:withD (.tup l) H k=k (.tup l):=rfl
theorem w_wR{a:Addr}{H:PHp}{k:PV->Prop}:withD (.ref a) H k=∃l,H a=some (.lst l)/\k (.fls l):=rfl
theorem vr_eqP{K:PySem.W.Frag}{g:Bool->Bool}:VR K B (uEqP g) (rEqP K g):=by
 intro σ' σ H' H x' y' x y Q' Q s rx ry h k
 unfold uEqP at h
 split at h
 ·rename_i x1 x2 y1 y2
  simp only[RP,RPs]at rx ry
  obtain⟨a,_,rfl,qa,u1,_,rfl,ru1,u2,_,rfl,ru2,rfl⟩:=rx
  obtain⟨b,_,rfl,qb,v1,_,rfl,rv1,v2,_,rfl,rv2,rfl⟩:=ry
  obtain⟨d1,r1,h⟩:=withD.ex h s ru1
  obtain⟨d2,r2,h⟩:=withD.ex h s ru2
  obtain⟨e1,r3,h⟩:=withD.ex h s rv1
  obtain⟨e2,r4,f,q⟩:=withD.ex h s rv2
  exact⟨a,b,u1,u2,v1,v2,d1,d2,e1,e2,rfl,rfl,qa,qb,⟨r1,r2,r3,r4⟩,f,k _ _ _ _ q (by simp[RP]) s (Ev.refl _ _)⟩
 ·exact h.elim
end U
set_option linter.all false
set_option maxRecDepth 100000
set_option maxHeartbeats 4000000 -- own
namespace L2
theorem within_len:∀{b a:List Nat},a.Nodup->(∀x∈a,x∈b)->a.length≤b.length
 | [],a,_,h=>by
  cases a with
  | nil=>exact Nat.le_refl _
  | cons x a=>exact absurd (h x List.mem_cons_self) List.not_mem_nil
 | y::b,a,na,h=>by
  have e:=within_len (b:=b) (a:=a.erase y) (na.erase y) fun x hx=>by
   have hm:=(na.mem_erase_iff).mp hx
   rcases List.mem_cons.mp (h x hm.2)with q | q
   ·exact absurd q hm.1
   ·exact q
  have l:=List.length_erase (a:=y) (l:=a)
  rw[List.length_cons]
  split at l<;>omega
theorem within_lt:∀{b a:List Nat},¬b.Nodup->a.Nodup->(∀x∈a,x∈b)->a.length<b.length
 | [],a,nb,_,_=>absurd List.nodup_nil nb
 | y::b,a,nb,na,h=>by
  by_cases hy:y∈b
  ·have:=within_len (b:=b) na fun x hx=>by
    rcases List.mem_cons.mp (h x hx)with q | q
    ·rw[q];exact hy
    ·exact q
   rw[List.length_cons];omega
  ·have e:=within_lt (b:=b) (a:=a.erase y) (fun n=>nb (List.nodup_cons.mpr ⟨hy,n⟩)) (na.erase y) fun x hx=>by
    have hm:=(na.mem_erase_iff).mp hx
    rcases List.mem_cons.mp (h x hm.2)with q | q
    ·exact absurd q hm.1
    ·exact q
   have l:=List.length_erase (a:=y) (l:=a)
   rw[List.length_cons]
   split at l<;>omega
theorem lof_two{ns:List Nat}(hin:∀n∈ns,n<6)(nd:¬ns.Nodup):(SI.lof ns).length<ns.length :=
 within_lt nd (SI.tab3 _ (SI.lof_subs hin)).2.2.1 fun x hx=>SI.mem_lof.mp hx
end L2
namespace U
open PySem PySem.Spec PyProof.Rows L2
variable {B:Bs}{X:Cx}{a b e:Expr}{ta tb:TE'}{p p2 pos pos2:Pos}
def lenSetJ(x:PV)(H:PHp)(Q:VK'):Prop:=match x with
 | .ref a=>∃ns:List Nat,H a=some (.lst (ns.map natP))/\(∀n∈ns,n<6)/\Q (.int (SI.lof ns).length) H
 | _=>False
theorem w_lj{a:Addr}{H:PHp}{Q:VK'}:lenSetJ (.ref a) H Q=∃ns:List Nat,H a=some (.lst (ns.map natP))/\(∀n∈ns,n<6)/\Q (.int (SI.lof ns).length) H:=rfl
def uLenSetJ(ta:TE'):TE':=fun σ H Q=>ta σ H fun x H1=>lenSetJ x H1 Q
theorem qe_len_setJ(hc:X.calm=true)(hgl:Gl X "len")(hml:X.mg "len"=none)(hgs:Gl X "set")(hms:X.mg "set"=none)(bs:bootBuiltins "set"=some (.type "set"))(ha:PE' X B e ta)
  (he:starEach [.Call (.Name "set" p2) [e] [] pos2] X.env=[(false,eval (.Call (.Name "set" p2) [e] [] pos2) X.env)]:=by rfl) (he2:starEach [e] X.env=[(false,eval e X.env)]:=by rfl) :
  PE' X B (.Call (.Name "len" p) [.Call (.Name "set" p2) [e] [] pos2] [] pos) (uLenSetJ ta) :=
 pe_imp (pe_callB call_lenI hgl hml PySem.boot_len (pa_cons (pe_callTy (call_setI hc) hgs hms bs (pa_cons ha pa_nil he2) (by decide) (by decide) he2 rfl) pa_nil he) (by decide) (by decide) he rfl) fun σ H Q h=>by
  obtain⟨σ',H',Q',s,h,k⟩:=h
  refine⟨σ',H',_,s,h,fun x' H1' x H1 h1 rx s1 e1=>?_⟩
  cases x' with
  | ref a =>
   obtain⟨ns,ea,hin,q⟩:=h1
   simp only[RP]at rx
   subst rx
   obtain⟨us,eg,r2⟩:=s1.hp _ _ ea
   rw[rps_nats r2]at eg
   refine⟨a,ns,rfl,.inl (.inl eg),hin,fun S hS=>⟨S,SI.lof ns,rfl,upd_same,?_⟩⟩
   exact k _ _ _ _ q (by simp[RP]) (s1.hid hS) (e1.trans (Ev.hid hS))
  | _=>exact h1.elim
end U
set_option linter.all false
set_option maxRecDepth 100000
set_option maxHeartbeats 4000000 -- own
namespace L2
open PySem PySem.Spec PyProof.Rows
variable {X:Cx}
theorem pre_take(ns:List Int):∀i,i≤ns.length->preSum (fun j=>ns.getD j 0) i=(ns.take i).sum
 | 0,_=>by simp[preSum]
 | i+1,h=>by
  have hi:i<ns.length:=by omega
  rw[preSum,pre_take ns i (by omega),List.take_succ,List.getElem?_eq_getElem hi,List.sum_append]
  simp[List.getD_eq_getElem?_getD,List.getElem?_eq_getElem hi]
theorem call_sumI(hc:X.calm=true):CallR X (.builtin "sum") (fun xs H Q=>∃(a:Addr) (ns:List Int),xs=[.ref a]/\SqL X.K H a (ns.map V.int)/\Q (.int ns.sum) H):=by
 intro pins s σ H xs us Q I r h
 obtain⟨a,ns,rfl,hq,q⟩:=h
 obtain⟨u,rfl,ru⟩:=Vals.one r
 cases ru
 obtain⟨its,rv,p,hz⟩:=I.list hq
 have hl:s.heap.IsList a its.toArray:=p.isList
 have llt:a<s.heap.objs.size:=by obtain⟨o,e,_⟩:=hl;exact Heap.lt_size e
 have hne:a≠s.heap.objs.size:=Nat.ne_of_lt llt
 have hlen:its.length=ns.length:=by have:=Paired.length rv;rw[List.length_map]at this;exact this.symm
 refine call_sum_walkAnyS (wpAny_pyIter_list hl ?_)
 refine⟨s.heap.objs.size,[s.heap.objs.size,a],[s.heap.objs.size],_,its.toArray.size,_,_,fun i=>ns.getD i 0,rfl,(Walks.list (by simpa using I.ok.hd hc) _ a hne _).toS,⟨⟨_,Heap.get?_push_size _ rfl,rfl,rfl⟩,hl.at fun o e=>Heap.get?_push_of_some _ e⟩,fun b hb=>?_,fun i v hv=>?_,fun s' t' hm=>?_⟩
 ·rw[Heap.size_push]
  simp only[List.mem_cons,List.not_mem_nil,or_false]at hb
  rcases hb with e | e
  ·rw[e];exact Nat.lt_succ_self _
  ·rw[e];exact Nat.lt_succ_of_lt llt
 ·have hv':its[i]?=some v:=by simpa using hv
  have hi:i<ns.length:=by rw[←hlen];exact(List.getElem?_eq_some_iff.mp hv').1
  obtain⟨u,eu,ru⟩:=rv.get (List.getElem?_eq_getElem (by rw[List.length_map];exact hi))
  rw[hv']at eu
  cases eu
  rw[List.getElem_map]at ru
  obtain⟨tk,rfl⟩:=ru
  refine⟨tk,?_⟩
  show _=Value.int (ns.getD i 0) tk
  rw[List.getD_eq_getElem?_getD,List.getElem?_eq_getElem hi]
  rfl
 ·have e:preSum (fun i=>ns.getD i 0) its.toArray.size=ns.sum:=by
   rw[List.size_toArray,hlen,pre_take ns ns.length (Nat.le_refl _),List.take_length]
  rw[e,Moved.eq_with hm]
  refine⟨.int ns.sum,H,I.kept (t':=s'.toks) fun b o e=>?_,⟨_,rfl⟩,q⟩
  exact hm.heap b o (by simpa using Nat.ne_of_lt (Heap.lt_size e)) (Heap.get?_push_of_some _ e)
end L2
namespace U
open PySem PySem.Spec PyProof.Rows L2
variable {B:Bs}{X:Cx}{a b:Expr}{ta tb:TE'}{pos:Pos}
def uSum:List PV->PHp->VK'->Prop:=arg1 fun x H Q=>match x with
 | .ref a=>∃ns:List Int,H a=some (.lst (ns.map PV.int))/\Q (.int ns.sum) H
 | _=>False
theorem w_su{a:Addr}{H:PHp}{Q:VK'}:uSum [.ref a] H Q=∃ns:List Int,H a=some (.lst (ns.map PV.int))/\Q (.int ns.sum) H:=rfl
theorem vc_sum{K:PySem.W.Frag}:VC K B uSum (fun xs H Q=>∃(a:Addr) (ns:List Int),xs=[.ref a]/\SqL K H a (ns.map V.int)/\Q (.int ns.sum) H):=by
 intro σ' σ H' H xs' xs Q' Q s r h k
 obtain⟨x',x,rfl,rfl,rx,h⟩:=arg1.ex h r
 cases x' with
 | ref a =>
  obtain⟨ns,ea,q⟩:=h
  simp only[RP]at rx
  subst rx
  obtain⟨us,e,r2⟩:=s.hp _ _ ea
  rw[rps_ints r2]at e
  exact⟨a,ns,rfl,.inl (.inl e),k _ _ _ _ q (by simp[RP]) s (Ev.refl _ _)⟩
 | _=>exact h.elim
end U
set_option linter.all false
set_option maxRecDepth 100000
set_option maxHeartbeats 4000000
namespace U
open PySem PySem.Spec PyProof.Rows L2
variable {B:Bs}
section
variable {X:Cx}{k:Nat}{f C:Addr}{fd:FuncData}{ps:List Str}{sp:Sp'}{E:XK}{E':XK'}{x m:Str}{p pos apos:Pos}{e o:Expr}{es:List Expr}{ta:TE'}{t:TA'}
theorem low_methX{K:PySem.W.Frag}(hE:XL K B E' E){σ:L2.St}{H:Hp}{Q:VK}(h:low K B (uMeth C m sp E' ta t) σ H Q):tMeth C m (lowSp K sp) [] E (low K B ta) (lowA K B t) σ H Q:=by
 obtain⟨σ',H',Q',s,h,k⟩:=h
 refine⟨σ',H',_,s,h,fun x' H1' x H1 h1 rx s1 e1=>?_⟩
 obtain⟨hi,h1⟩:=h1
 cases x' with
 | ref a =>
  obtain⟨dx,fs,ea,l⟩:=hi
  simp only[RP]at rx
  subst rx
  obtain⟨gs,eg,fr⟩:=s1.hp _ _ ea
  refine⟨a,dx,gs,rfl,eg,frel_none fr l,σ',H1',_,s1,h1,fun vs' H2' vs H2 h2 r2 s2 e2=>?_⟩
  show lowSp K sp (V.ref a::(vs++[])) H2 Q E
  rw[List.append_nil]
  exact⟨.ref a::vs',H2',Q',E',RPs.cons _ (by simp[RP]) r2,s2.hp,h2,fun v' H3' v H3 q r3 h3 e3=>k v' H3' v H3 q r3 (s2.kp e3 h3) ((e1.trans e2).trans e3),fun c d H3' H3 q h3 e3=>hE c d H3' H3 q h3 (s2.ev.trans e3)⟩
 | _=>exact hi.elim
theorem qe_methX{pl:Sem Bool}(l:Lv X E)(pn:Plain X)(hE:XL X.K B E' E)(he:PE' X B o ta)(cl:Cls X.K C)(hm:Meth X.K C m f)(F:FnOk' X.prog X.w X.K X.mg X.base (CXU X.prog X.w) k f fd ps sp)(hr:Room k X.A)(hb:Binds X.K fd ps [])(ha:PA' X B (e::es) t)
  (hst:starEach (e::es) X.env=(false,eval e X.env)::starEach es X.env:=by rfl) (hpl:(backTo pos (starEach es X.env)).any (·.1)=false:=by rfl)
  (ht:eval (.Call (.Attribute o m apos) (e::es) [] pos) X.env=(do
   let ov←eval o X.env
   standAt apos.atName
   let (f,first)←holding [ov] (getMethod ov m pl)
   callWith pos f first (backTo pos (starEach (e::es) X.env)) (backToKw pos (keywordEach [] X.env))):=by rfl) :
  PE' X B (.Call (.Attribute o m apos) (e::es) [] pos) (uMeth C m sp E' ta t):=pe_imp (pe_meth he cl hm F hr hb .nil (lv_pass l pn) ha hst hpl ht) fun _ _ _ h=>low_methX hE h
def xMeth(C:Addr)(m:Str)(sp:Sp')(ta:TE')(t:TA'):TX':=fun σ H Q E=>ta σ H fun x H1=>isIn C m x H1/\t σ H1 fun vs H2=>sp (x::vs) H2 Q E
end
end U
set_option linter.all false
set_option maxRecDepth 100000
set_option maxHeartbeats 4000000
namespace L2
open PySem PySem.Spec PyProof.Rows
section
variable {prog:Program}{w:World}{A:Around}{E:Value->Shared->Prop}{s:Shared}
theorem getItem_tuple_whole{t sl:Addr}{items:Array Value}{vl vu:Value}{lo hi:Option Int}{Q:Value->Shared->Prop}(tA:IsTup s.heap t items)(sA:s.heap.IsSliceOf sl vl vu .none)(pA:IsPart vl lo)(pB:IsPart vu hi)
  (hw:HT.sIx items.size 0 lo=0/\HT.sIx items.size items.size hi=items.size) (h:Q (.ref t) s):wpAny (model prog w) A (getItem (.ref t) (.ref sl)) Q E s:=by
 obtain⟨os,hos,hcs,hds⟩:=id sA
 have tB:s.TypeIs (.ref sl) "slice":=⟨os,hos,hcs⟩
 unfold getItem
 try with_reducible refine wpAny_holding ?_
 first | refine wpAny_bind (wpAny_pure ?_) | skip
 refine wpAny_bind (wpAny_sequenceKey tA.typeIs (by decide) ?_)
 refine wpAny_bind (wpAny_callSpecial?_slot (name:=Str.ofString "__getitem__") tA.typeIs PyProof.Rows.slot_tuple_getitem
  (wpAny_call_entry PyProof.Rows.slot_tuple_getitem tA.typeIs entry_tuple_getitem ?_ (args_tuple_getitem _ _)))
 show wpAny _ _ (Builtin.Tuple.tupleItemsOf (.ref t) >>= _) _ _ s
 refine wpAny_bind (tupleItemsOf_ tA ?_)
 refine wpAny_bind (wpAny_typeOf tB ?_)
 rw[if_pos (by decide)]
 refine wpAny_bind (HT.sliceApplied_gen sA pA pB ?_)
 have hyes:(((HT.sIx items.size 0 lo:Nat):Int)==0&&(1:Int)==1&&(HT.sIx items.size items.size hi - HT.sIx items.size 0 lo)==items.size)=true:=by
  rw[hw.1,hw.2];simp
 show wpAny _ _ (if (((HT.sIx items.size 0 lo:Nat):Int)==0&&(1:Int)==1&&(HT.sIx items.size items.size hi - HT.sIx items.size 0 lo)==items.size)=true then _ else _) _ _ s
 rw[if_pos hyes]
 unfold Builtin.Tuple.tupleIsExact
 have hT:=tA.typeIs
 wp_walk
 exact⟨_,rfl,wpAny_pure h⟩
end
variable {X:Cx}
def rSlA(K:PySem.W.Frag):V->Option Int->Option Int->Hp->VK->Prop:=fun x lo hi H Q=>∃a xs,x=.ref a/\SqT K H a xs /\
 ((HT.sIx xs.length 0 lo=0/\HT.sIx xs.length xs.length hi=xs.length)->Q (.ref a) H)/\(¬(HT.sIx xs.length 0 lo=0/\HT.sIx xs.length xs.length hi=xs.length)->∀p,H p=none->Q (.ref p) (upd H p (.tup (cutV xs lo hi))))
theorem sl_tupA:SlR X (rSlA X.K):=by
 intro pins s σ H x v vl vu lo hi sl Q I rx hs pl pu h
 obtain⟨a,xs,rfl,hx,q1,q2⟩:=h
 by_cases hw:HT.sIx xs.length 0 lo=0/\HT.sIx xs.length xs.length hi=xs.length
 ·cases rx
  obtain⟨its,r,ht,hz⟩:=I.tuple hx
  have hlen:its.toArray.size=xs.length:=by rw[List.size_toArray];exact r.length.symm
  refine⟨"tuple",_,PyProof.Rows.slot_tuple_getitem.lookup,ht.typeIs,?_⟩
  exact getItem_tuple_whole ht hs pl pu (by rw[hlen];exact hw) ⟨.ref a,H,I,rfl,q1 hw⟩
 ·exact sl_tup pins s σ H _ v vl vu lo hi sl Q I rx hs pl pu ⟨a,xs,rfl,hx,hw,q2 hw⟩
end L2
namespace U
open PySem PySem.Spec PyProof.Rows L2
variable {B:Bs}{X:Cx}{e:Expr}{ta:TE'}{pos:Pos}
def sliceT(x:PV)(lo hi:Option Int)(H3:PHp)(Q:VK'):Prop:=match x with
 | .tup l=>Q (.tup (cutP l lo hi)) H3
 | _=>False
theorem w_sT{l:List PV}{lo hi:Option Int}{H:PHp}{Q:VK'}:sliceT (.tup l) lo hi H Q=Q (.tup (cutP l lo hi)) H:=rfl
def uSliceT(ta:TE')(tl th:TO'):TE':=fun σ H Q=>ta σ H fun x H1=>tl σ H1 fun lo H2=>th σ H2 fun hi H3=>sliceT x lo hi H3 Q
theorem qe_sliceT{lo hi:Option Expr}{tl th:TO'}{p2:Pos}(he:PE' X B e ta)(hl:PO' X B lo tl)(hu:PO' X B hi th):PE' X B (.Subscript e (.Slice lo hi none p2) pos) (uSliceT ta tl th) :=
 pe_imp (pe_slice sl_tupA he hl hu) fun σ H Q ⟨σ',H',Q',s,h,k⟩=>by
 refine⟨σ',H',_,s,h,fun x H1' v H1 h1 r1 s1 e1=>⟨σ',H1',_,s1,h1,fun l H2' H2 h2 s2 e2=>⟨σ',H2',_,s2,h2,fun u H3' H3 h3 s3 e3=>?_⟩⟩⟩
 have r3:=RP.kp _ (e3.kp s2.hp) (RP.kp _ (e2.kp s1.hp) r1)
 have e123:=e1.trans (e2.trans e3)
 cases x with
 | tup xs =>
  have r3':=r3
  simp only[RP]at r3
  obtain⟨a,us,e,q,r⟩:=r3
  refine⟨a,us,e,q,fun hw=>?_,fun _ p n=>?_⟩
  ·have ex:cutP xs l u=xs:=by
    unfold cutP
    rw[RPs.length _ r]at hw
    rw[hw.1,hw.2,List.drop_zero,Nat.sub_zero,List.take_length]
   have h4:Q' (.tup (cutP xs l u)) H3':=h3
   rw[ex]at h4
   rw[←e]
   exact k _ _ _ _ h4 r3' s3 e123
  ·exact k _ _ _ _ h3 (newT n (cut_ps r)) (s3.hid n) (e123.trans (Ev.hid n))
 | _=>exact h3.elim
end U
set_option linter.all false
set_option maxRecDepth 100000
set_option maxHeartbeats 4000000 -- own
namespace L2
open PySem PySem.Spec PyProof.Rows
variable {X:Cx}
theorem cat_none{prog:Program}{w:World}{A:Around}{E:Value->Shared->Prop}{s:Shared}{t b:Addr}{ws:List Value}{Q:Value->Shared->Prop}(ht:IsTup s.heap t ([]:List Value).toArray)(hb:IsTup s.heap b ws.toArray)(h:Q (.ref b) s):wpAny (model prog w) A (binaryOp .Add (.ref t) (.ref b)) Q E s:=by
 obtain⟨⟨cls,dd,data,sl⟩,g,hc,n,g2⟩:=id ht
 obtain⟨⟨cls2,dd2,data2,sl2⟩,k,hc2,n2,k2⟩:=id hb
 simp only at hc g2 hc2 k2
 subst hc g2 hc2 k2
 exact concat_meets ⟨_,g,rfl⟩ ⟨_,k,rfl⟩ noFill_tuple_add seq_tuple_add PySem.F.slot_tuple_add PySem.F.entry_tuple_add (PySem.F.args_tuple_add_2 _ _) (tuple_addW0 t b _ ws.toArray n n2 dd dd2 sl sl2 rfl) ⟨g,k,h⟩
def rCatA(K:PySem.W.Frag):R2:=fun x y H Q=>∃a b xs ys,x=.ref a/\y=.ref b/\SqT K H a xs/\SqT K H b ys/\xs.length+ys.length≤sizeLine/\(xs=[]->Q (.ref b) H)/\(ys=[]->Q (.ref a) H)/\(ys≠[]->∀p,H p=none->Q (.ref p) (upd H p (.tup (xs++ys))))
theorem op_catA:OpR X (binaryOp .Add) (rCatA X.K):=by
 intro pins s σ H x y v u Q I rx ry h
 obtain⟨a,b,xs,ys,rfl,rfl,ha,hb,hz,q0,q1,q2⟩:=h
 by_cases e:xs=[]
 ·cases rx
  cases ry
  subst e
  obtain⟨its,r1,p1,_⟩:=I.tuple ha
  obtain⟨its2,r2,p2,_⟩:=I.tuple hb
  cases r1
  exact cat_none p1 p2 ⟨.ref b,H,I,rfl,q0 rfl⟩
 ·exact op_catT pins s σ H _ _ v u Q I rx ry ⟨a,b,xs,ys,rfl,rfl,ha,hb,e,hz,q1,q2⟩
end L2
namespace U
open PySem PySem.Spec PyProof.Rows L2
variable {B:Bs}{X:Cx}{a b:Expr}{ta tb:TE'}{pos:Pos}
def uCatT:R2':=fun x y H Q=>match x,y with
 | .tup l,.tup m=>l.length+m.length≤sizeLine/\Q (.tup (l++m)) H
 | _,_=>False
theorem w_cT{l m:List PV}{H:PHp}{Q:VK'}:uCatT (.tup l) (.tup m) H Q=(l.length+m.length≤sizeLine/\Q (.tup (l++m)) H):=rfl
theorem vr_catT{K:PySem.W.Frag}:VR K B uCatT (rCatA K):=by
 intro σ' σ H' H x' y' x y Q' Q s rx ry h k
 unfold uCatT at h
 split at h
 ·rename_i l m
  obtain⟨hl,q⟩:=h
  have rx':=rx
  have ry':=ry
  simp only[RP]at rx ry
  obtain⟨a,us,rfl,ha,r1⟩:=rx
  obtain⟨b,ws,rfl,hb,r2⟩:=ry
  have l1:=RPs.length _ r1
  have l2:=RPs.length _ r2
  refine⟨a,b,us,ws,rfl,rfl,ha,hb,by rw[l1,l2];exact hl,fun e=>?_,fun e=>?_,fun e p hp=>?_⟩
  ·have:l=[]:=List.length_eq_zero_iff.mp (by rw[←l1,e];rfl)
   rw[this,List.nil_append]at q
   exact k _ _ _ _ q ry' s (Ev.refl _ _)
  ·have:m=[]:=List.length_eq_zero_iff.mp (by rw[←l2,e];rfl)
   rw[this,List.append_nil]at q
   exact k _ _ _ _ q rx' s (Ev.refl _ _)
  ·exact k _ _ _ _ q (newT hp (RPs.append _ r1 r2)) (s.hid hp) (Ev.hid hp)
 ·exact h.elim
theorem qe_catT(ha:PE' X B a ta)(hb:PE' X B b tb):PE' X B (.BinOp a .Add b pos) (uOp uCatT ta tb):=qe_op op_catA vr_catT ha hb
end U
set_option linter.all false
set_option maxRecDepth 100000
set_option maxHeartbeats 4000000 -- own
namespace L2
open PySem PySem.Spec PyProof.Rows
section
variable {X:Cx}
end
end L2
namespace U
open PySem PySem.Spec PyProof.Rows L2
variable {B:Bs}{X:Cx}{pos:Pos}
section
variable {N2:List Str}{nt:Nat}{js:List Nat}{scope sc:Scope}{cl:List (Str×Addr)}{elt iter tg:Expr}{ifs:List Expr}{wi:TI'}{g:TG'}{tt:TT'}{te:TE'}
end
def numL(l:List PV):List PV:=l.mapIdx fun i x=>.tup [.int (i:Nat),x]
def en1(vs:List PV)(H1:PHp)(R:It'->PHp->Prop):Prop:=match vs with
 | [.tup l]=>R ⟨numL l,fun _=>True⟩ H1
 | _=>False
theorem w_en{l:List PV}{H:PHp}{R:It'->PHp->Prop}:en1 [.tup l] H R=R ⟨numL l,fun _=>True⟩ H:=rfl
def uEn(t:TA'):TI':=fun σ H R=>t σ H fun vs H1=>en1 vs H1 R
end U
set_option linter.all false
namespace DM
abbrev P2:=Int×Int
def pk(p:P2):Int:=6*p.1+p.2
structure Good (c:Int) (l:List P2):Prop where
 nd:l.Nodup
 lo:∀p∈l,0≤p.1/\p.1<p.2/\p.2<c
theorem sorted_eq{α:Type}(k:α->Int):∀{a b:List α},a.Pairwise (fun x y=>k x<k y)->b.Pairwise (fun x y=>k x<k y)->(∀x,x∈a↔x∈b)->a=b
 | [],[],_,_,_=>rfl
 | [],y::b,_,_,h=>by have:=(h y).mpr List.mem_cons_self;simp at this
 | x::a,[],_,_,h=>by have:=(h x).mp List.mem_cons_self;simp at this
 | x::a,y::b,ha,hb,h=>by
  obtain⟨h1,h2⟩:=List.pairwise_cons.mp ha
  obtain⟨g1,g2⟩:=List.pairwise_cons.mp hb
  have e:x=y:=by
   rcases List.mem_cons.mp ((h x).mp List.mem_cons_self)with e | m
   ·exact e
   ·rcases List.mem_cons.mp ((h y).mpr List.mem_cons_self)with e | m'
    ·exact e.symm
    ·have a1:=g1 x m
     have a2:=h1 y m'
     omega
  subst e
  congr 1
  refine sorted_eq k h2 g2 fun z=>⟨fun m=>?_,fun m=>?_⟩
  ·rcases List.mem_cons.mp ((h z).mp (List.mem_cons_of_mem _ m))with e | m'
   ·subst e;have:=h1 z m;omega
   ·exact m'
  ·rcases List.mem_cons.mp ((h z).mpr (List.mem_cons_of_mem _ m))with e | m'
   ·subst e;have:=g1 z m;omega
   ·exact m'
theorem perm_eq{a b l:List P2}(ha:a.Perm l)(sa:a.Pairwise (fun x y=>pk x<pk y))(hb:b.Perm l)(sb:b.Pairwise (fun x y=>pk x<pk y)):a=b :=
 sorted_eq pk sa sb fun x=>ha.mem_iff.trans hb.mem_iff.symm
theorem Good.prs{c:Int}{l:List P2}(g:Good c l)(hc:c≤6):∀p∈l,p∈SP.prs:=fun p hp=>by
 have:=g.lo p hp
 exact SP.mem_prs (u:=p.1) (v:=p.2) this.1 this.2.1 (by omega)
theorem nodup_le{α:Type}[BEq α][LawfulBEq α]{l m:List α}(nd:l.Nodup)(h:∀x∈l,x∈m):l.length≤m.length:=by
 induction l generalizing m with
 | nil=>simp
 | cons x l ih =>
  obtain⟨h1,h2⟩:=List.nodup_cons.mp nd
  have hx:=h x List.mem_cons_self
  have:=ih (m:=m.erase x) h2 fun y hy=>(List.mem_erase_of_ne (by rintro rfl;exact h1 hy)).mpr (h y (List.mem_cons_of_mem _ hy))
  have e:=List.length_erase_of_mem hx
  have:0<m.length:=List.length_pos_of_mem hx
  simp only[List.length_cons]
  omega
theorem Good.len{c:Int}{l:List P2}(g:Good c l)(hc:c≤6):l.length≤15:=nodup_le g.nd (g.prs hc)
end DM
namespace My
def gd(a b:Int):Int:=(Int.gcd a b:Nat)
abbrev ab(x:Int):Int:=if x<0 then -x else x
end My
set_option linter.all false
namespace My
open U
def BN(n:Nat)(i:Int):Prop:=i.natAbs<2 ^ n
theorem BN.fit{n:Nat}{i:Int}(h:BN n i)(hn:n≤9000):Fit i:=by
 unfold Fit
 unfold BN at h
 rcases Nat.eq_zero_or_pos i.natAbs with h0 | hp
 ·rw[h0,Nat.log2_zero];omega
 ·have:=(Nat.log2_lt (Nat.ne_of_gt hp)).mpr h
  omega
theorem BN.mul{n m:Nat}{i j:Int}(h:BN n i)(g:BN m j):BN (n+m) (i*j):=by
 unfold BN at *
 rw[Int.natAbs_mul,Nat.pow_add]
 exact Nat.mul_lt_mul'' h g
theorem BN.add{n:Nat}{i j:Int}(h:BN n i)(g:BN n j):BN (n+1) (i+j):=by
 unfold BN at *
 rw[Nat.pow_succ]
 omega
theorem BN.of_le{n:Nat}{i j:Int}(h:BN n i)(g:j.natAbs≤i.natAbs):BN n j:=Nat.lt_of_le_of_lt g h
def num(c:Int):Int:=if c.fmod 4=0 then(c.fdiv 4*982451653).fmod (2*10 ^ 60 - 1) - 10 ^ 60+1 else if c.fmod 4=1 then(c.fdiv 4).fmod 2001 - 1000 else(c.fdiv 4).fmod 25 - 12
end My
namespace My
abbrev P2:=Int×Int
inductive Reach (E:List P2) (S:List Int):Int→Prop where
 | base {x:Int} (h:x∈S):Reach E S x
 | step {a b:Int} (h:Reach E S a) (e:(a,b)∈E):Reach E S b
def outs(E:List P2)(a:Int):List Int:=(E.filter fun p=>decide (p.1=a)).map (·.2)
theorem mem_outs{E:List P2}{a b:Int}:b∈outs E a↔(a,b)∈E:=by
 unfold outs
 rw[List.mem_map]
 constructor
 ·rintro⟨⟨x,y⟩,h,rfl⟩
  rw[List.mem_filter]at h
  have:x=a:=of_decide_eq_true h.2
  subst this;exact h.1
 ·intro h
  exact⟨(a,b),List.mem_filter.mpr ⟨h,decide_eq_true rfl⟩,rfl⟩
def pStep(E:List P2)(f:List Int)(n:Int):List Int:=if n∈f then f++outs E n else f
theorem pStep_sub{E:List P2}{f:List Int}{n x:Int}(h:x∈f):x∈pStep E f n:=by
 unfold pStep;split
 ·exact List.mem_append_left _ h
 ·exact h
theorem pFold_sub{E:List P2}:∀(L:List Int) {f:List Int} {x:Int},x∈f->x∈L.foldl (pStep E) f
 | [],_,_,h=>h
 | _::L,_,_,h=>pFold_sub L (pStep_sub h)
theorem pFold_reach{E:List P2}{S:List Int}:∀(L:List Int) {f:List Int},(∀x∈f,Reach E S x)->∀x∈L.foldl (pStep E) f,Reach E S x
 | [],_,h,x,hx=>h x hx
 | n::L,f,h,x,hx=>by
  refine pFold_reach L (f:=pStep E f n) (fun y hy=>?_) x hx
  unfold pStep at hy
  split at hy
  ·rename_i hn
   rcases List.mem_append.mp hy with hy | hy
   ·exact h y hy
   ·exact .step (h n hn) (mem_outs.mp hy)
  ·exact h y hy
def Fwd(E:List P2)(L:List Int):Prop:=∀a b,(a,b)∈E->∀L1 L2,L=L1++L2->b∈L1->a∈L1
theorem pFold_closed{E:List P2}:∀(L1 L2:List Int) {f:List Int},(∀a b,(a,b)∈E->a∈L1++L2)->(∀a b,(a,b)∈E->∀M1 M2,L1++L2=M1++M2->b∈M1->a∈M1)->(L1++L2).Nodup ->
  (∀a b,(a,b)∈E->a∈L1->a∈f->b∈f)->∀a b,(a,b)∈E->a∈L2.foldl (pStep E) f->b∈L2.foldl (pStep E) f
 | L1,[],f,hA,hF,hN,hc,a,b,e,ha=>by
  have:=hA a b e
  rw[List.append_nil]at this
  exact hc a b e this ha
 | L1,n::L2,f,hA,hF,hN,hc,a,b,e,ha=>by
  have eq:L1++n::L2=(L1++[n])++L2:=by simp
  refine pFold_closed (L1++[n]) L2 (f:=pStep E f n) (by rw[←eq];exact hA) (by rw[←eq];exact hF) (by rw[←eq];exact hN) (fun a b e ha1 ha2=>?_) a b e ha
  -- a among the done ones and in the new found
  unfold pStep at ha2 ⊢
  split
  ·rename_i hn
   rw[if_pos hn]at ha2
   rcases List.mem_append.mp ha2 with hf | ho
   ·rcases List.mem_append.mp ha1 with h1 | h1
    ·exact List.mem_append_left _ (hc a b e h1 hf)
    ·have:a=n:=by simpa using h1
     subst this
     exact List.mem_append_right _ (mem_outs.mpr e)
   ·-- a is an out of n,so it stands behind n
    have en:=mem_outs.mp ho
    rcases List.mem_append.mp ha1 with h1 | h1
    ·have q:=hF n a en L1 (n::L2) rfl h1
     rw[List.nodup_append]at hN
     exact absurd rfl (hN.2.2 n q n (List.mem_cons_self))
    ·have:a=n:=by simpa using h1
     subst this
     exact List.mem_append_right _ (mem_outs.mpr e)
  ·rename_i hn
   rw[if_neg hn]at ha2
   rcases List.mem_append.mp ha1 with h1 | h1
   ·exact hc a b e h1 ha2
   ·have:a=n:=by simpa using h1
    subst this
    exact absurd ha2 hn
theorem pFold_iff{E:List P2}{L S:List Int}(hA:∀a b,(a,b)∈E->a∈L)(hF:Fwd E L)(hN:L.Nodup)(x:Int):x∈L.foldl (pStep E) S↔Reach E S x:=by
 constructor
 ·exact pFold_reach L (fun y hy=>.base hy) x
 ·intro h
  induction h with
  | base h=>exact pFold_sub L h
  | step h e ih=>exact pFold_closed [] L hA hF hN (fun a b e h=>absurd h (by simp)) _ _ e ih
def uStep(f:List Int)(p:P2):List Int:=if p.1∈f/\p.2∉f then f++[p.2]else f
def uTurn(E:List P2)(f:List Int):List Int:=E.foldl uStep f
theorem uStep_nodup{f:List Int}{p:P2}(h:f.Nodup):(uStep f p).Nodup:=by
 unfold uStep;split
 ·rename_i c
  rw[List.nodup_append]
  refine⟨h,by simp,fun a ha b hb e=>?_⟩
  have:b=p.2:=by simpa using hb
  subst this;subst e;exact c.2 ha
 ·exact h
theorem uTurn_nodup:∀(E:List P2) {f:List Int},f.Nodup->(uTurn E f).Nodup
 | [],_,h=>h
 | p::E,f,h=>uTurn_nodup E (f:=uStep f p) (uStep_nodup h)
theorem uStep_pre(f:List Int)(p:P2):∃g,uStep f p=f++g:=by
 unfold uStep;split
 ·exact⟨_,rfl⟩
 ·exact⟨[],by simp⟩
theorem uTurn_pre:∀(E:List P2) (f:List Int),∃g,uTurn E f=f++g
 | [],f=>⟨[],by simp[uTurn]⟩
 | p::E,f=>by
  obtain⟨g,hg⟩:=uStep_pre f p
  obtain⟨k,hk⟩:=uTurn_pre E (uStep f p)
  refine⟨g++k,?_⟩
  show uTurn E (uStep f p)=_
  rw[hk,hg,List.append_assoc]
theorem uTurn_reach{E0:List P2}{S:List Int}:∀(E:List P2) {f:List Int},(∀p∈E,p∈E0)->(∀x∈f,Reach E0 S x)->∀x∈uTurn E f,Reach E0 S x
 | [],_,_,h,x,hx=>h x hx
 | p::E,f,hE,h,x,hx=>by
  refine uTurn_reach E (f:=uStep f p) (fun q hq=>hE q (List.mem_cons_of_mem _ hq)) (fun y hy=>?_) x hx
  unfold uStep at hy
  split at hy
  ·rename_i c
   rcases List.mem_append.mp hy with hy | hy
   ·exact h y hy
   ·have:y=p.2:=by simpa using hy
    subst this
    exact .step (h p.1 c.1) (hE p List.mem_cons_self)
  ·exact h y hy
theorem uTurn_same:∀(E:List P2) {f:List Int},uTurn E f=f->∀a b,(a,b)∈E->a∈f->b∈f
 | [],_,_,_,_,h,_=>absurd h (by simp)
 | p::E,f,hs,a,b,e,ha=>by
  have hs':uTurn E (uStep f p)=f:=hs
  obtain⟨g,hg⟩:=uStep_pre f p
  obtain⟨k,hk⟩:=uTurn_pre E (uStep f p)
  have gn:g=[]:=by
   rw[hk,hg,List.append_assoc]at hs'
   have:=congrArg List.length hs'
   rw[List.length_append,List.length_append]at this
   exact List.length_eq_zero_iff.mp (by omega)
  have es:uStep f p=f:=by rw[hg,gn,List.append_nil]
  rw[es]at hs'
  rcases List.mem_cons.mp e with e | e
  ·subst e
   unfold uStep at es
   split at es
   ·have:=congrArg List.length es
    rw[List.length_append]at this
    simp at this
   ·rename_i c
    exact Classical.byContradiction fun hb=>c ⟨ha,hb⟩
  ·exact uTurn_same E hs' a b e ha
theorem uTurn_len{E:List P2}{f:List Int}(h:uTurn E f≠f):f.length<(uTurn E f).length:=by
 obtain⟨g,hg⟩:=uTurn_pre E f
 rw[hg]at h ⊢
 cases g with
 | nil=>simp at h
 | cons x g=>simp
def uTurns(E:List P2):Nat->List Int->List Int
 | 0,f=>f
 | n+1,f=>uTurns E n (uTurn E f)
theorem uTurns_stay{E:List P2}:∀(n:Nat) {f:List Int},uTurn E f=f->uTurns E n f=f
 | 0,_,_=>rfl
 | n+1,f,h=>by rw[uTurns,h];exact uTurns_stay n h
theorem uTurns_nodup{E:List P2}:∀(n:Nat) {f:List Int},f.Nodup->(uTurns E n f).Nodup
 | 0,_,h=>h
 | n+1,_,h=>uTurns_nodup n (uTurn_nodup E h)
theorem uTurns_reach{E:List P2}{S:List Int}:∀(n:Nat) {f:List Int},(∀x∈f,Reach E S x)->∀x∈uTurns E n f,Reach E S x
 | 0,_,h=>h
 | n+1,_,h=>uTurns_reach n (uTurn_reach E (fun _ hp=>hp) h)
theorem uTurns_pre{E:List P2}:∀(n:Nat) (f:List Int),∃g,uTurns E n f=f++g
 | 0,f=>⟨[],by simp[uTurns]⟩
 | n+1,f=>by
  obtain⟨g,hg⟩:=uTurn_pre E f
  obtain⟨k,hk⟩:=uTurns_pre (E:=E) n (uTurn E f)
  exact⟨g++k,by rw[uTurns,hk,hg,List.append_assoc]⟩
theorem nodup_le:∀(m:Nat) (f:List Int),f.Nodup->(∀x∈f,0≤x/\x<(m:Int))->f.length≤m
 | 0,f,_,h=>by
  cases f with
  | nil=>exact Nat.le_refl _
  | cons x f=>have:=h x List.mem_cons_self;omega
 | m+1,f,hn,h=>by
  have q:=nodup_le m (f.erase (m:Int)) (hn.erase _) (fun x hx=>by
   have hx':=List.mem_of_mem_erase hx
   have:=h x hx'
   have ne:x≠(m:Int):=(List.Nodup.mem_erase_iff hn).mp hx |>.1
   omega)
  by_cases hm:(m:Int)∈f
  ·rw[List.length_erase_of_mem hm]at q;omega
  ·rw[List.erase_of_not_mem hm]at q;omega
theorem rising_one:∀{xs ys:List Int},xs.Pairwise (·<·)->ys.Pairwise (·<·)->(∀x,x∈xs↔x∈ys)->xs=ys
 | [],[],_,_,_=>rfl
 | [],y::ys,_,_,h=>absurd ((h y).mpr List.mem_cons_self) (by simp)
 | x::xs,[],_,_,h=>absurd ((h x).mp List.mem_cons_self) (by simp)
 | x::xs,y::ys,hx,hy,h=>by
  rw[List.pairwise_cons]at hx hy
  have e:x=y:=by
   have h1:=(h x).mp List.mem_cons_self
   have h2:=(h y).mpr List.mem_cons_self
   rcases List.mem_cons.mp h1 with h1 | h1
   ·exact h1
   ·rcases List.mem_cons.mp h2 with h2 | h2
    ·exact h2.symm
    ·have:=hx.1 y h2;have:=hy.1 x h1;omega
  subst e
  rw[rising_one hx.2 hy.2 fun z=>?_]
  constructor
  ·intro hz
   rcases List.mem_cons.mp ((h z).mp (List.mem_cons_of_mem _ hz))with q | q
   ·have:=hx.1 z hz;omega
   ·exact q
  ·intro hz
   rcases List.mem_cons.mp ((h z).mpr (List.mem_cons_of_mem _ hz))with q | q
   ·have:=hy.1 z hz;omega
   ·exact q
theorem rising_of{xs:List Int}(h:xs.Pairwise (·≤·))(n:xs.Nodup):xs.Pairwise (·<·):=by
 have:xs.Pairwise (fun a b=>a≤b/\a≠b):=List.Pairwise.and h n
 exact this.imp fun⟨a,b⟩=>by omega
end My
set_option linter.all false
set_option maxRecDepth 100000
set_option maxHeartbeats 4000000
namespace Lw
open PySem L2 U PyProof.Rows
theorem boot_all:bootBuiltins "all"=some (.builtin "all"):=by decide +kernel
theorem boot_sorted:bootBuiltins "sorted"=some (.builtin "sorted"):=by decide +kernel
theorem boot_set:bootBuiltins "set"=some (.type "set"):=by decide +kernel
theorem boot_ValueError:bootBuiltins "ValueError"=some (.type "ValueError"):=by decide +kernel
theorem boot_sum:bootBuiltins "sum"=some (.builtin "sum"):=by decide +kernel
theorem atI2_0{x y:PV}:atI [x,y] 0=some x:=rfl
theorem atI2_1{x y:PV}:atI [x,y] 1=some y:=rfl
theorem ck{X:Cx}{N2:List Str}{nt:Nat}{js:List Nat}{scope sc:Scope}{cl:List (Str×Addr)}(clos:closureFor scope X.env=pure cl:=by exact rfl)(sub:AllL X.env.cells cl:=by repeat (first | exact trivial | refine⟨rfl,?_⟩))(xsc:X.env.scope=sc:=by rfl)(kind:scope.kind=.function:=by rfl)
  (nocell:∀y∈scope.names,y.2≠.cell:=by decide +kernel) (loc:∀y∈scope.names,y.2=.local->scope.names.lookup y.1=some .local:=by decide +kernel) (names:cl.map (·.1)=((scope.names.filter (·.2==.free)).map (·.1)).reverse:=by rfl)
  (frs:∀x∈N2.drop nt,scope.names.lookup x=some .free/\sc.names.lookup x=some .cell:=by decide +kernel) (len:N2.length=nt+js.length:=by rfl) (pl:js.map (fun j=>X.N[j]?)=(N2.drop nt).map some:=by rfl):CompOk X N2 nt js scope cl sc:=cok clos sub xsc kind nocell loc names frs len pl
def top(i:Nat):Stmt:=PySem.Challenge.pw_doingbook_k41_wanted.main.body.getD i (.Pass ⟨0,0,0,0⟩)
abbrev s_zG:Stmt:=top 26
theorem sc_zG:FnScope ["count","pair"] ["count","pair"] (defScope s_zG):=⟨rfl,rfl,rfl,by decide +kernel,rfl,by decide +kernel,by decide +kernel⟩
abbrev s_zz:Stmt:=top 27
theorem sc_zz:FnScope ["count","pairs"] ["count","pairs"] (defScope s_zz):=⟨rfl,rfl,rfl,by decide +kernel,rfl,by decide +kernel,by decide +kernel⟩
abbrev s_zI:Stmt:=top 28
theorem sc_zI:FnScope ["count","names","ahead","name"] ["count","names"] (defScope s_zI):=⟨rfl,rfl,rfl,by decide +kernel,rfl,by decide +kernel,by decide +kernel⟩
abbrev s_zr:Stmt:=top 29
theorem sc_zr:FnScope ["count"] ["count"] (defScope s_zr):=⟨rfl,rfl,rfl,by decide +kernel,rfl,by decide +kernel,by decide +kernel⟩
abbrev s_zD:Stmt:=top 30
theorem sc_zD:FnScope ["names","others"] ["names","others"] (defScope s_zD):=⟨rfl,rfl,rfl,by decide +kernel,rfl,by decide +kernel,by decide +kernel⟩
abbrev s_zm:Stmt:=inClass (top 31) 0
theorem sc_zm:FnScope ["self","count","ties","bows","own_ties","own_bows"] ["self","count","ties","bows"] (defScope s_zm):=⟨rfl,rfl,rfl,by decide +kernel,rfl,by decide +kernel,by decide +kernel⟩
abbrev s_zb:Stmt:=inClass (top 31) 2
theorem sc_zb:FnScope ["self","name"] ["self","name"] (defScope s_zb):=⟨rfl,rfl,rfl,by decide +kernel,rfl,by decide +kernel,by decide +kernel⟩
abbrev s_zc:Stmt:=inClass (top 31) 3
theorem sc_zc:FnScope ["self","names"] ["self","names"] (defScope s_zc):=⟨rfl,rfl,rfl,by decide +kernel,rfl,by decide +kernel,by decide +kernel⟩
abbrev s_ze:Stmt:=inClass (top 31) 4
theorem sc_ze:FnScope ["self","name"] ["self","name"] (defScope s_ze):=⟨rfl,rfl,rfl,by decide +kernel,rfl,by decide +kernel,by decide +kernel⟩
abbrev s_za:Stmt:=inClass (top 31) 6
theorem sc_za:FnScope ["self","names","found","name"] ["self","names"] (defScope s_za):=⟨rfl,rfl,rfl,by decide +kernel,rfl,by decide +kernel,by decide +kernel⟩
abbrev s_zj:Stmt:=inClass (top 31) 8
theorem sc_zj:FnScope ["self","name","ahead","behind"] ["self","name"] (defScope s_zj):=⟨rfl,rfl,rfl,by decide +kernel,rfl,by decide +kernel,by decide +kernel⟩
abbrev s_zd:Stmt:=inClass (top 31) 9
theorem sc_zd:FnScope ["self","start","names","reached","waiting","name","other"] ["self","start","names"] (defScope s_zd):=⟨rfl,rfl,rfl,by decide +kernel,rfl,by decide +kernel,by decide +kernel⟩
abbrev s_zh:Stmt:=inClass (top 31) 10
theorem sc_zh:FnScope ["self","names","told","placed","name","lump"] ["self","names"] (defScope s_zh):=⟨rfl,rfl,rfl,by decide +kernel,rfl,by decide +kernel,by decide +kernel⟩
abbrev s_zk:Stmt:=inClass (top 31) 11
theorem sc_zk:FnScope ["self","names","ties","bows"] ["self","names"] (defScope s_zk):=⟨rfl,rfl,rfl,by decide +kernel,rfl,by decide +kernel,by decide +kernel⟩
abbrev s_zC:Stmt:=top 32
theorem sc_zC:FnScope ["drawing","sets","names"] ["drawing","sets"] (defScope s_zC):=⟨rfl,rfl,rfl,by decide +kernel,rfl,by decide +kernel,by decide +kernel⟩
abbrev s_zv:Stmt:=top 33
theorem sc_zv:FnScope ["sets","named","names"] ["sets"] (defScope s_zv):=⟨rfl,rfl,rfl,by decide +kernel,rfl,by decide +kernel,by decide +kernel⟩
abbrev s_zg:Stmt:=top 35
theorem sc_zg:FnScope ["drawing","question"] ["drawing","question"] (defScope s_zg):=⟨rfl,rfl,rfl,by decide +kernel,rfl,by decide +kernel,by decide +kernel⟩
abbrev s_zn:Stmt:=top 36
theorem sc_zn:FnScope ["drawing","question","left"] ["drawing","question"] (defScope s_zn):=⟨rfl,rfl,rfl,by decide +kernel,rfl,by decide +kernel,by decide +kernel⟩
abbrev s_zJ:Stmt:=top 37
theorem sc_zJ:FnScope ["drawing","question","names"] ["drawing","question"] (defScope s_zJ):=⟨rfl,rfl,rfl,by decide +kernel,rfl,by decide +kernel,by decide +kernel⟩
abbrev s_zq:Stmt:=top 39
theorem sc_zq:FnScope ["_law_script","_law_k"] ["_law_script","_law_k"] (defScope s_zq):=⟨rfl,rfl,rfl,by decide +kernel,rfl,by decide +kernel,by decide +kernel⟩
abbrev s_zH:Stmt:=top 40
theorem sc_zH:FnScope ["_law_unit","_law_k","_law_number"] ["_law_unit","_law_k"] (defScope s_zH):=⟨rfl,rfl,rfl,by decide +kernel,rfl,by decide +kernel,by decide +kernel⟩
abbrev s_zs:Stmt:=top 41
theorem sc_zs:FnScope ["_law_number","_law_least","_law_most","_law_count","_law_ties","_law_bows","_law_v","_law_u"] ["_law_number","_law_least","_law_most"] (defScope s_zs):=⟨rfl,rfl,rfl,by decide +kernel,rfl,by decide +kernel,by decide +kernel⟩
abbrev s_zo:Stmt:=top 42
theorem sc_zo:FnScope ["_law_number","_law_count","_law_ones","_law_asked","_law_name","_law_way"] ["_law_number","_law_count"] (defScope s_zo):=⟨rfl,rfl,rfl,by decide +kernel,rfl,by decide +kernel,by decide +kernel⟩
abbrev s_zA:Stmt:=top 43
theorem sc_zA:FnScope ["_law_shape","_law_names","_law_ends","_law_got","_law_turn","_law_u","_law_v"] ["_law_shape","_law_names","_law_ends"] (defScope s_zA):=⟨rfl,rfl,rfl,by decide +kernel,rfl,by decide +kernel,by decide +kernel⟩
abbrev s_zy:Stmt:=top 44
theorem sc_zy:FnScope ["_law_shape","_law_names","_law_lumps_here","_law_left","_law_lump","_law_turn","_law_u","_law_v"] ["_law_shape","_law_names"] (defScope s_zy):=⟨rfl,rfl,rfl,by decide +kernel,rfl,by decide +kernel,by decide +kernel⟩
abbrev s_zu:Stmt:=top 45
theorem sc_zu:FnScope ["_law_shape","_law_question_here","_law_names"] ["_law_shape","_law_question_here"] (defScope s_zu):=⟨rfl,rfl,rfl,by decide +kernel,rfl,by decide +kernel,by decide +kernel⟩
abbrev s_zx:Stmt:=top 47
theorem sc_zx:FnScope ["_law_kept","_law_got","_law_words"] ["_law_kept"] (defScope s_zx):=⟨rfl,rfl,rfl,by decide +kernel,rfl,by decide +kernel,by decide +kernel⟩
abbrev s_zl:Stmt:=top 48
theorem sc_zl:FnScope ["_law_count","_law_names","_law_k"] ["_law_count","_law_names"] (defScope s_zl):=⟨rfl,rfl,rfl,by decide +kernel,rfl,by decide +kernel,by decide +kernel⟩
abbrev s_zt:Stmt:=top 49
theorem sc_zt:FnScope ["_law_question_here","_law_number","_law_count","_law_ones","_law_asked","_law_way"] ["_law_question_here","_law_number","_law_count"] (defScope s_zt):=⟨rfl,rfl,rfl,by decide +kernel,rfl,by decide +kernel,by decide +kernel⟩
abbrev s_zE:Stmt:=top 50
theorem sc_zE:FnScope ["_law_count","_law_question_here","_law_ones","_law_asked"] ["_law_count","_law_question_here"] (defScope s_zE):=⟨rfl,rfl,rfl,by decide +kernel,rfl,by decide +kernel,by decide +kernel⟩
abbrev s_zK:Stmt:=top 51
theorem sc_zK:FnScope ["_law_script","_law_head","_law_shape","_law_question_here","_law_due_here","_law_drawing_here","_law_told","_law_kept","e","_law_names"] ["_law_script"] (defScope s_zK):=⟨rfl,rfl,rfl,by decide +kernel,rfl,by decide +kernel,by decide +kernel⟩
set_option genInjectivity false
structure Ad where
 a_zG:Addr
 d_zG:FuncData
 a_zz:Addr
 d_zz:FuncData
 a_zI:Addr
 d_zI:FuncData
 a_zr:Addr
 d_zr:FuncData
 a_zD:Addr
 d_zD:FuncData
 a_zm:Addr
 d_zm:FuncData
 a_zb:Addr
 d_zb:FuncData
 a_zc:Addr
 d_zc:FuncData
 a_ze:Addr
 d_ze:FuncData
 a_za:Addr
 d_za:FuncData
 a_zj:Addr
 d_zj:FuncData
 a_zd:Addr
 d_zd:FuncData
 a_zh:Addr
 d_zh:FuncData
 a_zk:Addr
 d_zk:FuncData
 a_zC:Addr
 d_zC:FuncData
 a_zv:Addr
 d_zv:FuncData
 a_zg:Addr
 d_zg:FuncData
 a_zn:Addr
 d_zn:FuncData
 a_zJ:Addr
 d_zJ:FuncData
 a_zq:Addr
 d_zq:FuncData
 a_zH:Addr
 d_zH:FuncData
 a_zs:Addr
 d_zs:FuncData
 a_zo:Addr
 d_zo:FuncData
 a_zA:Addr
 d_zA:FuncData
 a_zy:Addr
 d_zy:FuncData
 a_zu:Addr
 d_zu:FuncData
 a_zx:Addr
 d_zx:FuncData
 a_zl:Addr
 d_zl:FuncData
 a_zt:Addr
 d_zt:FuncData
 a_zE:Addr
 d_zE:FuncData
 a_zK:Addr
 d_zK:FuncData
 a_BadPaper:Addr
 a_BadStep:Addr
 a_DoingError:Addr
 a_Drawing:Addr
 a_NoAnswer:Addr
 a_NoBow:Addr
 a_NoCount:Addr
 a_NoDoor:Addr
 a_NoFormula:Addr
 a_NoFraction:Addr
 a_NoName:Addr
 a_NoNest:Addr
 a_NoQuestion:Addr
 a_NoRoad:Addr
 a_NoRule:Addr
 a_NoSets:Addr
 a_NoShare:Addr
 a_NoText:Addr
 a_NoThinning:Addr
 a_NoTie:Addr
 a_NoValue:Addr
 a_NoWorld:Addr
structure Tx (K:PySem.W.Frag) (mg:Str→Option Value) (t:Ad):Prop where
 F_zG:Fun K "is_pair" "is_pair" s_zG t.a_zG t.d_zG
 B_zG:Binds K t.d_zG ["count","pair"] []
 g_zG:mg "is_pair"=some (.ref t.a_zG)
 F_zz:Fun K "are_pairs" "are_pairs" s_zz t.a_zz t.d_zz
 B_zz:Binds K t.d_zz ["count","pairs"] []
 g_zz:mg "are_pairs"=some (.ref t.a_zz)
 F_zI:Fun K "is_set" "is_set" s_zI t.a_zI t.d_zI
 B_zI:Binds K t.d_zI ["count","names"] []
 g_zI:mg "is_set"=some (.ref t.a_zI)
 F_zr:Fun K "names_up_to" "names_up_to" s_zr t.a_zr t.d_zr
 B_zr:Binds K t.d_zr ["count"] []
 g_zr:mg "names_up_to"=some (.ref t.a_zr)
 F_zD:Fun K "without" "without" s_zD t.a_zD t.d_zD
 B_zD:Binds K t.d_zD ["names","others"] []
 g_zD:mg "without"=some (.ref t.a_zD)
 F_zm:Fun K "__init__" "Drawing.__init__" s_zm t.a_zm t.d_zm
 B_zm:Binds K t.d_zm ["self","count","ties","bows"] []
 F_zb:Fun K "need_name" "Drawing.need_name" s_zb t.a_zb t.d_zb
 B_zb:Binds K t.d_zb ["self","name"] []
 m_zb:Meth K t.a_Drawing "need_name" t.a_zb
 F_zc:Fun K "need_set" "Drawing.need_set" s_zc t.a_zc t.d_zc
 B_zc:Binds K t.d_zc ["self","names"] []
 m_zc:Meth K t.a_Drawing "need_set" t.a_zc
 F_ze:Fun K "sources" "Drawing.sources" s_ze t.a_ze t.d_ze
 B_ze:Binds K t.d_ze ["self","name"] []
 m_ze:Meth K t.a_Drawing "sources" t.a_ze
 F_za:Fun K "ancestors" "Drawing.ancestors" s_za t.a_za t.d_za
 B_za:Binds K t.d_za ["self","names"] []
 m_za:Meth K t.a_Drawing "ancestors" t.a_za
 F_zj:Fun K "bowed" "Drawing.bowed" s_zj t.a_zj t.d_zj
 B_zj:Binds K t.d_zj ["self","name"] []
 m_zj:Meth K t.a_Drawing "bowed" t.a_zj
 F_zd:Fun K "lump_of" "Drawing.lump_of" s_zd t.a_zd t.d_zd
 B_zd:Binds K t.d_zd ["self","start","names"] []
 m_zd:Meth K t.a_Drawing "lump_of" t.a_zd
 F_zh:Fun K "lumps" "Drawing.lumps" s_zh t.a_zh t.d_zh
 B_zh:Binds K t.d_zh ["self","names"] []
 m_zh:Meth K t.a_Drawing "lumps" t.a_zh
 F_zk:Fun K "part" "Drawing.part" s_zk t.a_zk t.d_zk
 B_zk:Binds K t.d_zk ["self","names"] []
 m_zk:Meth K t.a_Drawing "part" t.a_zk
 F_zC:Fun K "need_sets" "need_sets" s_zC t.a_zC t.d_zC
 B_zC:Binds K t.d_zC ["drawing","sets"] []
 g_zC:mg "need_sets"=some (.ref t.a_zC)
 F_zv:Fun K "need_apart" "need_apart" s_zv t.a_zv t.d_zv
 B_zv:Binds K t.d_zv ["sets"] []
 g_zv:mg "need_apart"=some (.ref t.a_zv)
 F_zg:Fun K "need_question" "need_question" s_zg t.a_zg t.d_zg
 B_zg:Binds K t.d_zg ["drawing","question"] []
 g_zg:mg "need_question"=some (.ref t.a_zg)
 F_zn:Fun K "wanted_names" "wanted_names" s_zn t.a_zn t.d_zn
 B_zn:Binds K t.d_zn ["drawing","question"] []
 g_zn:mg "wanted_names"=some (.ref t.a_zn)
 F_zJ:Fun K "wanted" "wanted" s_zJ t.a_zJ t.d_zJ
 B_zJ:Binds K t.d_zJ ["drawing","question"] []
 g_zJ:mg "wanted"=some (.ref t.a_zJ)
 F_zq:Fun K "_law_cell_at" "_law_cell_at" s_zq t.a_zq t.d_zq
 B_zq:Binds K t.d_zq ["_law_script","_law_k"] []
 g_zq:mg "_law_cell_at"=some (.ref t.a_zq)
 F_zH:Fun K "_law_mix" "_law_mix" s_zH t.a_zH t.d_zH
 B_zH:Binds K t.d_zH ["_law_unit","_law_k"] []
 g_zH:mg "_law_mix"=some (.ref t.a_zH)
 F_zs:Fun K "_law_drawing" "_law_drawing" s_zs t.a_zs t.d_zs
 B_zs:Binds K t.d_zs ["_law_number","_law_least","_law_most"] []
 g_zs:mg "_law_drawing"=some (.ref t.a_zs)
 F_zo:Fun K "_law_question" "_law_question" s_zo t.a_zo t.d_zo
 B_zo:Binds K t.d_zo ["_law_number","_law_count"] []
 g_zo:mg "_law_question"=some (.ref t.a_zo)
 F_zA:Fun K "_law_upper" "_law_upper" s_zA t.a_zA t.d_zA
 B_zA:Binds K t.d_zA ["_law_shape","_law_names","_law_ends"] []
 g_zA:mg "_law_upper"=some (.ref t.a_zA)
 F_zy:Fun K "_law_lumps" "_law_lumps" s_zy t.a_zy t.d_zy
 B_zy:Binds K t.d_zy ["_law_shape","_law_names"] []
 g_zy:mg "_law_lumps"=some (.ref t.a_zy)
 F_zu:Fun K "_law_wanted" "_law_wanted" s_zu t.a_zu t.d_zu
 B_zu:Binds K t.d_zu ["_law_shape","_law_question_here"] []
 g_zu:mg "_law_wanted"=some (.ref t.a_zu)
 F_zx:Fun K "_law_class" "_law_class" s_zx t.a_zx t.d_zx
 B_zx:Binds K t.d_zx ["_law_kept"] []
 g_zx:mg "_law_class"=some (.ref t.a_zx)
 F_zl:Fun K "_law_is_names" "_law_is_names" s_zl t.a_zl t.d_zl
 B_zl:Binds K t.d_zl ["_law_count","_law_names"] []
 g_zl:mg "_law_is_names"=some (.ref t.a_zl)
 F_zt:Fun K "_law_spoilt" "_law_spoilt" s_zt t.a_zt t.d_zt
 B_zt:Binds K t.d_zt ["_law_question_here","_law_number","_law_count"] []
 g_zt:mg "_law_spoilt"=some (.ref t.a_zt)
 F_zE:Fun K "_law_due" "_law_due" s_zE t.a_zE t.d_zE
 B_zE:Binds K t.d_zE ["_law_count","_law_question_here"] []
 g_zE:mg "_law_due"=some (.ref t.a_zE)
 F_zK:Fun K "law" "law" s_zK t.a_zK t.d_zK
 B_zK:Binds K t.d_zK ["_law_script"] []
 g_zK:mg "law"=some (.ref t.a_zK)
 g_BadPaper:mg "BadPaper"=some (.ref t.a_BadPaper)
 g_BadStep:mg "BadStep"=some (.ref t.a_BadStep)
 g_DoingError:mg "DoingError"=some (.ref t.a_DoingError)
 g_Drawing:mg "Drawing"=some (.ref t.a_Drawing)
 cl_Drawing:Cls K t.a_Drawing
 mk_Drawing:Mk K t.a_Drawing t.a_zm
 g_NoAnswer:mg "NoAnswer"=some (.ref t.a_NoAnswer)
 g_NoBow:mg "NoBow"=some (.ref t.a_NoBow)
 g_NoCount:mg "NoCount"=some (.ref t.a_NoCount)
 g_NoDoor:mg "NoDoor"=some (.ref t.a_NoDoor)
 g_NoFormula:mg "NoFormula"=some (.ref t.a_NoFormula)
 g_NoFraction:mg "NoFraction"=some (.ref t.a_NoFraction)
 g_NoName:mg "NoName"=some (.ref t.a_NoName)
 g_NoNest:mg "NoNest"=some (.ref t.a_NoNest)
 g_NoQuestion:mg "NoQuestion"=some (.ref t.a_NoQuestion)
 g_NoRoad:mg "NoRoad"=some (.ref t.a_NoRoad)
 g_NoRule:mg "NoRule"=some (.ref t.a_NoRule)
 g_NoSets:mg "NoSets"=some (.ref t.a_NoSets)
 g_NoShare:mg "NoShare"=some (.ref t.a_NoShare)
 g_NoText:mg "NoText"=some (.ref t.a_NoText)
 g_NoThinning:mg "NoThinning"=some (.ref t.a_NoThinning)
 g_NoTie:mg "NoTie"=some (.ref t.a_NoTie)
 g_NoValue:mg "NoValue"=some (.ref t.a_NoValue)
 g_NoWorld:mg "NoWorld"=some (.ref t.a_NoWorld)
 x_DoingError:XCls K t.a_DoingError
 x_NoName:XCls K t.a_NoName
 x_NoSets:XCls K t.a_NoSets
 s_NoName:PySem.W.mroIn K t.a_NoName (.ref t.a_DoingError)=some true
 k_NoName_ValueError:PySem.W.kitOne K (.ref t.a_NoName) (.type "ValueError")=some true
 k_NoName_DoingError:PySem.W.kitOne K (.ref t.a_NoName) (.ref t.a_DoingError)=some true
 k_NoName_NoWorld:PySem.W.kitOne K (.ref t.a_NoName) (.ref t.a_NoWorld)=some false
 k_NoName_NoValue:PySem.W.kitOne K (.ref t.a_NoName) (.ref t.a_NoValue)=some false
 k_NoName_NoTie:PySem.W.kitOne K (.ref t.a_NoName) (.ref t.a_NoTie)=some false
 k_NoName_NoThinning:PySem.W.kitOne K (.ref t.a_NoName) (.ref t.a_NoThinning)=some false
 k_NoName_NoText:PySem.W.kitOne K (.ref t.a_NoName) (.ref t.a_NoText)=some false
 k_NoName_NoShare:PySem.W.kitOne K (.ref t.a_NoName) (.ref t.a_NoShare)=some false
 k_NoName_NoSets:PySem.W.kitOne K (.ref t.a_NoName) (.ref t.a_NoSets)=some false
 k_NoName_NoRule:PySem.W.kitOne K (.ref t.a_NoName) (.ref t.a_NoRule)=some false
 k_NoName_NoRoad:PySem.W.kitOne K (.ref t.a_NoName) (.ref t.a_NoRoad)=some false
 k_NoName_NoQuestion:PySem.W.kitOne K (.ref t.a_NoName) (.ref t.a_NoQuestion)=some false
 k_NoName_NoNest:PySem.W.kitOne K (.ref t.a_NoName) (.ref t.a_NoNest)=some false
 k_NoName_NoName:PySem.W.kitOne K (.ref t.a_NoName) (.ref t.a_NoName)=some true
 k_NoName_NoFraction:PySem.W.kitOne K (.ref t.a_NoName) (.ref t.a_NoFraction)=some false
 k_NoName_NoFormula:PySem.W.kitOne K (.ref t.a_NoName) (.ref t.a_NoFormula)=some false
 k_NoName_NoDoor:PySem.W.kitOne K (.ref t.a_NoName) (.ref t.a_NoDoor)=some false
 k_NoName_NoCount:PySem.W.kitOne K (.ref t.a_NoName) (.ref t.a_NoCount)=some false
 k_NoName_NoBow:PySem.W.kitOne K (.ref t.a_NoName) (.ref t.a_NoBow)=some false
 k_NoName_NoAnswer:PySem.W.kitOne K (.ref t.a_NoName) (.ref t.a_NoAnswer)=some false
 k_NoName_BadStep:PySem.W.kitOne K (.ref t.a_NoName) (.ref t.a_BadStep)=some false
 k_NoName_BadPaper:PySem.W.kitOne K (.ref t.a_NoName) (.ref t.a_BadPaper)=some false
 s_NoSets:PySem.W.mroIn K t.a_NoSets (.ref t.a_DoingError)=some true
 k_NoSets_ValueError:PySem.W.kitOne K (.ref t.a_NoSets) (.type "ValueError")=some true
 k_NoSets_DoingError:PySem.W.kitOne K (.ref t.a_NoSets) (.ref t.a_DoingError)=some true
 k_NoSets_NoWorld:PySem.W.kitOne K (.ref t.a_NoSets) (.ref t.a_NoWorld)=some false
 k_NoSets_NoValue:PySem.W.kitOne K (.ref t.a_NoSets) (.ref t.a_NoValue)=some false
 k_NoSets_NoTie:PySem.W.kitOne K (.ref t.a_NoSets) (.ref t.a_NoTie)=some false
 k_NoSets_NoThinning:PySem.W.kitOne K (.ref t.a_NoSets) (.ref t.a_NoThinning)=some false
 k_NoSets_NoText:PySem.W.kitOne K (.ref t.a_NoSets) (.ref t.a_NoText)=some false
 k_NoSets_NoShare:PySem.W.kitOne K (.ref t.a_NoSets) (.ref t.a_NoShare)=some false
 k_NoSets_NoSets:PySem.W.kitOne K (.ref t.a_NoSets) (.ref t.a_NoSets)=some true
 k_NoSets_NoRule:PySem.W.kitOne K (.ref t.a_NoSets) (.ref t.a_NoRule)=some false
 k_NoSets_NoRoad:PySem.W.kitOne K (.ref t.a_NoSets) (.ref t.a_NoRoad)=some false
 k_NoSets_NoQuestion:PySem.W.kitOne K (.ref t.a_NoSets) (.ref t.a_NoQuestion)=some false
 k_NoSets_NoNest:PySem.W.kitOne K (.ref t.a_NoSets) (.ref t.a_NoNest)=some false
 k_NoSets_NoName:PySem.W.kitOne K (.ref t.a_NoSets) (.ref t.a_NoName)=some false
 k_NoSets_NoFraction:PySem.W.kitOne K (.ref t.a_NoSets) (.ref t.a_NoFraction)=some false
 k_NoSets_NoFormula:PySem.W.kitOne K (.ref t.a_NoSets) (.ref t.a_NoFormula)=some false
 k_NoSets_NoDoor:PySem.W.kitOne K (.ref t.a_NoSets) (.ref t.a_NoDoor)=some false
 k_NoSets_NoCount:PySem.W.kitOne K (.ref t.a_NoSets) (.ref t.a_NoCount)=some false
 k_NoSets_NoBow:PySem.W.kitOne K (.ref t.a_NoSets) (.ref t.a_NoBow)=some false
 k_NoSets_NoAnswer:PySem.W.kitOne K (.ref t.a_NoSets) (.ref t.a_NoAnswer)=some false
 k_NoSets_BadStep:PySem.W.kitOne K (.ref t.a_NoSets) (.ref t.a_BadStep)=some false
 k_NoSets_BadPaper:PySem.W.kitOne K (.ref t.a_NoSets) (.ref t.a_BadPaper)=some false
 b_ValueError:mg "ValueError"=none
 b_all:mg "all"=none
 b_int:mg "int"=none
 b_isinstance:mg "isinstance"=none
 b_len:mg "len"=none
 b_list:mg "list"=none
 b_range:mg "range"=none
 b_reversed:mg "reversed"=none
 b_set:mg "set"=none
 b_sorted:mg "sorted"=none
 b_sum:mg "sum"=none
 b_tuple:mg "tuple"=none
 c_MOST_BOWS:∃u,mg "MOST_BOWS"=some u/\RelV (.int 6) u
 c_MOST_NAMES:∃u,mg "MOST_NAMES"=some u/\RelV (.int 6) u
 nf_Drawing_bows:NoAttr K t.a_Drawing "bows"
 nf_Drawing_count:NoAttr K t.a_Drawing "count"
 nf_Drawing_ties:NoAttr K t.a_Drawing "ties"
section
variable {P:Program}{w:World}{K:PySem.W.Frag}{mg:Str->Option Value}{base:Heap}{t:Ad}
open DM (P2 Good)
def DF(c:Int)(ts bs:List P2):List (Str×PV):=[("count",.int c),("ties",.tup (ts.map prV)),("bows",.tup (bs.map prV))]
def Srt(l:List P2):Prop:=l.Pairwise (fun x y=>ST.pk x<ST.pk y)
def Row(H:PHp)(y:PV)(p:P2):Prop:=y=prV p∨∃r,y=.ref r/\H r=some (.lst [.int p.1,.int p.2])
abbrev Rows(H:PHp):List PV->List P2->Prop:=Paired (Row H)
def sp_ispair:Sp':=fun vs H Q _=>match vs with
 | [.int c,.tup [.int u,.int v]]=>(0≤u/\u<v/\v<c)/\Q (.bl true) H
 | _=>False
theorem e_ispair{c u v:Int}{H:PHp}{Q:VK'}{E:XK'}:sp_ispair [.int c,.tup [.int u,.int v]] H Q E=((0≤u/\u<v/\v<c)/\Q (.bl true) H):=rfl
def sp_arepairs:Sp':=fun vs H Q _=>match vs with
 | [.int c,.ref a]=>∃ps,H a=some (.lst (ps.map prV))/\Good c ps/\c≤6/\Q (.bl true) H
 | _=>False
theorem e_arepairs{c:Int}{a:Addr}{H:PHp}{Q:VK'}{E:XK'}:sp_arepairs [.int c,.ref a] H Q E=∃ps,H a=some (.lst (ps.map prV))/\Good c ps/\c≤6/\Q (.bl true) H:=rfl
def sp_init(t:Ad):Sp':=fun vs H Q _=>match vs with
 | [.ref x,.int c,.ref a,.ref b]=>∃dx ys zs ps qs,H x=some (.ins t.a_Drawing dx [])/\H a=some (.lst ys)/\H b=some (.lst zs)/\Rows H ys ps/\Rows H zs qs/\Good c ps/\Good c qs/\(1≤c/\c≤6/\qs.length≤6) /\
  ∀ts bs,ts.Perm ps->Srt ts->bs.Perm qs->Srt bs->Q .non (put H x (.ins t.a_Drawing dx (DF c ts bs)))
 | _=>False
theorem e_init{x a b:Addr}{c:Int}{H:PHp}{Q:VK'}{E:XK'}:sp_init t [.ref x,.int c,.ref a,.ref b] H Q E=∃dx ys zs ps qs,H x=some (.ins t.a_Drawing dx [])/\H a=some (.lst ys)/\H b=some (.lst zs)/\Rows H ys ps/\Rows H zs qs/\Good c ps/\Good c qs/\(1≤c/\c≤6/\qs.length≤6) /\
  ∀ts bs,ts.Perm ps->Srt ts->bs.Perm qs->Srt bs->Q .non (put H x (.ins t.a_Drawing dx (DF c ts bs))):=rfl
def sp_needname(t:Ad):Sp':=fun vs H Q _=>match vs with
 | [.ref x,.int n]=>∃dx c ts bs,H x=some (.ins t.a_Drawing dx (DF c ts bs))/\(0≤n/\n<c)/\Q .non H
 | _=>False
theorem e_needname{x:Addr}{n:Int}{H:PHp}{Q:VK'}{E:XK'}:sp_needname t [.ref x,.int n] H Q E=∃dx c ts bs,H x=some (.ins t.a_Drawing dx (DF c ts bs))/\(0≤n/\n<c)/\Q .non H:=rfl
def sp_sources(t:Ad):Sp':=fun vs H Q _=>match vs with
 | [.ref x,.int n]=>∃dx c ts bs,H x=some (.ins t.a_Drawing dx (DF c ts bs))/\(0≤n/\n<c)/\ts.length≤15/\Q (.tup (((ts.filter (fun p=>decide (p.2=n))).map (·.1)).map PV.int)) H
 | _=>False
theorem e_sources{x:Addr}{n:Int}{H:PHp}{Q:VK'}{E:XK'}:sp_sources t [.ref x,.int n] H Q E=∃dx c ts bs,H x=some (.ins t.a_Drawing dx (DF c ts bs))/\(0≤n/\n<c)/\ts.length≤15/\Q (.tup (((ts.filter (fun p=>decide (p.2=n))).map (·.1)).map PV.int)) H:=rfl
def sp_cell:Sp':=fun vs H Q _=>match vs with
 | [.fls l,.int k]=>(0≤k/\k<100)/\∃ns:List Int,l=ns.map PV.int/\Q (.int (ns.getD k.toNat 0)) H
 | _=>False
theorem e_cell{l:List PV}{k:Int}{H:PHp}{Q:VK'}{E:XK'}:sp_cell [.fls l,.int k] H Q E=((0≤k/\k<100)/\∃ns:List Int,l=ns.map PV.int/\Q (.int (ns.getD k.toNat 0)) H):=rfl
theorem atI_at{l:List PV}{i:Nat}(h:i<l.length):atI l ((i:Nat):Int)=some l[i]:=by
 unfold atI ixN
 rw[if_pos (by omega),if_pos (by omega)]
 show l[((i:Nat):Int).toNat]?=_
 rw[Int.toNat_natCast,List.getElem?_eq_getElem h]
theorem pd_mem{α β:Type}{R:α->β->Prop}{x:α}:∀{l:List α} {m:List β},Paired R l m->x∈l->∃y∈m,R x y
 | _::_,_::_,.cons h t,hx=>by
  rcases List.mem_cons.mp hx with rfl | hx
  ·exact⟨_,List.mem_cons_self,h⟩
  ·obtain⟨y,hy,r⟩:=pd_mem t hx
   exact⟨y,List.mem_cons_of_mem _ hy,r⟩
theorem fm{a b:Int}(h:0<b):0≤a.fmod b/\a.fmod b<b:=by
 rw[Int.fmod_eq_emod_of_nonneg _ (by omega)]
 exact⟨Int.emod_nonneg _ (by omega),Int.emod_lt_of_pos _ h⟩
theorem sub_putx{A B:PHp}{x:Addr}{o:PO}(s:∀a u,a≠x->A a=some u->B a=some u)(h:B x=some o):U.Sub (put A x o) B:=fun a u e=>by
 by_cases q:a=x
 ·subst q;rw[put_same]at e;cases e;exact h
 ·rw[put_ne q]at e;exact s a u q e
theorem putU_len{f:Str}{v:PV}:∀{fs:List (Str×PV)},(putU f v fs).length≤fs.length+1
 | []=>by simp[putU]
 |(g,y)::r=>by
  unfold putU
  split
  ·simp
  ·have:=putU_len (f:=f) (v:=v) (fs:=r);simp only[List.length_cons];omega
theorem cdvB{i j:Int}(h:j≠0)(f:j.natAbs<2 ^ 64):CDivB i j:=⟨h,(show My.BN 64 j from f).fit (by decide)⟩
def rowT(H:PHp)(y:PV):PV:=match y with
 | .ref r=>(match H r with | some (.lst l)=>.tup l | _=>.non)
 | y=>y
theorem rowT_ref{H:PHp}{r:Addr}{l:List PV}(h:H r=some (.lst l)):rowT H (.ref r)=.tup l:=by
 unfold rowT;dsimp only;rw[h]
theorem rows_map{H:PHp}:∀{ys:List PV} {ps:List P2},Rows H ys ps->ys.map (rowT H)=ps.map prV
 | [],[],.nil=>rfl
 | y::ys,p::ps,.cons h t=>by
  rw[List.map_cons,List.map_cons,rows_map t]
  congr 1
  rcases h with rfl |⟨r,rfl,hr⟩
  ·rfl
  ·exact rowT_ref hr
theorem Rows.up{H H1:PHp}{ys:List PV}{ps:List P2}(h:Rows H ys ps)(s:U.Sub H H1):Rows H1 ys ps:=Paired.mapP h fun y p r=>r.elim .inl fun⟨q,e,hq⟩=>.inr ⟨q,e,s _ _ hq⟩
theorem rows_prV{H:PHp}:∀{ps:List P2},Rows H (ps.map prV) ps
 | []=>.nil
 | _::_=>.cons (.inl rfl) rows_prV
def at1(n:Int)(y:PV):Bool:=match y with | .tup [.int _,.int v]=>decide (v=n) | _=>false
def at0(n:Int)(y:PV):Bool:=match y with | .tup [.int u,.int _]=>decide (u=n) | _=>false
def g0(y:PV):PV:=match y with | .tup [u,_]=>u | _=>.non
def g1(y:PV):PV:=match y with | .tup [_,v]=>v | _=>.non
theorem src_list{n:Int}:∀{ts:List P2},((ts.map prV).filter (at1 n)).map g0=((ts.filter (fun p=>decide (p.2=n))).map (·.1)).map PV.int
 | []=>rfl
 | p::ts=>by
  have e:at1 n (prV p)=decide (p.2=n):=rfl
  rw[List.map_cons,List.filter_cons,List.filter_cons,e]
  by_cases q:decide (p.2=n)=true
  ·rw[if_pos q,if_pos q,List.map_cons,List.map_cons,List.map_cons,src_list];rfl
  ·rw[if_neg q,if_neg q,src_list]
theorem fol_list{n:Int}:∀{ts:List P2},((ts.map prV).filter (at0 n)).map g1=((ts.filter (fun p=>decide (p.1=n))).map (·.2)).map PV.int
 | []=>rfl
 | p::ts=>by
  have e:at0 n (prV p)=decide (p.1=n):=rfl
  rw[List.map_cons,List.filter_cons,List.filter_cons,e]
  by_cases q:decide (p.1=n)=true
  ·rw[if_pos q,if_pos q,List.map_cons,List.map_cons,List.map_cons,fol_list];rfl
  ·rw[if_neg q,if_neg q,fol_list]
structure GJ (v j:Int) (l:List P2):Prop where
 nd:l.Nodup
 lo:∀p∈l,0≤p.1/\p.1<p.2/\(p.2<v∨(p.2=v/\p.1<j))
theorem GJ.app{v j:Int}{l:List P2}(h:GJ v j l)(h0:0≤j)(hj:j<v):GJ v (j+1) (l++[(j,v)]):=by
 refine⟨List.nodup_append.mpr ⟨h.nd,by simp,?_⟩,fun p hp=>?_⟩
 ·intro a ha b hb e
  rw[List.mem_singleton]at hb
  subst hb;subst e
  have:=h.lo _ ha
  simp only at this
  omega
 ·rcases List.mem_append.mp hp with hp | hp
  ·have:=h.lo p hp;omega
  ·rw[List.mem_singleton]at hp;subst hp;exact⟨h0,hj,.inr ⟨rfl,Int.lt_succ j⟩⟩
theorem GJ.up{v j:Int}{l:List P2}(h:GJ v j l):GJ v (j+1) l:=⟨h.nd,fun p hp=>by have:=h.lo p hp;omega⟩
theorem GJ.of{v:Int}{l:List P2}(h:Good v l):GJ v 0 l:=⟨h.nd,fun p hp=>by have:=h.lo p hp;omega⟩
theorem GJ.good{v:Int}{l:List P2}(h:GJ v v l):Good (v+1) l:=⟨h.nd,fun p hp=>by have:=h.lo p hp;omega⟩
theorem flat_ints{l:List Int}:(l.map PV.int).all (flat 8)=true:=by
 rw[List.all_eq_true]
 intro z hz
 obtain⟨p,_,rfl⟩:=List.mem_map.mp hz
 rfl
theorem any_int{l:List Int}{n:Int}:((l.map PV.int).any fun z=>deq z (.int n))=decide (n∈l):=by
 rw[Bool.eq_iff_iff,List.any_eq_true,decide_eq_true_eq]
 constructor
 ·rintro⟨z,hz,e⟩
  obtain⟨p,hp,rfl⟩:=List.mem_map.mp hz
  have:p=n:=by simpa[deq]using e
  rw[←this];exact hp
 ·intro h
  exact⟨_,List.mem_map.mpr ⟨_,h,rfl⟩,by simp[deq]⟩
def swp(p:P2):P2:=(p.2,p.1)
structure Nms (c:Int) (L:List Int):Prop where
 up:L.Pairwise (·<·)
 lo:∀x∈L,0≤x/\x<c
theorem Nms.nd{c:Int}{L:List Int}(h:Nms c L):L.Nodup:=h.up.imp fun h=>by omega
theorem Nms.len{c:Int}{L:List Int}(h:Nms c L)(hc:c≤6):L.length≤6:=My.nodup_le 6 L h.nd fun x hx=>by have:=h.lo x hx;omega
def Ins(t:Ad)(H:PHp)(x:Addr)(c:Int)(ts:List P2):Prop:=∃dx bs,H x=some (.ins t.a_Drawing dx (DF c ts bs))
theorem Ins.up{t:Ad}{H H1:PHp}{x:Addr}{c:Int}{ts:List P2}(h:Ins t H x c ts)(s:U.Sub H H1):Ins t H1 x c ts:=by
 obtain⟨dx,bs,e⟩:=h
 exact⟨dx,bs,s _ _ e⟩
def sp_needset(t:Ad):Sp':=fun vs H Q _=>match vs with
 | [.ref x,.tup l]=>∃c ts,∃L:List Int,Ins t H x c ts/\l=L.map PV.int/\Nms c L/\Q .non H
 | _=>False
theorem e_needset{x:Addr}{l:List PV}{H:PHp}{Q:VK'}{E:XK'}:sp_needset t [.ref x,.tup l] H Q E=∃c ts,∃L:List Int,Ins t H x c ts/\l=L.map PV.int/\Nms c L/\Q .non H:=rfl
def sp_anc(t:Ad)(f:P2->P2):Sp':=fun vs H Q _=>match vs with
 | [.ref x,.tup l]=>∃c ts,∃L:List Int,Ins t H x c ts/\l=L.map PV.int/\Nms c L/\(1≤c/\c≤6)/\Good c ts/\∀M:List Int,M.Pairwise (·<·)->(∀y,y∈M↔My.Reach (ts.map f) L y)->Q (.tup (M.map PV.int)) H
 | _=>False
theorem e_anc{f:P2->P2}{x:Addr}{l:List PV}{H:PHp}{Q:VK'}{E:XK'}:sp_anc t f [.ref x,.tup l] H Q E=∃c ts,∃L:List Int,Ins t H x c ts/\l=L.map PV.int/\Nms c L/\(1≤c/\c≤6)/\Good c ts/\∀M:List Int,M.Pairwise (·<·)->(∀y,y∈M↔My.Reach (ts.map f) L y)->Q (.tup (M.map PV.int)) H:=rfl
def dirF(b:Bool):P2->P2:=if b then swp else fun p=>p
theorem reach_lo{c:Int}{E:List P2}{S:List Int}(hE:∀a b,(a,b)∈E->0≤b/\b<c)(hS:∀x∈S,0≤x/\x<c){y:Int}(r:My.Reach E S y):0≤y/\y<c:=by
 cases r with
 | base h=>exact hS _ h
 | step _ e=>exact hE _ _ e
def onI(q:Int->Bool)(y:PV):Bool:=match y with | .int u=>q u | _=>false
theorem rng_int{m:Nat}{y:PV}(h:y∈rngL 0 m):∃u,y=.int u/\0≤u:=by
 unfold rngL at h
 obtain⟨k,_,rfl⟩:=List.mem_map.mp h
 exact⟨_,rfl,by omega⟩
theorem rng_len{m:Nat}:(rngL 0 m).length=m:=by unfold rngL;simp
def ulN(c:Int):List Int:=(List.range c.toNat).map fun k=>((k:Nat):Int)
def dlN(c:Int):List Int:=(List.range c.toNat).map fun k=>c - 1 - ((k:Nat):Int)
theorem ul_up(c:Int):(ulN c).Pairwise (·<·):=by
 unfold ulN
 rw[List.pairwise_map]
 exact List.pairwise_lt_range.imp fun h=>by omega
theorem dl_down(c:Int):(dlN c).Pairwise (·>·):=by
 unfold dlN
 rw[List.pairwise_map]
 refine List.Pairwise.imp (fun {a b} h=>?_) (List.pairwise_lt_range (n:=c.toNat))
 show c - 1 - ((a:Nat):Int)>c - 1 - ((b:Nat):Int)
 omega
theorem mem_ulN{c x:Int}:x∈ulN c↔0≤x/\x<c:=by
 unfold ulN
 simp only[List.mem_map,List.mem_range]
 constructor
 ·rintro⟨k,hk,rfl⟩;omega
 ·intro h;exact⟨x.toNat,by omega,by omega⟩
theorem mem_dlN{c x:Int}:x∈dlN c↔0≤x/\x<c:=by
 unfold dlN
 simp only[List.mem_map,List.mem_range]
 constructor
 ·rintro⟨k,hk,rfl⟩;omega
 ·intro h;exact⟨(c - 1 - x).toNat,by omega,by omega⟩
theorem fwd_of{R:Int->Int->Prop}{E:List P2}{L:List Int}(hp:L.Pairwise R)(as:∀a b,R a b->¬R b a)(hE:∀a b,(a,b)∈E->a∈L/\R a b):My.Fwd E L:=by
 intro a b e L1 L2 hl hb
 obtain⟨ha,hr⟩:=hE a b e
 rw[hl]at ha hp
 rcases List.mem_append.mp ha with h | h
 ·exact h
 ·exact absurd ((List.pairwise_append.mp hp).2.2 b hb a h) (as _ _ hr)
theorem mem_swp{ts:List P2}{a b:Int}:(a,b)∈ts.map swp↔(b,a)∈ts:=by
 rw[List.mem_map]
 constructor
 ·rintro⟨p,hp,e⟩
  unfold swp at e
  cases e
  exact hp
 ·intro h;exact⟨_,h,rfl⟩
theorem down_iff{c:Int}{ts:List P2}{L:List Int}(g:Good c ts)(y:Int):y∈(dlN c).foldl (My.pStep (ts.map swp)) L↔My.Reach (ts.map swp) L y:=by
 refine My.pFold_iff (fun a b e=>?_) (fwd_of (dl_down c) (fun a b h=>by omega) fun a b e=>?_) ((dl_down c).imp fun h=>by omega) y
 ·have:=g.lo _ (mem_swp.mp e);simp only at this;exact mem_dlN.mpr ⟨by omega,by omega⟩
 ·have:=g.lo _ (mem_swp.mp e);simp only at this;exact⟨mem_dlN.mpr ⟨by omega,by omega⟩,by omega⟩
theorem outs_swp{n:Int}:∀{ts:List P2},My.outs (ts.map swp) n=(ts.filter (fun p=>decide (p.2=n))).map (·.1)
 | []=>rfl
 | p::ts=>by
  have ih:=outs_swp (n:=n) (ts:=ts)
  unfold My.outs at ih ⊢
  rw[List.map_cons,List.filter_cons,List.filter_cons]
  by_cases h:decide (p.2=n)=true
  ·have h':decide ((swp p).1=n)=true:=h
   rw[if_pos h,if_pos h',List.map_cons,List.map_cons,ih];rfl
  ·have h':¬decide ((swp p).1=n)=true:=h
   rw[if_neg h,if_neg h',ih]
theorem outs_len{E:List P2}{n:Int}:(My.outs E n).length≤E.length:=by
 unfold My.outs;rw[List.length_map];exact List.length_filter_le _ _
theorem pStep_len{E:List P2}{f:List Int}{n:Int}:(My.pStep E f n).length≤f.length+E.length:=by
 unfold My.pStep
 split
 ·rw[List.length_append];have:=outs_len (E:=E) (n:=n);omega
 ·omega
theorem take_fold{α β:Type}{f:β->α->β}{l:List α}{i:Nat}{b:β}{x:α}(h:l[i]?=some x):(l.take (i+1)).foldl f b=f ((l.take i).foldl f b) x:=by
 rw[List.take_add_one,h,List.foldl_append];rfl
theorem uTurns_succ{E:List P2}:∀(n:Nat) (f:List Int),My.uTurns E (n+1) f=My.uTurn E (My.uTurns E n f)
 | 0,f=>rfl
 | n+1,f=>by
  show My.uTurns E (n+1) (My.uTurn E f)=_
  rw[uTurns_succ n];rfl
theorem good_dir{c:Int}{ps:List P2}(g:Good c ps)(b:Bool):∀x y,(x,y)∈ps.map (dirF b)->0≤y/\y<c:=by
 intro x y h
 obtain⟨p,hp,e⟩:=List.mem_map.mp h
 have:=g.lo p hp
 cases b with
 | true=>have e':swp p=(x,y):=e;unfold swp at e';cases e';omega
 | false=>have e':p=(x,y):=e;subst e';simp only at this;omega
theorem from_nats{c:Int}{F:List Int}{ms:List Nat}{R:Int->Prop}(hc:c≤6)(hF:∀x∈F,0≤x/\x<c)(hR:∀y,y∈F↔R y)(hs:ms.Pairwise (·<·))(hm:∀x,x∈ms↔x∈F.map Int.toNat) :
  ((ms.map fun(n:Nat)=>(n:Int)).Pairwise (·<·))/\∀y,y∈(ms.map fun(n:Nat)=>(n:Int))↔R y:=by
 constructor
 ·rw[List.pairwise_map];exact hs.imp fun h=>by omega
 ·intro y
  rw[←hR,List.mem_map]
  constructor
  ·rintro⟨n,hn,rfl⟩
   obtain⟨z,hz,e⟩:=List.mem_map.mp ((hm n).mp hn)
   have:=hF z hz
   have:((n:Nat):Int)=z:=by omega
   rw[this];exact hz
  ·intro h
   have:=hF y h
   exact⟨y.toNat,(hm _).mpr (List.mem_map.mpr ⟨y,h,rfl⟩),by omega⟩
def sp_bowed(t:Ad):Sp':=fun vs H Q _=>match vs with
 | [.ref x,.int n]=>∃dx c ts bs,H x=some (.ins t.a_Drawing dx (DF c ts bs))/\(0≤n/\n<c)/\bs.length≤15/\Q (.tup (((bs.filter (fun p=>decide (p.2=n))).map (·.1)++(bs.filter (fun p=>decide (p.1=n))).map (·.2)).map PV.int)) H
 | _=>False
theorem e_bowed{x:Addr}{n:Int}{H:PHp}{Q:VK'}{E:XK'}:sp_bowed t [.ref x,.int n] H Q E=∃dx c ts bs,H x=some (.ins t.a_Drawing dx (DF c ts bs))/\(0≤n/\n<c)/\bs.length≤15/\Q (.tup (((bs.filter (fun p=>decide (p.2=n))).map (·.1)++(bs.filter (fun p=>decide (p.1=n))).map (·.2)).map PV.int)) H:=rfl
def wthn(bs:List P2)(L:List Int):List P2:=bs.filter fun p=>decide (p.1∈L)&&decide (p.2∈L)
def both(bs:List P2)(L:List Int):List P2:=wthn bs L++(wthn bs L).map swp
theorem mem_both{bs:List P2}{L:List Int}{a b:Int}:(a,b)∈both bs L↔a∈L/\b∈L/\((a,b)∈bs∨(b,a)∈bs):=by
 unfold both wthn
 rw[List.mem_append,mem_swp,List.mem_filter,List.mem_filter]
 simp only[Bool.and_eq_true,decide_eq_true_eq]
 constructor
 ·rintro(⟨h1,h2,h3⟩ |⟨h1,h2,h3⟩)
  ·exact⟨h2,h3,.inl h1⟩
  ·exact⟨h3,h2,.inr h1⟩
 ·rintro⟨h1,h2,h3 | h3⟩
  ·exact .inl ⟨h3,h1,h2⟩
  ·exact .inr ⟨h3,h2,h1⟩
def sp_lumpof(t:Ad):Sp':=fun vs H Q _=>match vs with
 | [.ref x,.int n,.tup l]=>∃dx c ts bs,∃L:List Int,H x=some (.ins t.a_Drawing dx (DF c ts bs))/\l=L.map PV.int/\Nms c L/\(1≤c/\c≤6)/\Good c bs/\n∈L/\∀M:List Int,M.Pairwise (·<·)->(∀y,y∈M↔My.Reach (both bs L) [n] y)->Q (.tup (M.map PV.int)) H
 | _=>False
theorem e_lumpof{x:Addr}{n:Int}{l:List PV}{H:PHp}{Q:VK'}{E:XK'}:sp_lumpof t [.ref x,.int n,.tup l] H Q E=∃dx c ts bs,∃L:List Int,H x=some (.ins t.a_Drawing dx (DF c ts bs))/\l=L.map PV.int/\Nms c L/\(1≤c/\c≤6)/\Good c bs/\n∈L/\∀M:List Int,M.Pairwise (·<·)->(∀y,y∈M↔My.Reach (both bs L) [n] y)->Q (.tup (M.map PV.int)) H:=rfl
inductive Lmps (E:List P2):List Int→List (List Int)→Prop where
 | nil:Lmps E [] []
 | cons {x:Int} {R:List Int} {M:List Int} {Ls:List (List Int)} (up:M.Pairwise (·<·)) (iff:∀y,y∈M↔My.Reach E [x] y) (h:Lmps E (R.filter fun y=>!decide (y∈M)) Ls):Lmps E (x::R) (M::Ls)
theorem Lmps.one{E:List P2}{L:List Int}{A:List (List Int)}(h:Lmps E L A):∀{B:List (List Int)},Lmps E L B->A=B:=by
 induction h with
 | nil=>intro B hB;cases hB;rfl
 | cons up iff h ih =>
  intro B hB
  cases hB with
  | cons up2 iff2 h2 =>
   have e:=My.rising_one up up2 fun y=>(iff y).trans (iff2 y).symm
   subst e
   rw[ih h2]
def tupI(M:List Int):PV:=.tup (M.map PV.int)
def sp_lumps(t:Ad):Sp':=fun vs H Q _=>match vs with
 | [.ref x,.tup l]=>∃dx c ts bs,∃L:List Int,H x=some (.ins t.a_Drawing dx (DF c ts bs))/\l=L.map PV.int/\Nms c L/\(1≤c/\c≤6)/\Good c bs/\∀r Ls,H r=none->Lmps (both bs L) L Ls->Ls.length≤6->(∀M∈Ls,M.length≤6)->Q (.ref r) (put H r (.lst (Ls.map tupI)))
 | _=>False
theorem e_lumps{x:Addr}{l:List PV}{H:PHp}{Q:VK'}{E:XK'}:sp_lumps t [.ref x,.tup l] H Q E=∃dx c ts bs,∃L:List Int,H x=some (.ins t.a_Drawing dx (DF c ts bs))/\l=L.map PV.int/\Nms c L/\(1≤c/\c≤6)/\Good c bs/\∀r Ls,H r=none->Lmps (both bs L) L Ls->Ls.length≤6->(∀M∈Ls,M.length≤6)->Q (.ref r) (put H r (.lst (Ls.map tupI))):=rfl
def inL(L:List Int)(y:PV):Bool:=match y with | .tup [.int u,.int v]=>decide (u∈L)&&decide (v∈L) | _=>false
theorem both_lo{c:Int}{bs:List P2}{L:List Int}(hL:Nms c L):∀x y,(x,y)∈both bs L->0≤y/\y<c:=fun x y h=>hL.lo y (mem_both.mp h).2.1
structure Iv (E:List P2) (L:List Int) (n:Int) (open':List Int) (ks ws:List Int):Prop where
 st:n∈ks
 nd:ks.Nodup
 re:∀y∈ks,My.Reach E [n] y
 inl:∀y∈ks,y∈L
 sub:∀y∈ws,y∈ks
 cl:∀a∈ks,a∉ws->a∉open'->∀b,(a,b)∈E->b∈ks
theorem Iv.add{E:List P2}{L:List Int}{n y z:Int}{ks ws:List Int}(h:Iv E L n [y] ks ws)(hy:y∈ks)(e:(y,z)∈E)(hz:z∈L)(hn:z∉ks):Iv E L n [y] (ks++[z]) (ws++[z]):=by
 refine⟨List.mem_append_left _ h.st,?_,fun a ha=>?_,fun a ha=>?_,fun a ha=>?_,fun a ha hw ho b hb=>?_⟩
 ·rw[List.nodup_append]
  refine⟨h.nd,by simp,fun a ha b hb e2=>?_⟩
  rw[List.mem_singleton]at hb
  rw[e2,hb]at ha;exact hn ha
 ·rcases List.mem_append.mp ha with ha | ha
  ·exact h.re a ha
  ·rw[List.mem_singleton]at ha;subst ha;exact .step (h.re y hy) e
 ·rcases List.mem_append.mp ha with ha | ha
  ·exact h.inl a ha
  ·rw[List.mem_singleton]at ha;subst ha;exact hz
 ·rcases List.mem_append.mp ha with ha | ha
  ·exact List.mem_append_left _ (h.sub a ha)
  ·exact List.mem_append_right _ ha
 ·rcases List.mem_append.mp ha with ha | ha
  ·exact List.mem_append_left _ (h.cl a ha (fun q=>hw (List.mem_append_left _ q)) ho b hb)
  ·exact absurd (List.mem_append_right _ ha) hw
theorem Iv.done{E:List P2}{L:List Int}{n:Int}{ks:List Int}(h:Iv E L n [] ks [])(y:Int):y∈ks↔My.Reach E [n] y:=by
 constructor
 ·exact h.re y
 ·intro r
  induction r with
  | base hb=>rw[List.mem_singleton]at hb;subst hb;exact h.st
  | step _ e ih=>exact h.cl _ ih (by simp) (by simp) _ e
theorem lumps_skip{placed:List Int}{l:List Int}{i:Nat}{x:Int}(hi:l[i]?=some x)(hx:x∈placed):(l.drop i).filter (fun y=>!decide (y∈placed))=(l.drop (i+1)).filter fun y=>!decide (y∈placed):=by
 obtain⟨h,e⟩:=List.getElem?_eq_some_iff.mp hi
 rw[List.drop_eq_getElem_cons h,List.filter_cons,e,if_neg (by simp[hx])]
theorem lumps_take{placed M:List Int}{l:List Int}{i:Nat}{x:Int}(hi:l[i]?=some x)(hx:x∉placed) :
  (l.drop i).filter (fun y=>!decide (y∈placed))=x::(l.drop (i+1)).filter (fun y=>!decide (y∈placed))/\((l.drop (i+1)).filter (fun y=>!decide (y∈placed))).filter (fun y=>!decide (y∈M))=(l.drop (i+1)).filter fun y=>!decide (y∈placed++M):=by
 obtain⟨h,e⟩:=List.getElem?_eq_some_iff.mp hi
 constructor
 ·rw[List.drop_eq_getElem_cons h,List.filter_cons,e,if_pos (by simp[hx])]
 ·rw[List.filter_filter]
  refine List.filter_congr fun y _=>?_
  rw[Bool.eq_iff_iff]
  simp only[Bool.and_eq_true,Bool.not_eq_true',decide_eq_false_iff_not,List.mem_append,not_or]
  exact⟨fun h=>⟨h.2,h.1⟩,fun h=>⟨h.2,h.1⟩⟩
theorem Iv.opn{E:List P2}{L:List Int}{n y:Int}{ks w:List Int}(h:Iv E L n [] ks (w++[y])):Iv E L n [y] ks w :=
 ⟨h.st,h.nd,h.re,h.inl,fun a ha=>h.sub a (List.mem_append_left _ ha),fun a ha hw ho=>h.cl a ha (fun q=>(List.mem_append.mp q).elim hw ho) (by simp)⟩
theorem Iv.close{E:List P2}{L:List Int}{n y:Int}{ks ws:List Int}(h:Iv E L n [y] ks ws)(hy:∀b,(y,b)∈E->b∈ks):Iv E L n [] ks ws :=
 ⟨h.st,h.nd,h.re,h.inl,h.sub,fun a ha hw _ b hb=>by
  by_cases e:a=y
  ·subst e;exact hy b hb
  ·exact h.cl a ha hw (by simp[e]) b hb⟩
theorem mem_bowed{bs:List P2}{n b:Int}:b∈(bs.filter (fun p=>decide (p.2=n))).map (·.1)++(bs.filter (fun p=>decide (p.1=n))).map (·.2)↔((n,b)∈bs∨(b,n)∈bs):=by
 rw[List.mem_append,List.mem_map,List.mem_map]
 constructor
 ·rintro(⟨⟨u,v⟩,h,rfl⟩ |⟨⟨u,v⟩,h,rfl⟩)
  ·rw[List.mem_filter]at h
   have e:v=n:=of_decide_eq_true h.2
   subst e;exact .inr h.1
  ·rw[List.mem_filter]at h
   have e:u=n:=of_decide_eq_true h.2
   subst e;exact .inl h.1
 ·rintro(h | h)
  ·exact .inr ⟨_,List.mem_filter.mpr ⟨h,decide_eq_true rfl⟩,rfl⟩
  ·exact .inl ⟨_,List.mem_filter.mpr ⟨h,decide_eq_true rfl⟩,rfl⟩
theorem reach_cong{E F:List P2}{S:List Int}(h:∀a b,(a,b)∈E->(a,b)∈F){y:Int}(r:My.Reach E S y):My.Reach F S y:=by
 induction r with
 | base h=>exact .base h
 | step _ e ih=>exact .step ih (h _ _ e)
theorem put_swap{H:PHp}{a b:Addr}{o u:PO}(h:a≠b):put (put H a o) b u=put (put H b u) a o:=by
 funext z
 by_cases e:z=a
 ·subst e;rw[put_ne h,put_same,put_same]
 ·by_cases e2:z=b
  ·subst e2;rw[put_same,put_ne e,put_same]
  ·rw[put_ne e2,put_ne e,put_ne e,put_ne e2]
structure OkD (c:Int) (ts bs:List P2):Prop where
 c1:1≤c
 c6:c≤6
 gt:Good c ts
 gb:Good c bs
 st:Srt ts
 sb:Srt bs
 b6:bs.length≤6
def FT(k:Nat)(L:List Int)(p:P2):Bool:=match k with
 | 0=>decide (p.1∈L)&&decide (p.2∈L)
 | 1=>!decide (p.2∈L)
 | _=>!decide (p.1∈L)
def FB(k:Nat)(L:List Int)(p:P2):Bool:=match k with
 | 0=>decide (p.1∈L)&&decide (p.2∈L)
 | 1=>!decide (p.1∈L)&&!decide (p.2∈L)
 | _=>true
theorem good_filter{c:Int}{ps:List P2}(g:Good c ps)(f:P2->Bool):Good c (ps.filter f):=⟨g.nd.sublist List.filter_sublist,fun p hp=>g.lo p (List.mem_filter.mp hp).1⟩
theorem OkD.filter{c:Int}{ts bs:List P2}(h:OkD c ts bs)(f g:P2->Bool):OkD c (ts.filter f) (bs.filter g) :=
 ⟨h.c1,h.c6,good_filter h.gt f,good_filter h.gb g,List.Pairwise.sublist List.filter_sublist h.st,List.Pairwise.sublist List.filter_sublist h.sb,Nat.le_trans (List.length_filter_le _ _) h.b6⟩
def Dr(t:Ad)(H:PHp)(x:Addr)(c:Int)(ts bs:List P2):Prop:=∃dx,H x=some (.ins t.a_Drawing dx (DF c ts bs))
theorem Dr.up{t:Ad}{H H1:PHp}{x:Addr}{c:Int}{ts bs:List P2}(h:Dr t H x c ts bs)(s:U.Sub H H1):Dr t H1 x c ts bs:=by
 obtain⟨dx,e⟩:=h
 exact⟨dx,s _ _ e⟩
def onP(f:P2->Bool)(y:PV):Bool:=match y with | .tup [.int u,.int v]=>f (u,v) | _=>false
theorem onP_prV{f:P2->Bool}{p:P2}:onP f (prV p)=f p:=rfl
theorem prs_filter{f:P2->Bool}:∀{ts:List P2},((ts.map prV).filter (onP f)).map (fun y=>y)=(ts.filter f).map prV
 | []=>rfl
 | p::ts=>by
  have ih:=prs_filter (f:=f) (ts:=ts)
  rw[List.map_cons,List.filter_cons,List.filter_cons,onP_prV]
  by_cases h:f p=true
  ·rw[if_pos h,if_pos h,List.map_cons,List.map_cons,ih]
  ·rw[if_neg h,if_neg h,ih]
theorem at3_0{x y z:PV}:atI [x,y,z] 0=some x:=rfl
theorem at3_1{x y z:PV}:atI [x,y,z] 1=some y:=rfl
theorem at3_2{x y z:PV}:atI [x,y,z] 2=some z:=rfl
theorem atI_c0{x:PV}{l:List PV}:atI (x::l) 0=some x:=atI_at (l:=x::l) (i:=0) (by simp)
theorem fm_bn{a b:Int}{n:Nat}(h:0<b)(hb:My.BN n b):My.BN n (a.fmod b):=by
 have:=fm (a:=a) h
 exact hb.of_le (by omega)
theorem sub_len:∀(f L:List Int),f.Nodup->(∀x∈f,x∈L)->f.length≤L.length
 | [],_,_,_=>Nat.zero_le _
 | x::f,L,hn,h=>by
  rw[List.nodup_cons]at hn
  have hx:=h x List.mem_cons_self
  have ih:=sub_len f (L.erase x) hn.2 fun y hy=>(List.mem_erase_of_ne (fun(e:y=x)=>hn.1 (e▸hy))).mpr (h y (List.mem_cons_of_mem _ hy))
  rw[List.length_erase_of_mem hx]at ih
  have:=List.length_pos_of_mem hx
  rw[List.length_cons];omega
theorem shutP{E:List P2}{P:Int->Prop}{m:Nat}(hb:∀f:List Int,f.Nodup->(∀x∈f,P x)->f.length≤m)(hE:∀a b,(a,b)∈E->P b) :
  ∀(n:Nat) {f:List Int},f.Nodup->(∀x∈f,P x)->m≤f.length+n->My.uTurn E (My.uTurns E n f)=My.uTurns E n f:=by
 have r:∀f:List Int,(∀x∈f,P x)->∀x∈My.uTurn E f,P x:=fun f hf x hx=>by
  cases My.uTurn_reach (E0:=E) (S:=f) E (fun _ hp=>hp) (fun y hy=>.base hy) x hx with
  | base h=>exact hf x h
  | step h e=>exact hE _ _ e
 intro n
 induction n with
 | zero =>
  intro f hn hf hl
  show My.uTurn E f=f
  apply Classical.byContradiction
  intro h
  have l:=My.uTurn_len h
  have:=hb _ (My.uTurn_nodup E hn) (r f hf)
  omega
 | succ n ih =>
  intro f hn hf hl
  by_cases h:My.uTurn E f=f
  ·rw[My.uTurns_stay (n+1) h,h]
  ·have l:=My.uTurn_len h
   exact ih (My.uTurn_nodup E hn) (r f hf) (by omega)
theorem turnsP{E:List P2}{S L:List Int}(hE:∀a b,(a,b)∈E->b∈L)(hS:∀x∈S,x∈L)(hn:S.Nodup)(y:Int):y∈My.uTurns E L.length S↔My.Reach E S y:=by
 constructor
 ·exact My.uTurns_reach _ (fun y hy=>.base hy) y
 ·have sh:=shutP (E:=E) (P:=fun x=>x∈L) (m:=L.length) (fun f h1 h2=>sub_len f L h1 h2) hE L.length hn hS (by omega)
  intro h
  induction h with
  | base h=>obtain⟨g,hg⟩:=My.uTurns_pre (E:=E) L.length S;rw[hg];exact List.mem_append_left _ h
  | step h e ih=>exact My.uTurn_same E sh _ _ e ih
theorem ints_filter{q:Int->Bool}:∀{l:List Int},((l.map PV.int).filter (onI q)).map (fun y=>y)=(l.filter q).map PV.int
 | []=>rfl
 | k::l=>by
  have e:onI q (PV.int k)=q k:=rfl
  rw[List.map_cons,List.filter_cons,List.filter_cons,e]
  by_cases h:q k=true
  ·rw[if_pos h,if_pos h,List.map_cons,List.map_cons,ints_filter]
  ·rw[if_neg h,if_neg h,ints_filter]
theorem ints_all{l:List Int}:((l.map PV.int).filter (fun _=>true)).map (fun y=>y)=l.map PV.int:=by
 rw[List.filter_eq_self.mpr (fun _ _=>rfl),List.map_id'' (fun _=>rfl)]
theorem rng_ul{c:Int}:rngL 0 c.toNat=(ulN c).map PV.int:=by
 unfold rngL ulN
 rw[List.map_map]
 refine List.map_congr_left fun k _=>?_
 show PV.int (0+(k:Int))=PV.int (k:Int)
 rw[Int.zero_add]
theorem deqs_ints:∀{A B:List Int},deqs (A.map PV.int) (B.map PV.int)=decide (A=B)
 | [],[]=>by simp[deqs]
 | [],_::_=>by simp[deqs]
 | _::_,[]=>by simp[deqs]
 | a::A,b::B=>by
  rw[List.map_cons,List.map_cons,deqs,deqs_ints,deq,Bool.eq_iff_iff]
  simp
theorem deqs_tups:∀{A B:List (List Int)},deqs (A.map tupI) (B.map tupI)=decide (A=B)
 | [],[]=>by simp[deqs]
 | [],_::_=>by simp[deqs]
 | _::_,[]=>by simp[deqs]
 | a::A,b::B=>by
  rw[List.map_cons,List.map_cons,deqs,deqs_tups,tupI,tupI,deq,deqs_ints,Bool.eq_iff_iff]
  simp
theorem deqs_nil{A:List Int}:deqs (A.map PV.int) []=decide (A=[]):=deqs_ints (B:=[])
theorem flat_ints7{l:List Int}:(l.map PV.int).all (flat 7)=true:=by
 rw[List.all_eq_true]
 intro z hz
 obtain⟨p,_,rfl⟩:=List.mem_map.mp hz
 rfl
def nin(c:Int)(A:List Int):List Int:=(ulN c).filter fun y=>!decide (y∈A)
theorem nin_nms{c:Int}{A:List Int}:Nms c (nin c A):=⟨(ul_up c).filter _,fun x hx=>mem_ulN.mp (List.mem_filter.mp hx).1⟩
theorem mem_nin{c:Int}{A:List Int}{x:Int}:x∈nin c A↔(0≤x/\x<c)/\x∉A:=by
 unfold nin
 rw[List.mem_filter,mem_ulN]
 simp
def up1(ts:List P2)(L:List Int):List P2:=(ts.filter fun p=>decide (p.1∈L)).map swp
def up2(ts:List P2)(L:List Int):List P2:=(ts.filter (FT 0 L)).map swp
theorem mem_up1{ts:List P2}{L:List Int}{a b:Int}:(a,b)∈up1 ts L↔(b,a)∈ts/\b∈L:=by
 unfold up1
 rw[mem_swp,List.mem_filter]
 simp
theorem mem_up2{ts:List P2}{L:List Int}{a b:Int}:(a,b)∈up2 ts L↔(b,a)∈ts/\b∈L/\a∈L:=by
 unfold up2
 rw[mem_swp,List.mem_filter]
 simp[FT]
theorem reach12{ts:List P2}{L S:List Int}(hS:∀x∈S,x∈L){y:Int}:My.Reach (up1 ts L) S y↔My.Reach (up2 ts L) S y:=by
 constructor
 ·intro h
  have:My.Reach (up2 ts L) S y/\y∈L:=by
   induction h with
   | base h=>exact⟨.base h,hS _ h⟩
   | step _ e ih =>
    have q:=mem_up1.mp e
    exact⟨.step ih.1 (mem_up2.mpr ⟨q.1,q.2,ih.2⟩),q.2⟩
  exact this.1
 ·exact reach_cong fun a b e=>mem_up1.mpr ⟨(mem_up2.mp e).1,(mem_up2.mp e).2.1⟩
def lStep(L:List Int)(f:List Int)(p:P2):List Int:=if p.2∈f/\p.1∈L/\p.1∉f then f++[p.1]else f
theorem up_fold{L:List Int}:∀(ts:List P2) (f:List Int),ts.foldl (lStep L) f=My.uTurn (up1 ts L) f
 | [],f=>rfl
 | p::ts,f=>by
  rw[List.foldl_cons,up_fold ts]
  unfold up1
  rw[List.filter_cons]
  by_cases h:decide (p.1∈L)=true
  ·rw[if_pos h,List.map_cons]
   have h':p.1∈L:=of_decide_eq_true h
   have e:lStep L f p=My.uStep f (swp p):=by
    unfold lStep My.uStep swp
    by_cases q:p.2∈f/\p.1∉f
    ·rw[if_pos ⟨q.1,h',q.2⟩,if_pos q]
    ·rw[if_neg (fun z=>q ⟨z.1,z.2.2⟩),if_neg q]
   rw[e];rfl
  ·rw[if_neg h]
   have h':p.1∉L:=fun z=>h (decide_eq_true z)
   have e:lStep L f p=f:=by unfold lStep;rw[if_neg fun z=>h' z.2.1]
   rw[e]
def bStep(L:List Int)(f:List Int)(p:P2):List Int:=if p.1∈L/\p.2∈L then(if p.1∈f then(if p.2∈f then f else f++[p.2])else(if p.2∈f then f++[p.1]else f))else f
def E2(bs:List P2)(L:List Int):List P2:=(wthn bs L).flatMap fun p=>[p,swp p]
theorem mem_E2{bs:List P2}{L:List Int}{a b:Int}:(a,b)∈E2 bs L↔(a,b)∈both bs L:=by
 unfold E2 both
 rw[List.mem_flatMap,List.mem_append,mem_swp]
 constructor
 ·rintro⟨p,hp,h⟩
  rcases List.mem_cons.mp h with h | h
  ·subst h;exact .inl hp
  ·rw[List.mem_singleton]at h
   unfold swp at h
   cases h;exact .inr hp
 ·rintro(h | h)
  ·exact⟨_,h,List.mem_cons_self⟩
  ·exact⟨_,h,List.mem_cons_of_mem _ (List.mem_singleton.mpr rfl)⟩
theorem bStep_two{L f:List Int}{p:P2}(h:p.1∈L/\p.2∈L):bStep L f p=My.uStep (My.uStep f p) (swp p):=by
 unfold bStep My.uStep swp
 rw[if_pos h]
 by_cases h1:p.1∈f
 ·by_cases h2:p.2∈f
  ·simp[h1,h2]
  ·simp[h1,h2]
 ·by_cases h2:p.2∈f
  ·simp[h1,h2]
  ·simp[h1,h2]
theorem lump_fold{L:List Int}:∀(bs:List P2) (f:List Int),bs.foldl (bStep L) f=My.uTurn (E2 bs L) f
 | [],f=>rfl
 | p::bs,f=>by
  rw[List.foldl_cons,lump_fold bs]
  unfold E2 wthn
  rw[List.filter_cons]
  by_cases h:(decide (p.1∈L)&&decide (p.2∈L))=true
  ·rw[if_pos h,List.flatMap_cons]
   have h':p.1∈L/\p.2∈L:=by simpa using h
   rw[bStep_two h'];rfl
  ·rw[if_neg h]
   have h':¬(p.1∈L/\p.2∈L):=fun z=>h (by simpa using z)
   have e:bStep L f p=f:=by unfold bStep;rw[if_neg h']
   rw[e]
theorem lump_turns{bs:List P2}{L:List Int}{x:Int}(hx:x∈L)(y:Int):y∈My.uTurns (E2 bs L) L.length [x]↔My.Reach (both bs L) [x] y:=by
 refine(turnsP (fun a b e=>(mem_both.mp (mem_E2.mp e)).2.1) (fun z hz=>by rw[List.mem_singleton]at hz;rw[hz];exact hx) (by simp) y).trans ⟨reach_cong fun a b=>mem_E2.mp,reach_cong fun a b=>mem_E2.mpr⟩
structure Qn (c:Int) (A B:List Int):Prop where
 a:Nms c A
 b:Nms c B
 ap:∀x∈A,x∉B
 ne:B≠[]
theorem Qn.sub{c:Int}{A B:List Int}(h:Qn c A B):∀x∈B,x∈nin c A:=fun x hx=>mem_nin.mpr ⟨h.b.lo x hx,fun z=>h.ap x z hx⟩
abbrev qV(A B:List Int):PV:=.tup [.tup (A.map PV.int),.tup (B.map PV.int)]
structure Bars (c:Int) (ts bs:List P2) (A B I O:List Int):Prop where
 ne:I≠[]
 want:∀x∈I,My.Reach (up2 ts (nin c A)) B x
 li:Lmps (both bs I) I [I]
 lo:Lmps (both bs O) O [O]
 io:I≠O
 sub:∀x∈I,x∈O
 anc:∀y,y∈O↔My.Reach (up2 ts O) I y
 set:∃x∈O,x∈A
def Shp(H:PHp)(a:Addr)(c:Int)(ts bs:List P2):Prop:=∃p q,H a=some (.lst [.int c,.ref p,.ref q])/\H p=some (.lst (ts.map prV))/\H q=some (.lst (bs.map prV))
theorem Shp.up{H H1:PHp}{a:Addr}{c:Int}{ts bs:List P2}(h:Shp H a c ts bs)(s:U.Sub H H1):Shp H1 a c ts bs:=by
 obtain⟨p,q,e1,e2,e3⟩:=h
 exact⟨p,q,s _ _ e1,s _ _ e2,s _ _ e3⟩
structure OkS (c:Int) (ts bs:List P2):Prop where
 c1:1≤c
 c6:c≤6
 gt:Good c ts
 gb:Good c bs
 b6:bs.length≤6
theorem Dr.ins{t:Ad}{H:PHp}{x:Addr}{c:Int}{ts bs:List P2}(h:Dr t H x c ts bs):Ins t H x c ts:=by
 obtain⟨dx,e⟩:=h
 exact⟨dx,bs,e⟩
def sp_part(t:Ad):Sp':=fun vs H Q _=>match vs with
 | [.ref x,.tup l]=>∃c ts bs,∃L:List Int,Dr t H x c ts bs/\l=L.map PV.int/\OkD c ts bs/\Nms c L/\∀y H1,U.Sub H H1->Dr t H1 y c (ts.filter (FT 0 L)) (bs.filter (FB 0 L))->Q (.ref y) H1
 | _=>False
theorem e_part{x:Addr}{l:List PV}{H:PHp}{Q:VK'}{E:XK'}:sp_part t [.ref x,.tup l] H Q E=(∃c ts bs,∃L:List Int,Dr t H x c ts bs/\l=L.map PV.int/\OkD c ts bs/\Nms c L/\∀y H1,U.Sub H H1->Dr t H1 y c (ts.filter (FT 0 L)) (bs.filter (FB 0 L))->Q (.ref y) H1):=rfl
def sp_upto:Sp':=fun vs H Q _=>match vs with
 | [.int c]=>(0≤c/\c<1000)/\Q (.tup ((ulN c).map PV.int)) H
 | _=>False
theorem e_upto{c:Int}{H:PHp}{Q:VK'}{E:XK'}:sp_upto [.int c] H Q E=((0≤c/\c<1000)/\Q (.tup ((ulN c).map PV.int)) H):=rfl
def sp_without:Sp':=fun vs H Q _=>match vs with
 | [.tup l,.tup m]=>∃A B:List Int,l=A.map PV.int/\m=B.map PV.int/\A.length≤1000/\Q (.tup ((A.filter fun y=>!decide (y∈B)).map PV.int)) H
 | _=>False
theorem e_without{l m:List PV}{H:PHp}{Q:VK'}{E:XK'}:sp_without [.tup l,.tup m] H Q E=(∃A B:List Int,l=A.map PV.int/\m=B.map PV.int/\A.length≤1000/\Q (.tup ((A.filter fun y=>!decide (y∈B)).map PV.int)) H):=rfl
def sp_needsets(t:Ad):Sp':=fun vs H Q _=>match vs with
 | [.ref x,.ref a]=>∃c ts,∃A B:List Int,Ins t H x c ts/\H a=some (.lst [.tup (A.map PV.int),.tup (B.map PV.int)])/\Nms c A/\Nms c B/\Q .non H
 | _=>False
theorem e_needsets{x a:Addr}{H:PHp}{Q:VK'}{E:XK'}:sp_needsets t [.ref x,.ref a] H Q E=(∃c ts,∃A B:List Int,Ins t H x c ts/\H a=some (.lst [.tup (A.map PV.int),.tup (B.map PV.int)])/\Nms c A/\Nms c B/\Q .non H):=rfl
def sp_needapart:Sp':=fun vs H Q _=>match vs with
 | [.ref a]=>∃c,∃A B:List Int,H a=some (.lst [.tup (A.map PV.int),.tup (B.map PV.int)])/\Nms c A/\Nms c B/\c≤6/\(∀x∈A,x∉B)/\Q .non H
 | _=>False
theorem e_needapart{a:Addr}{H:PHp}{Q:VK'}{E:XK'}:sp_needapart [.ref a] H Q E=(∃c,∃A B:List Int,H a=some (.lst [.tup (A.map PV.int),.tup (B.map PV.int)])/\Nms c A/\Nms c B/\c≤6/\(∀x∈A,x∉B)/\Q .non H):=rfl
def sp_needq(t:Ad):Sp':=fun vs H Q _=>match vs with
 | [.ref x,v]=>∃c ts,∃A B:List Int,v=qV A B/\Ins t H x c ts/\Qn c A B/\c≤6/\Q .non H
 | _=>False
theorem e_needq{x:Addr}{v:PV}{H:PHp}{Q:VK'}{E:XK'}:sp_needq t [.ref x,v] H Q E=(∃c ts,∃A B:List Int,v=qV A B/\Ins t H x c ts/\Qn c A B/\c≤6/\Q .non H):=rfl
def sp_wantn(t:Ad):Sp':=fun vs H Q _=>match vs with
 | [.ref x,v]=>∃c ts bs,∃A B:List Int,v=qV A B/\Dr t H x c ts bs/\OkD c ts bs/\Qn c A B/\∀M:List Int,M.Pairwise (·<·)->(∀y,y∈M↔My.Reach (up2 ts (nin c A)) B y)->Q (.tup (M.map PV.int)) H
 | _=>False
theorem e_wantn{x:Addr}{v:PV}{H:PHp}{Q:VK'}{E:XK'}:sp_wantn t [.ref x,v] H Q E=(∃c ts bs,∃A B:List Int,v=qV A B/\Dr t H x c ts bs/\OkD c ts bs/\Qn c A B/\∀M:List Int,M.Pairwise (·<·)->(∀y,y∈M↔My.Reach (up2 ts (nin c A)) B y)->Q (.tup (M.map PV.int)) H):=rfl
def sp_mix:Sp':=fun vs H Q _=>match vs with
 | [.int u,.int k]=>(0≤k/\k<100)/\∀n:Int,Q (.int n) H
 | _=>False
theorem e_mix{u k:Int}{H:PHp}{Q:VK'}{E:XK'}:sp_mix [.int u,.int k] H Q E=((0≤k/\k<100)/\∀n:Int,Q (.int n) H):=rfl
def sp_question:Sp':=fun vs H Q _=>match vs with
 | [.int n,.int c]=>(1≤c/\c≤6)/\∀A B:List Int,Qn c A B->Q (qV A B) H
 | _=>False
theorem e_question{n c:Int}{H:PHp}{Q:VK'}{E:XK'}:sp_question [.int n,.int c] H Q E=((1≤c/\c≤6)/\∀A B:List Int,Qn c A B->Q (qV A B) H):=rfl
def NmV(H:PHp)(v:PV)(L:List Int):Prop:=v=.tup (L.map PV.int)∨∃r,v=.ref r/\H r=some (.lst (L.map PV.int))
theorem NmV.up{H H1:PHp}{v:PV}{L:List Int}(h:NmV H v L)(s:U.Sub H H1):NmV H1 v L:=h.imp id fun⟨r,e,q⟩=>⟨r,e,s _ _ q⟩
theorem NmV.it{H:PHp}{v:PV}{L:List Int}{R:It'->PHp->Prop}(h:NmV H v L)(k:∀ok:PHp->Prop,(∀H',NmV H' v L->ok H')->R ⟨L.map PV.int,ok⟩ H):itOf v H R:=by
 rcases h with rfl |⟨r,rfl,q⟩
 ·exact k _ fun _ _=>trivial
 ·refine⟨_,q,k _ fun H' h'=>?_⟩
  rcases h' with e |⟨r2,e,q2⟩
  ·cases e
  ·cases e;exact q2
theorem NmV.s{H:PHp}{v:PV}{L:List Int}{k:List PV->Prop}(h:NmV H v L)(q:k (L.map PV.int)):withS v H k:=by
 rcases h with rfl |⟨r,rfl,e⟩
 ·exact q
 ·exact⟨_,e,q⟩
theorem both_sym{bs:List P2}{L:List Int}{a b:Int}(h:(a,b)∈both bs L):(b,a)∈both bs L:=by
 rw[mem_both]at h ⊢
 exact⟨h.2.1,h.1,h.2.2.symm⟩
theorem reach_trans{E:List P2}{x y z:Int}(h1:My.Reach E [x] y)(h2:My.Reach E [y] z):My.Reach E [x] z:=by
 induction h2 with
 | base h=>rw[List.mem_singleton]at h;rw[h];exact h1
 | step _ e ih=>exact .step ih e
theorem reach_sym{bs:List P2}{L:List Int}{x y:Int}(h:My.Reach (both bs L) [x] y):My.Reach (both bs L) [y] x:=by
 induction h with
 | base h=>rw[List.mem_singleton]at h;rw[h];exact .base (by simp)
 | step _ e ih=>exact reach_trans (.step (.base (by simp)) (both_sym e)) ih
theorem lm_cov{E:List P2}{L:List Int}{Ls:List (List Int)}(h:Lmps E L Ls):∀x∈L,∃M∈Ls,x∈M:=by
 induction h with
 | nil=>intro x hx;cases hx
 | cons up iff h ih =>
  rename_i x R M Ls
  intro y hy
  by_cases q:y∈M
  ·exact⟨M,List.mem_cons_self,q⟩
  ·rcases List.mem_cons.mp hy with e | e
   ·subst e;exact absurd ((iff y).mpr (.base (by simp))) q
   ·obtain⟨N,hN,yN⟩:=ih y (List.mem_filter.mpr ⟨e,by simp[q]⟩)
    exact⟨N,List.mem_cons_of_mem _ hN,yN⟩
theorem lm_mem{E:List P2}{L:List Int}{Ls:List (List Int)}(h:Lmps E L Ls):∀M∈Ls,M.Pairwise (·<·)/\∃x∈L,∀y,y∈M↔My.Reach E [x] y:=by
 induction h with
 | nil=>intro M hM;cases hM
 | cons up iff h ih =>
  rename_i x R M Ls
  intro N hN
  rcases List.mem_cons.mp hN with e | e
  ·subst e;exact⟨up,x,List.mem_cons_self,iff⟩
  ·obtain⟨h1,z,hz,h2⟩:=ih N e
   exact⟨h1,z,List.mem_cons_of_mem _ (List.mem_filter.mp hz).1,h2⟩
structure LA (bs:List P2) (L:List Int) (x:Int) (M:List Int):Prop where
 up:M.Pairwise (·<·)
 iff:∀y,y∈M↔My.Reach (both bs L) [x] y
theorem LA.self{bs:List P2}{L M:List Int}{x:Int}(h:LA bs L x M):x∈M:=(h.iff x).mpr (.base (by simp))
theorem LA.one{bs:List P2}{L M N:List Int}{x:Int}(h:LA bs L x M)(g:LA bs L x N):M=N:=My.rising_one h.up g.up fun y=>(h.iff y).trans (g.iff y).symm
theorem LA.move{bs:List P2}{L M:List Int}{x z:Int}(h:LA bs L x M)(hz:z∈M):LA bs L z M :=
 ⟨h.up,fun y=>(h.iff y).trans ⟨fun q=>reach_trans (reach_sym ((h.iff z).mp hz)) q,fun q=>reach_trans ((h.iff z).mp hz) q⟩⟩
theorem LA.sub{bs:List P2}{L M:List Int}{x:Int}(h:LA bs L x M)(hx:x∈L):∀y∈M,y∈L:=fun y hy=>by
 cases (h.iff y).mp hy with
 | base h=>rw[List.mem_singleton]at h;rw[h];exact hx
 | step _ e=>exact(mem_both.mp e).2.1
theorem lm_la{bs:List P2}{L:List Int}{Ls:List (List Int)}(h:Lmps (both bs L) L Ls){M:List Int}(hM:M∈Ls){x:Int}(hx:x∈M):LA bs L x M:=by
 obtain⟨up,z,_,iff⟩:=lm_mem h M hM
 exact LA.move ⟨up,iff⟩ hx
theorem lm_iff{bs:List P2}{L:List Int}{Ls:List (List Int)}(h:Lmps (both bs L) L Ls){M:List Int}:M∈Ls↔∃x∈L,LA bs L x M:=by
 constructor
 ·intro hM
  obtain⟨up,z,hz,iff⟩:=lm_mem h M hM
  exact⟨z,hz,up,iff⟩
 ·rintro⟨x,hx,la⟩
  obtain⟨N,hN,xN⟩:=lm_cov h x hx
  rw[la.one (lm_la h hN xN)];exact hN
theorem reach_part{bs:List P2}{X S:List Int}(h:∀y∈X,y∈S){x y:Int}(r:My.Reach (both bs X) [x] y):My.Reach (both bs S) [x] y :=
 reach_cong (fun a b e=>by rw[mem_both]at e ⊢;exact⟨h a e.1,h b e.2.1,e.2.2⟩) r
structure Cn (c:Int) (bs:List P2) (L0:List Int) (x0:Int):Prop where
 nms:Nms c L0
 hd:x0∈L0
 con:∀y∈L0,My.Reach (both bs L0) [x0] y
theorem LA.cn{c:Int}{bs:List P2}{W M:List Int}{x:Int}(h:LA bs W x M)(hW:Nms c W)(hx:x∈W):Cn c bs M x:=by
 refine⟨⟨h.up,fun y hy=>hW.lo y (h.sub hx y hy)⟩,h.self,fun y hy=>?_⟩
 have r:=(h.iff y).mp hy
 have:My.Reach (both bs M) [x] y/\y∈M:=by
  clear hy
  induction r with
  | base q=>rw[List.mem_singleton]at q;rw[q];exact⟨.base (by simp),h.self⟩
  | step r e ih =>
   have hm:=(h.iff _).mpr (.step r e)
   exact⟨.step ih.1 (mem_both.mpr ⟨ih.2,hm,(mem_both.mp e).2.2⟩),hm⟩
 exact this.1
structure Stk (ts bs:List P2) (L0:List Int) (x0:Int) (S:List Int):Prop where
 sub:∀y∈L0,y∈S
 an:∀y∈S,My.Reach (up2 ts S) L0 y
 ln:∀y∈S,My.Reach (both bs S) [x0] y
theorem Cn.stk{c:Int}{ts bs:List P2}{L0:List Int}{x0:Int}(h:Cn c bs L0 x0):Stk ts bs L0 x0 L0:=⟨fun _ h=>h,fun _ h=>.base h,h.con⟩
def Hold(ts bs:List P2)(L0:List Int)(x0:Int)(S:List Int):Prop:=∀X,Stk ts bs L0 x0 X->∀y∈X,y∈S
def Shut(ts:List P2)(S N:List Int):Prop:=∀u v,(u,v)∈ts->v∈N->u∈S->u∈N
theorem Hold.up{ts bs:List P2}{L0 S N:List Int}{x0:Int}(h:Hold ts bs L0 x0 S)(hl:∀y∈L0,y∈N)(sh:Shut ts S N):Hold ts bs L0 x0 N:=fun X hX y hy=>by
 have r:=hX.an y hy
 clear hy
 induction r with
 | base q=>exact hl _ q
 | step _ e ih =>
  obtain⟨e1,e2,_⟩:=mem_up2.mp e
  exact sh _ _ e1 ih (h X hX _ e2)
theorem Hold.lump{ts bs:List P2}{L0 S N:List Int}{x0:Int}(h:Hold ts bs L0 x0 S)(la:LA bs S x0 N):Hold ts bs L0 x0 N:=fun X hX y hy=>(la.iff y).mpr (reach_part (h X hX) (hX.ln y hy))
structure Fin (c:Int) (ts bs:List P2) (L0:List Int) (x0:Int) (T:List Int):Prop where
 nms:Nms c T
 stk:Stk ts bs L0 x0 T
 hold:Hold ts bs L0 x0 T
theorem Fin.one{c:Int}{ts bs:List P2}{L0 T U:List Int}{x0:Int}(h:Fin c ts bs L0 x0 T)(g:Fin c ts bs L0 x0 U):T=U :=
 My.rising_one h.nms.up g.nms.up fun y=>⟨g.hold T h.stk y,h.hold U g.stk y⟩
structure UpS (ts:List P2) (S L0 M:List Int):Prop where
 up:M.Pairwise (·<·)
 iff:∀y,y∈M↔My.Reach (up2 ts S) L0 y
theorem UpS.sub{ts:List P2}{S L0 M:List Int}(h:UpS ts S L0 M)(hl:∀y∈L0,y∈S):∀y∈M,y∈S:=fun y hy=>by
 cases (h.iff y).mp hy with
 | base q=>exact hl _ q
 | step _ e=>exact(mem_up2.mp e).2.1
structure Vc (c:Int) (ts bs:List P2) (S:List Int) (w:Str) (N:List Int):Prop where
 nms:Nms c N
 ne:N≠[]
 lt:N.length<S.length
 sub:∀y∈N,y∈S
 ok:(w="lump"/\∃x∈S,LA bs S x N)∨(w="up"/\Shut ts S N)
abbrev Cu:=Str×List Int
def stA(S:List Int)(cs:List Cu):List Int:=(cs.getLast?.map (·.2)).getD S
def RunOk(c:Int)(ts bs:List P2)(S:List Int)(cs:List Cu):Prop:=∀(i:Nat) (p:Cu),cs[i]?=some p->Vc c ts bs (stA S (cs.take i)) p.1 p.2
theorem RunOk.nil{c:Int}{ts bs:List P2}{S:List Int}:RunOk c ts bs S []:=fun i p h=>by simp at h
structure Wnt (c:Int) (ts bs:List P2) (A B W:List Int) (Ls:List (List Int)):Prop where
 nms:Nms c W
 iff:∀y,y∈W↔My.Reach (up2 ts (nin c A)) B y
 lm:Lmps (both bs W) W Ls
theorem Wnt.one{c:Int}{ts bs:List P2}{A B W V:List Int}{Ls Ms:List (List Int)}(h:Wnt c ts bs A B W Ls)(g:Wnt c ts bs A B V Ms):W=V/\Ls=Ms:=by
 have e:W=V:=My.rising_one h.nms.up g.nms.up fun y=>(h.iff y).trans (g.iff y).symm
 subst e
 exact⟨rfl,h.lm.one g.lm⟩
theorem Wnt.cn{c:Int}{ts bs:List P2}{A B W:List Int}{Ls:List (List Int)}(h:Wnt c ts bs A B W Ls){L0:List Int}(hL:L0∈Ls){x0:Int}(hx:x0∈L0):Cn c bs L0 x0:=by
 have la:=lm_la h.lm hL hx
 obtain⟨z,hz,lz⟩:=(lm_iff h.lm).mp hL
 exact la.cn h.nms (lz.sub hz x0 hx)
theorem Wnt.ne{c:Int}{ts bs:List P2}{A B W:List Int}{Ls:List (List Int)}(h:Wnt c ts bs A B W Ls){L0:List Int}(hL:L0∈Ls):∃x0 R0,L0=x0::R0:=by
 obtain⟨z,hz,lz⟩:=(lm_iff h.lm).mp hL
 cases L0 with
 | nil=>exact absurd lz.self (by simp)
 | cons x R=>exact⟨x,R,rfl⟩
theorem want_nms{c:Int}{ts:List P2}{A B W:List Int}(hq:Qn c A B)(up:W.Pairwise (·<·))(iff:∀y,y∈W↔My.Reach (up2 ts (nin c A)) B y):Nms c W:=⟨up,fun y hy=>by
 cases (iff y).mp hy with
 | base q=>exact hq.b.lo _ q
 | step _ e=>exact(mem_nin.mp (mem_up2.mp e).2.1).1⟩
theorem LA.nms{c:Int}{bs:List P2}{L M:List Int}{x:Int}(h:LA bs L x M)(hL:Nms c L)(hx:x∈L):Nms c M:=⟨h.up,fun y hy=>hL.lo y (h.sub hx y hy)⟩
def sp_drawing:Sp':=fun vs H Q _=>match vs with
 | [.int n,.int a,.int b]=>a=1/\(1≤b/\b≤6)/\∀c ts bs r H1,OkS c ts bs->c≤b->Srt ts->Srt bs->U.Sub H H1->Shp H1 r c ts bs->Q (.ref r) H1
 | _=>False
theorem e_drawing{n a b:Int}{H:PHp}{Q:VK'}{E:XK'}:sp_drawing [.int n,.int a,.int b] H Q E=(a=1/\(1≤b/\b≤6)/\∀c ts bs r H1,OkS c ts bs->c≤b->Srt ts->Srt bs->U.Sub H H1->Shp H1 r c ts bs->Q (.ref r) H1):=rfl
def sp_upper:Sp':=fun vs H Q _=>match vs with
 | [.ref a,v,.tup l]=>∃c ts bs,∃L S:List Int,Shp H a c ts bs/\OkS c ts bs/\NmV H v L/\l=S.map PV.int/\Nms c L/\S.Nodup/\(∀x∈S,x∈L)/\∀M:List Int,UpS ts L S M->Q (.tup (M.map PV.int)) H
 | _=>False
theorem e_upper{a:Addr}{v:PV}{l:List PV}{H:PHp}{Q:VK'}{E:XK'}:sp_upper [.ref a,v,.tup l] H Q E=(∃c ts bs,∃L S:List Int,Shp H a c ts bs/\OkS c ts bs/\NmV H v L/\l=S.map PV.int/\Nms c L/\S.Nodup/\(∀x∈S,x∈L)/\∀M:List Int,UpS ts L S M->Q (.tup (M.map PV.int)) H):=rfl
def sp_llumps:Sp':=fun vs H Q _=>match vs with
 | [.ref a,v]=>∃c ts bs,∃L:List Int,Shp H a c ts bs/\OkS c ts bs/\NmV H v L/\Nms c L/\∀r Ls H1,U.Sub H H1->H1 r=some (.lst (Ls.map tupI))->Lmps (both bs L) L Ls->Ls.length≤6->Q (.ref r) H1
 | _=>False
theorem e_llumps{a:Addr}{v:PV}{H:PHp}{Q:VK'}{E:XK'}:sp_llumps [.ref a,v] H Q E=(∃c ts bs,∃L:List Int,Shp H a c ts bs/\OkS c ts bs/\NmV H v L/\Nms c L/\∀r Ls H1,U.Sub H H1->H1 r=some (.lst (Ls.map tupI))->Lmps (both bs L) L Ls->Ls.length≤6->Q (.ref r) H1):=rfl
def sp_lwanted:Sp':=fun vs H Q _=>match vs with
 | [.ref a,v]=>∃c ts bs,∃A B:List Int,Shp H a c ts bs/\OkS c ts bs/\v=qV A B/\Qn c A B/\∀M:List Int,M.Pairwise (·<·)->(∀y,y∈M↔My.Reach (up2 ts (nin c A)) B y)->Q (.tup (M.map PV.int)) H
 | _=>False
theorem e_lwanted{a:Addr}{v:PV}{H:PHp}{Q:VK'}{E:XK'}:sp_lwanted [.ref a,v] H Q E=(∃c ts bs,∃A B:List Int,Shp H a c ts bs/\OkS c ts bs/\v=qV A B/\Qn c A B/\∀M:List Int,M.Pairwise (·<·)->(∀y,y∈M↔My.Reach (up2 ts (nin c A)) B y)->Q (.tup (M.map PV.int)) H):=rfl
def sp_wanted(t:Ad):Sp':=fun vs H Q _=>match vs with
 | [.ref x,v]=>∃c ts bs,∃A B:List Int,v=qV A B/\Dr t H x c ts bs/\OkD c ts bs/\Qn c A B/\∀W Ls r H1,U.Sub H H1->Wnt c ts bs A B W Ls->H1 r=some (.lst (Ls.map tupI))->Ls.length≤6->Q (.tup [.tup (W.map PV.int),.ref r]) H1
 | _=>False
theorem e_wanted{x:Addr}{v:PV}{H:PHp}{Q:VK'}{E:XK'}:sp_wanted t [.ref x,v] H Q E=(∃c ts bs,∃A B:List Int,v=qV A B/\Dr t H x c ts bs/\OkD c ts bs/\Qn c A B/\∀W Ls r H1,U.Sub H H1->Wnt c ts bs A B W Ls->H1 r=some (.lst (Ls.map tupI))->Ls.length≤6->Q (.tup [.tup (W.map PV.int),.ref r]) H1):=rfl
theorem cut_last{α:Type}(f:α->PV)(l:List α):∃m:List α,cutP (l.map f) (some (-1)) none=m.map f/\m.length≤1/\∀x∈m,x∈l:=by
 refine⟨l.drop (l.length - 1),?_,by rw[List.length_drop];omega,fun x hx=>List.mem_of_mem_drop hx⟩
 have e:HT.sIx (l.map f).length 0 (some (-1))=l.length - 1:=by
  unfold HT.sIx
  rw[List.length_map]
  simp
  omega
 unfold cutP
 rw[e,HT.sIx_none,List.length_map,List.map_drop]
 exact List.take_of_length_le (by rw[List.length_drop,List.length_map];omega)
theorem cut_first{α:Type}(f:α->PV)(l:List α):∃m:List α,cutP (l.map f) none (some 1)=m.map f/\m.length≤1/\∀x∈m,x∈l:=by
 refine⟨l.take 1,?_,by rw[List.length_take];omega,fun x hx=>List.mem_of_mem_take hx⟩
 unfold cutP
 rw[HT.sIx_none,show(1:Int)=((1:Nat):Int)from rfl,HT.sIx_nat,List.drop_zero,List.length_map,List.map_take,Nat.sub_zero]
 rcases Nat.lt_or_ge l.length 1 with h | h
 ·have:l=[]:=List.length_eq_zero_iff.mp (by omega)
  subst this;rfl
 ·rw[Nat.min_eq_left h]
def sp_isset:Sp':=fun vs H Q _=>match vs with
 | [.int c,.tup l]=>∃L:List Int,l=L.map PV.int/\(Nms c L->Q (.bl true) H)/\(¬Nms c L->Q (.bl false) H)
 | _=>False
theorem e_isset{c:Int}{l:List PV}{H:PHp}{Q:VK'}{E:XK'}:sp_isset [.int c,.tup l] H Q E=(∃L:List Int,l=L.map PV.int/\(Nms c L->Q (.bl true) H)/\(¬Nms c L->Q (.bl false) H)):=rfl
structure Fit (c:Int) (A B:List Int):Prop where
 la:A.length≤100
 lb:B.length≤100
def sp_needsetX(t:Ad):Sp':=fun vs H Q E=>match vs with
 | [.ref x,.tup l]=>∃c ts bs,∃L:List Int,Dr t H x c ts bs/\l=L.map PV.int/\(Nms c L->Q .non H)/\(¬Nms c L->E (.ref t.a_NoName) none H)
 | _=>False
theorem e_needsetX{x:Addr}{l:List PV}{H:PHp}{Q:VK'}{E:XK'}:sp_needsetX t [.ref x,.tup l] H Q E=∃c ts bs,∃L:List Int,Dr t H x c ts bs/\l=L.map PV.int/\(Nms c L->Q .non H)/\(¬Nms c L->E (.ref t.a_NoName) none H):=rfl
def sp_needsetsX(t:Ad):Sp':=fun vs H Q E=>match vs with
 | [.ref x,.ref a]=>∃c ts bs,∃A B:List Int,Dr t H x c ts bs/\H a=some (.lst [.tup (A.map PV.int),.tup (B.map PV.int)])/\(Nms c A->Nms c B->Q .non H)/\(¬(Nms c A/\Nms c B)->E (.ref t.a_NoName) none H)
 | _=>False
theorem e_needsetsX{x a:Addr}{H:PHp}{Q:VK'}{E:XK'}:sp_needsetsX t [.ref x,.ref a] H Q E=∃c ts bs,∃A B:List Int,Dr t H x c ts bs/\H a=some (.lst [.tup (A.map PV.int),.tup (B.map PV.int)])/\(Nms c A->Nms c B->Q .non H)/\(¬(Nms c A/\Nms c B)->E (.ref t.a_NoName) none H):=rfl
def sp_needapartX(t:Ad):Sp':=fun vs H Q E=>match vs with
 | [.ref a]=>∃c,∃A B:List Int,H a=some (.lst [.tup (A.map PV.int),.tup (B.map PV.int)])/\Nms c A/\Nms c B/\c≤6/\((∀x∈A,x∉B)->Q .non H)/\(¬(∀x∈A,x∉B)->∀H1,U.Sub H H1->E (.ref t.a_NoSets) none H1)
 | _=>False
theorem e_needapartX{a:Addr}{H:PHp}{Q:VK'}{E:XK'}:sp_needapartX t [.ref a] H Q E=∃c,∃A B:List Int,H a=some (.lst [.tup (A.map PV.int),.tup (B.map PV.int)])/\Nms c A/\Nms c B/\c≤6/\((∀x∈A,x∉B)->Q .non H)/\(¬(∀x∈A,x∉B)->∀H1,U.Sub H H1->E (.ref t.a_NoSets) none H1):=rfl
def Rf(t:Ad)(c:Int)(A B:List Int)(H:PHp)(E:XK'):Prop:=(¬(Nms c A/\Nms c B)->∀H1,U.Sub H H1->E (.ref t.a_NoName) none H1)/\(Nms c A->Nms c B->¬((∀x∈A,x∉B)/\B≠[])->∀H1,U.Sub H H1->E (.ref t.a_NoSets) none H1)
def sp_needqX(t:Ad):Sp':=fun vs H Q E=>match vs with
 | [.ref x,v]=>∃c ts bs,∃A B:List Int,v=qV A B/\Dr t H x c ts bs/\c≤6/\(Qn c A B->Q .non H)/\Rf t c A B H E
 | _=>False
theorem e_needqX{x:Addr}{v:PV}{H:PHp}{Q:VK'}{E:XK'}:sp_needqX t [.ref x,v] H Q E=∃c ts bs,∃A B:List Int,v=qV A B/\Dr t H x c ts bs/\c≤6/\(Qn c A B->Q .non H)/\Rf t c A B H E:=rfl
def sp_wantnX(t:Ad):Sp':=fun vs H Q E=>match vs with
 | [.ref x,v]=>∃c ts bs,∃A B:List Int,v=qV A B/\Dr t H x c ts bs/\OkD c ts bs/\(Qn c A B->∀M:List Int,M.Pairwise (·<·)->(∀y,y∈M↔My.Reach (up2 ts (nin c A)) B y)->Q (.tup (M.map PV.int)) H)/\Rf t c A B H E
 | _=>False
theorem e_wantnX{x:Addr}{v:PV}{H:PHp}{Q:VK'}{E:XK'}:sp_wantnX t [.ref x,v] H Q E=∃c ts bs,∃A B:List Int,v=qV A B/\Dr t H x c ts bs/\OkD c ts bs/\(Qn c A B->∀M:List Int,M.Pairwise (·<·)->(∀y,y∈M↔My.Reach (up2 ts (nin c A)) B y)->Q (.tup (M.map PV.int)) H)/\Rf t c A B H E:=rfl
def sp_wantedX(t:Ad):Sp':=fun vs H Q E=>match vs with
 | [.ref x,v]=>∃c ts bs,∃A B:List Int,v=qV A B/\Dr t H x c ts bs/\OkD c ts bs/\(Qn c A B->∀W Ls r H1,H r=none->U.Sub H H1->Wnt c ts bs A B W Ls->H1 r=some (.lst (Ls.map tupI))->Ls.length≤6->Q (.tup [.tup (W.map PV.int),.ref r]) H1)/\Rf t c A B H E
 | _=>False
theorem e_wantedX{x:Addr}{v:PV}{H:PHp}{Q:VK'}{E:XK'}:sp_wantedX t [.ref x,v] H Q E=∃c ts bs,∃A B:List Int,v=qV A B/\Dr t H x c ts bs/\OkD c ts bs/\(Qn c A B->∀W Ls r H1,H r=none->U.Sub H H1->Wnt c ts bs A B W Ls->H1 r=some (.lst (Ls.map tupI))->Ls.length≤6->Q (.tup [.tup (W.map PV.int),.ref r]) H1)/\Rf t c A B H E:=rfl
def Kd(t:Ad)(C:Addr)(nm:Str):Prop:=(C=t.a_NoName/\nm="NoName")∨(C=t.a_NoSets/\nm="NoSets")
def sp_class(t:Ad):Sp':=fun vs H Q _=>match vs with
 | [.ref a]=>∃C nm,H a=some (.exc C)/\Kd t C nm/\Q (.str nm) H
 | _=>False
theorem e_class{a:Addr}{H:PHp}{Q:VK'}{E:XK'}:sp_class t [.ref a] H Q E=∃C nm,H a=some (.exc C)/\Kd t C nm/\Q (.str nm) H:=rfl
def sp_isnames:Sp':=fun vs H Q _=>match vs with
 | [.int c,.tup l]=>∃L:List Int,l=L.map PV.int/\L.length≤100/\∀b:Bool,(b=true↔Nms c L)->Q (.bl b) H
 | _=>False
theorem e_isnames{c:Int}{l:List PV}{H:PHp}{Q:VK'}{E:XK'}:sp_isnames [.int c,.tup l] H Q E=∃L:List Int,l=L.map PV.int/\L.length≤100/\∀b:Bool,(b=true↔Nms c L)->Q (.bl b) H:=rfl
def sp_spoilt:Sp':=fun vs H Q _=>match vs with
 | [v,.int n,.int c]=>∃A B:List Int,v=qV A B/\(1≤c/\c≤6)/\A.length≤6/\B.length≤6/\∀A2 B2:List Int,A2.length≤20->B2.length≤20->Q (qV A2 B2) H
 | _=>False
theorem e_spoilt{v:PV}{n c:Int}{H:PHp}{Q:VK'}{E:XK'}:sp_spoilt [v,.int n,.int c] H Q E=∃A B:List Int,v=qV A B/\(1≤c/\c≤6)/\A.length≤6/\B.length≤6/\∀A2 B2:List Int,A2.length≤20->B2.length≤20->Q (qV A2 B2) H:=rfl
def Du(c:Int)(A B:List Int)(nm:Str):Prop:=(¬(Nms c A/\Nms c B)/\nm="NoName")∨((Nms c A/\Nms c B)/\¬((∀x∈A,x∉B)/\B≠[])/\nm="NoSets")∨(Qn c A B/\nm="")
def sp_due:Sp':=fun vs H Q _=>match vs with
 | [.int c,v]=>∃A B:List Int,v=qV A B/\A.length≤20/\B.length≤20/\∀nm,Du c A B nm->Q (.str nm) H
 | _=>False
theorem e_due{c:Int}{v:PV}{H:PHp}{Q:VK'}{E:XK'}:sp_due [.int c,v] H Q E=∃A B:List Int,v=qV A B/\A.length≤20/\B.length≤20/\∀nm,Du c A B nm->Q (.str nm) H:=rfl
def uBs:List TE'->TA'
 | []=>uNil
 | te::r=>uCons te (uBs r)
def AllB(σ:St')(H:PHp):List TE'->List Bool->Prop
 | [],[]=>True
 | te::r,b::bs=>IsV σ H te b/\AllB σ H r bs
 | _,_=>False
theorem bs_ok{σ:St'}{H:PHp}:∀{l:List TE'} {bs:List Bool} {Q:List PV->PHp->Prop},AllB σ H l bs->Q (bs.map PV.bl) H->uBs l σ H Q
 | [],[],Q,_,q=>q
 | te::r,b::bs,Q,⟨h,hr⟩,q=>by
  show te σ H fun v H1=>_
  refine h _ ?_
  exact bs_ok (Q:=fun vs H'=>Q (.bl b::vs) H') hr q
theorem b_first{H:PHp}{a:Addr}{l:List TE'}{bs:List Bool}{R:TS'}{D:Ends'}{o x:Option PV}(hv:AllB [some (.ref a),o,x] H l bs)(hl:bs.length≤30)
  (h:∀q H',U.Sub H H'->H' q=some (.lst (bs.map PV.bl))->R D [some (.ref a),some (.ref q),x] H'):uSeq (uAsg (uLst (uBs l)) (vName 1)) R D [some (.ref a),o,x] H:=by
 show uBs l _ H fun xs H1=>_
 exact bs_ok hv ⟨small_size (by rw[List.length_map];omega),fun q hq=>h q _ ((Sub.refl H).put hq) put_same⟩
theorem b_more{H:PHp}{a q:Addr}{l:List TE'}{cs bs:List Bool}{R:TS'}{D:Ends'}{x:Option PV}(hq:H q=some (.lst (cs.map PV.bl)))(hv:AllB [some (.ref a),some (.ref q),x] H l bs)(hl:bs.length≤30/\cs.length≤30)
  (h:∀r H',U.Sub H H'->H' r=some (.lst ((cs++bs).map PV.bl))->R D [some (.ref a),some (.ref r),x] H'):uSeq (uAsg (uOp uCat (uVar 1) (uLst (uBs l))) (vName 1)) R D [some (.ref a),some (.ref q),x] H:=by
 show uBs l _ H fun xs H1=>_
 refine bs_ok hv ⟨small_size (by rw[List.length_map];omega),fun p hp=>?_⟩
 refine⟨_,_,(put_ne (ne_none hq hp)).trans hq,put_same,small_size (by rw[List.length_map,List.length_map];omega),fun r hr=>?_⟩
 have sa:=(Sub.refl H).put (o:=.lst (bs.map PV.bl)) hp
 refine h r _ (sa.put (sa.free hr)) ?_
 rw[List.map_append];exact put_same
def b01(y:PV):PV:=match y with
 | .bl b=>.int (if b then 1 else 0)
 | z=>z
theorem flat_tups7{A:List (List Int)}:(A.map tupI).all (flat 7)=true:=by
 rw[List.all_eq_true]
 intro z hz
 obtain⟨l,_,rfl⟩:=List.mem_map.mp hz
 show((l.map PV.int).all (flat 6))=true
 rw[List.all_eq_true]
 intro z hz
 obtain⟨p,_,rfl⟩:=List.mem_map.mp hz
 rfl
end
section
variable {P:Program}{w:World}{K:PySem.W.Frag}{mg:Str->Option Value}{base:Heap}{t:Ad}
local macro_rules | `(tactic| walk_at "r") => `(tactic| simp only [uRet, uRetN, uOp, uI, uI0, uIx, uVar, uC, uSeq, uAsg, vName, uIfS, uNext, uDrop, uTest, uChain, uAnd, uOr, uNot, uAndV, uOrV, uNotV, uIf, uUn, uNil, uCons, uTup, uLst, uCB, uLen, uAbs, uInt, uList, uTuple, uSlice, uNoPart, uPart,
 uCall,uComp,uYes,uChain3,uFld,w_fl,uStFld,w_sf,uMeth,w_ii,uMake,w_al,w_ls,w_sp,uLenSet,w_rv,w_cl,w_in,uCat,w_ca,w_si,uSortSet,w_ss,w_et,uDown,w_d3,uShr,uBand,uDisp1,w_di,uNotInD,w_nd,uPutD,w_pd,w_sd,uTupR,w_tR,uLsR,w_lR,w_ul,uRvT,w_rT,uSliceT,w_sT,uCatT,w_cT,uShl,w_an,uLenSetI,w_li,uEn,w_en,uRvR,w_rR,w_ixt,uSum,w_su,uEqP,w_ep,w_wT,w_wR,uLenSetJ,w_lj,uRaise,xCall,xSet,xDrop,xSeq,xIf,xMeth,uTry,uClear,uFor,uSeqI,uEqG,uInG,BT.sub,BT.nm,w_bm,w_il,uBM0,ends,uBreak,uCont,start',flat,deq,deqs,w_V,w_B,w_I,w_O,w_St,w_Sf,w_Sr,w_Dr,w_Dn,w_Db,w_Di,w_Ds,w_Dt,w_Df,w_Tn,w_Tb,w_Ti,w_Ts,w_Tt,w_Tf,w_Tr,w_Ni,w_Nb,w_Lf,w_Lr,w_Lt,w_Xt,w_Xf,w_Xr,w_1,w_isi,w_n0,w_n1,w_n2,w_n3,w_n4,w_vt,w_vc,w_vn,w_r1,w_r1',w_r2,w_r2',w_ap,w_ex,w_po,cif_t,cif_f,
 List.map_cons,List.map_nil,List.length_cons,List.length_nil,Nat.reduceAdd,Nat.reduceSub,Nat.add_sub_cancel,Nat.sub_self,Nat.zero_add,List.replicate_succ,List.replicate_zero,List.cons_append,List.nil_append,List.append_nil,List.getElem?_cons_zero,List.getElem?_cons_succ,List.set_cons_zero,List.set_cons_succ,
 atI2_0,atI2_1,List.all_cons,List.all_nil,Bool.and_self,Bool.and_true,Bool.true_and,Bool.not_true,Bool.not_false,true_and,and_true,put_same,Option.some.injEq,PO.lst.injEq,exists_eq_left',Int.zero_add ,e_ispair,e_arepairs,e_init,e_needname,e_sources,e_cell,e_needset,e_anc,e_bowed,e_lumpof,e_lumps,e_part,e_upto,e_without,e_needsets,e_needapart,e_needq,e_wantn,e_mix,e_question,e_drawing,e_upper,e_llumps,e_lwanted,e_wanted,e_isset,e_needsetX,e_needsetsX,e_needapartX,e_needqX,e_wantnX,e_wantedX,e_class,e_isnames,e_spoilt,e_due])
local macro_rules | `(tactic| walk_at "o") => `(tactic| first | exact Or.inl rfl | exact Or.inr rfl)
theorem G_zG(T:Tx K mg t):FnOk' P w K mg base CX0 1 t.a_zG t.d_zG ["count","pair"] sp_ispair:=by
 refine okU (k:=0) T.F_zG sc_zG (fun vs H Q E h=>by
  unfold sp_ispair at h
  split at h
  ·rfl
  ·exact h.elim) (fun cdv A outer s H E B hr=>⟨_,(qss_one (qs_ret (qe_and (qe_cmp (op_eqU hr.units) vr_eq (qe_callB call_len_seq vc_len rfl T.b_len PySem.boot_len (qa_cons (qv 1) qa_nil)) qe_int (nomark _)) (qe_one (qe_chain3 op_le vr_le op_lt vr_lt op_lt vr_lt qe_int (qe_ix (qv 1) qe_int (fun _ _=>rfl)) (qe_ix (qv 1) qe_int (fun _ _=>rfl)) (qv 0)))))),?_⟩)
 intro vs H Q E h
 unfold sp_ispair at h
 split at h
 ·rename_i c u v
  obtain⟨⟨h1,h2,h3⟩,h⟩:=h
  walk_at "r"
  exact cif_pos rfl (cif_pos (by simpa using h1) (cif_pos (by simpa using h2) ⟨H,Sub.refl _,by rw[decide_eq_true h3];exact h⟩))
 ·exact h.elim
theorem G_zz(T:Tx K mg t):FnOk' P w K mg base CX0 2 t.a_zz t.d_zz ["count","pairs"] sp_arepairs:=by
 refine okU (k:=1) T.F_zz sc_zz (fun vs H Q E h=>by
  unfold sp_arepairs at h
  split at h
  ·rfl
  ·exact h.elim) (fun cdv A outer s H E B hr=>⟨_,(qss_one (qs_ret (qe_and (qe_callB (call_all rfl) vc_all rfl T.b_all boot_all (qa_cons (qe_comp (N2:=["pair","count"]) (nt:=1) (js:=[0]) (ck (sc:=defScope s_zz)) rfl (qi_seq (qv 1)) (fun s0 H0 fp ps=>⟨(qg_name (i:=0) (show List.Nodup (["pair","count"]:List Str) by decide +kernel) rfl (by walk_at "o")),qif_nil,(qe_call (G_zG T) (hr.mono (by decide)) rfl T.g_zG T.F_zG.kp T.B_zG (qa_cons (qv 1) (qa_cons (qv 0) qa_nil)))⟩)) qa_nil)) (qe_one (qe_cmp (op_eqU hr.units) vr_eq (qe_len_set rfl hr.units rfl T.b_len rfl T.b_set boot_set (qv 1)) (qe_callB call_len_seq vc_len rfl T.b_len PySem.boot_len (qa_cons (qv 1) qa_nil)) (nomark _)))))),?_⟩)
 intro vs H Q E h
 unfold sp_arepairs at h
 split at h
 ·rename_i c a
  obtain⟨ps,ha,gd,hc,h⟩:=h
  have h15:=gd.len hc
  walk_at "r"
  refine⟨_,ha,fun acc hacc=>?_⟩
  have hna:=ne_none ha hacc
  refine comp_pure (fun _=>.bl true) (fun _=>true) (fun σ=>∃x,σ=[x,some (.int c)]) (by rw[List.length_map];omega) (fun l=>(put_ne hna).trans ha) ?step ?fin ⟨_,rfl⟩
  case step =>
   rintro y hy l σ R ⟨x,rfl⟩ hl kT kF
   obtain⟨p,hp,rfl⟩:=List.mem_map.mp hy
   have b:=gd.lo p hp
   unfold prV
   walk_at "r"
   exact⟨b,hl,by rw[put_put];exact kT rfl _ ⟨_,rfl⟩⟩
  case fin =>
   walk_at "r"
   refine⟨ps.map fun _=>true,by rw[List.filter_eq_self.mpr (fun _ _=>rfl),List.map_map,List.map_map];rfl,cif_pos (by simp) ⟨ps,(put_ne hna).trans ha,gd.nd,gd.prs hc,h15,_,(put_ne hna).trans ha,H,Sub.put (Sub.refl _) hacc,?_⟩⟩
   rw[List.length_map,beq_self_eq_true]
   exact h
 ·exact h.elim
theorem G_zm(T:Tx K mg t):FnOk' P w K mg base CX0 3 t.a_zm t.d_zm ["self","count","ties","bows"] (sp_init t):=by
 refine okU (k:=2) T.F_zm sc_zm (fun vs H Q E h=>by
  unfold sp_init at h
  split at h
  ·rfl
  ·exact h.elim) (fun cdv A outer s H E B hr=>⟨_,(qss_cons (qs_if (qt_bool (qw_or (qt_cmp op_lt vr_lt (qv 1) qe_int (nomark _)) (qw_or1 (qt_cmp op_gt vr_gt (qv 1) (qe_globE (v':=.int 6) rfl T.c_MOST_NAMES (fun _=>by simp[RP])) (nomark _)))))
  qss_never
  qss_nil)
  (qss_cons (qs_setC (i:=4) sc_zm.nd rfl (by walk_at "o") (N2:=["tie"]) (nt:=1) (js:=[]) (ck (sc:=defScope s_zm)) rfl (qi_seq (qv 2)) (fun s0 H0 fp ps=>⟨(qg_name (i:=0) (show List.Nodup (["tie"]:List Str) by decide +kernel) rfl (by walk_at "o")),qif_nil,(qe_callTy call_tuple_of vc_tuple rfl T.b_tuple boot_tuple (qa_cons (qv 0) qa_nil))⟩))
  (qss_cons (qs_if (qt_not (qt_val (qe_call (G_zz T) (hr.mono (by decide)) rfl T.g_zz T.F_zz.kp T.B_zz (qa_cons (qv 1) (qa_cons (qv 4) qa_nil)))))
  qss_never
  qss_nil)
  (qss_cons (qs_setC (i:=5) sc_zm.nd rfl (by walk_at "o") (N2:=["bow"]) (nt:=1) (js:=[]) (ck (sc:=defScope s_zm)) rfl (qi_seq (qv 3)) (fun s0 H0 fp ps=>⟨(qg_name (i:=0) (show List.Nodup (["bow"]:List Str) by decide +kernel) rfl (by walk_at "o")),qif_nil,(qe_callTy call_tuple_of vc_tuple rfl T.b_tuple boot_tuple (qa_cons (qv 0) qa_nil))⟩))
  (qss_cons (qs_if (qt_not (qt_val (qe_call (G_zz T) (hr.mono (by decide)) rfl T.g_zz T.F_zz.kp T.B_zz (qa_cons (qv 1) (qa_cons (qv 5) qa_nil)))))
  qss_never
  qss_nil)
  (qss_cons (qs_if (qt_cmp op_gt vr_gt (qe_callB call_len_seq vc_len rfl T.b_len PySem.boot_len (qa_cons (qv 5) qa_nil)) (qe_globE (v':=.int 6) rfl T.c_MOST_BOWS (fun _=>by simp[RP])) (nomark _))
  qss_never
  qss_nil)
  (qss_cons (qs_fld (qv 0) (qv 1) T.cl_Drawing T.nf_Drawing_count rfl)
  (qss_cons (qs_fld (qv 0) (qe_callTy call_tuple_of vc_tuple rfl T.b_tuple boot_tuple (qa_cons (qe_callB call_sortP vc_sortP rfl T.b_sorted boot_sorted (qa_cons (qv 4) qa_nil)) qa_nil)) T.cl_Drawing T.nf_Drawing_ties rfl)
  (qss_one (qs_fld (qv 0) (qe_callTy call_tuple_of vc_tuple rfl T.b_tuple boot_tuple (qa_cons (qe_callB call_sortP vc_sortP rfl T.b_sorted boot_sorted (qa_cons (qv 5) qa_nil)) qa_nil)) T.cl_Drawing T.nf_Drawing_bows rfl)))))))))),?_⟩)
 intro vs H Q E h
 unfold sp_init at h
 split at h
 ·rename_i x c a b
  obtain⟨dx,ys,zs,ps,qs,hx,ha,hb,ry,rz,gp,gq,⟨c1,c6,q6⟩,h⟩:=h
  have hp15:=gp.len c6
  have hq15:=gq.len c6
  refine seq_abs fun R hR=>?_
  walk_at "r"
  refine cif_neg (by simp;omega) (cif_neg (by simp;omega) ?_)
  subst hR
  refine seq_abs fun R hR=>?_
  walk_at "r"
  refine⟨_,ha,fun p1 hp1=>?_⟩
  refine comp_pure (rowT H) (fun _=>true) (fun σ=>∃z,σ=[z]) (by rw[ry.length];omega) (fun l=>(put_ne (ne_none ha hp1)).trans ha) ?_ ?_ ⟨_,rfl⟩
  ·rintro y hy l σ R' ⟨z,rfl⟩ hl kT kF
   obtain⟨p,hp,row⟩:=pd_mem ry hy
   rcases row with rfl |⟨r,rfl,hr⟩
   ·unfold prV
    walk_at "r"
    exact⟨hl,by rw[put_put];exact kT rfl _ ⟨_,rfl⟩⟩
   ·rw[rowT_ref hr]at kT
    walk_at "r"
    exact⟨_,(put_ne (ne_none hr hp1)).trans hr,hl,by rw[put_put];exact kT rfl _ ⟨_,rfl⟩⟩
  rw[List.filter_eq_self.mpr (fun _ _=>rfl),rows_map ry]
  subst hR
  have sb1:U.Sub H (put H p1 (.lst (ps.map prV))):=Sub.put (Sub.refl _) hp1
  refine seq_abs fun R hR=>?_
  walk_at "r"
  refine⟨ps,rfl,gp,c6,?_⟩
  try walk_at "r"
  subst hR
  have hp1s:put H p1 (.lst (ps.map prV)) p1=some (.lst (ps.map prV)):=put_same
  have hx1:=sb1 _ _ hx
  have hb1:=sb1 _ _ hb
  have rz1:=rz.up sb1
  generalize put H p1 (.lst (ps.map prV))=H1 at *
  refine seq_abs fun R hR=>?_
  walk_at "r"
  refine⟨_,hb1,fun p2 hp2=>?_⟩
  refine comp_pure (rowT H1) (fun _=>true) (fun σ=>∃z,σ=[z]) (by rw[rz1.length];omega) (fun l=>(put_ne (ne_none hb1 hp2)).trans hb1) ?_ ?_ ⟨_,rfl⟩
  ·rintro y hy l σ R' ⟨z,rfl⟩ hl kT kF
   obtain⟨p,hp,row⟩:=pd_mem rz1 hy
   rcases row with rfl |⟨r,rfl,hr⟩
   ·unfold prV
    walk_at "r"
    exact⟨hl,by rw[put_put];exact kT rfl _ ⟨_,rfl⟩⟩
   ·rw[rowT_ref hr]at kT
    walk_at "r"
    exact⟨_,(put_ne (ne_none hr hp2)).trans hr,hl,by rw[put_put];exact kT rfl _ ⟨_,rfl⟩⟩
  rw[List.filter_eq_self.mpr (fun _ _=>rfl),rows_map rz1]
  subst hR
  have sb2:U.Sub H1 (put H1 p2 (.lst (qs.map prV))):=Sub.put (Sub.refl _) hp2
  have hp1t:=sb2 _ _ hp1s
  have hx2:=sb2 _ _ hx1
  have hp2s:put H1 p2 (.lst (qs.map prV)) p2=some (.lst (qs.map prV)):=put_same
  refine seq_abs fun R hR=>?_
  walk_at "r"
  refine⟨qs,rfl,gq,c6,?_⟩
  try walk_at "r"
  subst hR
  have sb3:=sb1.trans sb2
  generalize put H1 p2 (.lst (qs.map prV))=H2 at *
  refine seq_abs fun R hR=>?_
  walk_at "r"
  refine⟨_,hp2s,cif_neg (by rw[List.length_map];simp;omega) ?_⟩
  subst hR
  refine seq_abs fun R hR=>?_
  walk_at "r"
  refine⟨_,_,hx2,by simp,?_⟩
  subst hR
  have n1:p1≠x:=fun e=>by subst e;rw[hx2]at hp1t;cases hp1t
  have n2:p2≠x:=fun e=>by subst e;rw[hx2]at hp2s;cases hp2s
  refine seq_abs fun R hR=>?_
  walk_at "r"
  refine⟨ps,(put_ne n1).trans hp1t,gp.nd,fun p hp=>?_,by omega,fun r1 ts hr1 pt st=>?_⟩
  ·have:=gp.lo p hp;omega
  try walk_at "r"
  have nx1:x≠r1:=fun e=>by subst e;rw[put_same]at hr1;cases hr1
  refine⟨_,_,(put_ne nx1).trans put_same,Nat.lt_of_le_of_lt putU_len (by decide),?_⟩
  subst hR
  have n3:p2≠r1:=fun e=>by subst e;rw[put_ne n2,hp2s]at hr1;cases hr1
  walk_at "r"
  refine⟨qs,(put_ne n2).trans ((put_ne n3).trans ((put_ne n2).trans hp2s)),gq.nd,fun p hp=>?_,by omega,fun r2 bs hr2 pb sb=>?_⟩
  ·have:=gq.lo p hp;omega
  try walk_at "r"
  have nx2:x≠r2:=fun e=>by subst e;rw[put_same]at hr2;cases hr2
  have ul:=fun f v fs=>@putU_len f v fs
  refine⟨_,_,(put_ne nx2).trans put_same,?_,put H x (.ins t.a_Drawing dx (DF c ts bs)),sub_putx ?_ put_same,h ts bs pt st pb sb⟩
  ·have l1:=ul "ties" (.tup (ts.map prV)) (putU "count" (.int c) [])
   have l2:=ul "count" (.int c) []
   simp only[List.length_nil]at l2
   omega
  ·intro z o hzx hz
   have hz2:=sb3 _ _ hz
   have z1:z≠r1:=fun e=>by subst e;rw[put_ne hzx,hz2]at hr1;cases hr1
   have z2:z≠r2:=fun e=>by subst e;rw[put_ne hzx,put_ne z1,put_ne hzx,hz2]at hr2;cases hr2
   rw[put_ne hzx,put_ne z2,put_ne hzx,put_ne z1,put_ne hzx]
   exact hz2
 ·exact h.elim
theorem G_zb(T:Tx K mg t):FnOk' P w K mg base CX0 1 t.a_zb t.d_zb ["self","name"] (sp_needname t):=by
 refine okU (k:=0) T.F_zb sc_zb (fun vs H Q E h=>by
  unfold sp_needname at h
  split at h
  ·rfl
  ·exact h.elim) (fun cdv A outer s H E B hr=>⟨_,(qss_one (qs_if (qt_bool (qw_or (qt_cmp op_lt vr_lt (qv 1) qe_int (nomark _)) (qw_or1 (qt_cmp op_ge vr_ge (qv 1) (qe_fld (qv 0) T.cl_Drawing T.nf_Drawing_count rfl) (nomark _)))))
  qss_never
  qss_nil)),?_⟩)
 intro vs H Q E h
 unfold sp_needname at h
 split at h
 ·rename_i x n
  obtain⟨dx,c,ts,bs,hx,⟨h0,h1⟩,h⟩:=h
  walk_at "r"
  exact cif_neg (by simpa using h0) ⟨_,_,_,hx,rfl,cif_neg (by simpa using h1) ⟨H,Sub.refl _,h⟩⟩
 ·exact h.elim
theorem G_ze(T:Tx K mg t):FnOk' P w K mg base CX0 2 t.a_ze t.d_ze ["self","name"] (sp_sources t):=by
 refine okU (k:=1) T.F_ze sc_ze (fun vs H Q E h=>by
  unfold sp_sources at h
  split at h
  ·rfl
  ·exact h.elim) (fun cdv A outer s H E B hr=>⟨_,(qss_cons (qs_expr (qe_meth (qv 0) T.cl_Drawing T.m_zb (G_zb T) (hr.mono (by decide)) T.B_zb (qa_cons (qv 1) qa_nil)))
  (qss_one (qs_ret (qe_callTy call_tuple_of vc_tuple rfl T.b_tuple boot_tuple (qa_cons (qe_comp (N2:=["tie","name"]) (nt:=1) (js:=[1]) (ck (sc:=defScope s_ze)) rfl (qi_seq (qe_fld (qv 0) T.cl_Drawing T.nf_Drawing_ties rfl)) (fun s0 H0 fp ps=>⟨(qg_name (i:=0) (show List.Nodup (["tie","name"]:List Str) by decide +kernel) rfl (by walk_at "o")),(qif_one (qt_cmp (op_eqU hr.units) vr_eq (qe_ix (qv 0) qe_int (fun _ _=>rfl)) (qv 1) (nomark _))),(qe_ix (qv 0) qe_int (fun _ _=>rfl))⟩)) qa_nil))))),?_⟩)
 intro vs H Q E h
 unfold sp_sources at h
 split at h
 ·rename_i x n
  obtain⟨dx,c,ts,bs,hx,⟨h0,h1⟩,h15,h⟩:=h
  walk_at "r"
  refine⟨⟨_,_,hx,rfl⟩,_,_,_,_,hx,⟨h0,h1⟩,_,_,_,hx,rfl,?_⟩
  show ∀acc,H acc=none->_
  intro acc hacc
  refine comp_pure g0 (at1 n) (fun σ=>∃z,σ=[z,some (.int n)]) (by rw[List.length_map];omega) (fun _=>trivial) ?step ?fin ⟨_,rfl⟩
  case step =>
   rintro y hy l σ R ⟨z,rfl⟩ hl kT kF
   obtain⟨p,hp,rfl⟩:=List.mem_map.mp hy
   have e:at1 n (prV p)=decide (p.2=n):=rfl
   rw[e]at kT kF
   unfold prV at *
   walk_at "r"
   refine cif_by (fun q=>?_) (fun q=>?_)
   ·exact⟨hl,by rw[put_put];exact kT (by simpa using q) _ ⟨_,rfl⟩⟩
   ·exact kF (by simpa using q) _ ⟨_,rfl⟩
  case fin =>
   refine⟨_,put_same,H,Sub.put (Sub.refl _) hacc,?_⟩
   rw[src_list]
   exact h
 ·exact h.elim
theorem G_zq(T:Tx K mg t):FnOk' P w K mg base CX0 1 t.a_zq t.d_zq ["_law_script","_law_k"] sp_cell:=by
 refine okU (k:=0) T.F_zq sc_zq (fun vs H Q E h=>by
  unfold sp_cell at h
  split at h
  ·rfl
  ·exact h.elim) (fun cdv A outer s H E B hr=>⟨_,(qss_cons (qs_if (qt_cmp op_lt vr_lt (qv 1) (qe_callB call_len_seq vc_len rfl T.b_len PySem.boot_len (qa_cons (qv 0) qa_nil)) (nomark _))
  (qss_one (qs_ret (qe_ix (qv 0) (qv 1) (fun _ _=>rfl))))
  qss_nil)
  (qss_one (qs_ret qe_int))),?_⟩)
 intro vs H Q E h
 unfold sp_cell at h
 split at h
 ·rename_i l k
  obtain⟨⟨h0,h1⟩,ns,rfl,h⟩:=h
  walk_at "r"
  by_cases hk:k<ns.length
  ·refine cif_pos (by rw[List.length_map];simpa using hk) ?_
   rw[atI_int h0 hk]
   exact⟨H,Sub.refl _,h⟩
  ·refine cif_neg (by rw[List.length_map];simpa using hk) ⟨H,Sub.refl _,?_⟩
   rw[List.getD_eq_getElem?_getD,List.getElem?_eq_none (by omega)]at h
   exact h
 ·exact h.elim
theorem G_zI(T:Tx K mg t):FnOk' P w K mg base CX0 1 t.a_zI t.d_zI ["count","names"] sp_isset:=by
 refine okU (k:=0) T.F_zI sc_zI (fun vs H Q E h=>by
  unfold sp_isset at h
  split at h
  ·rfl
  ·exact h.elim) (fun cdv A outer s H E B hr=>⟨_,(qss_cons (qs_set (i:=2) sc_zI.nd rfl (by walk_at "o") (qe_neg qe_int))
  (qss_cons (qs_for PassesOwn.never rfl (qi_seq (qv 1)) (qg_name (i:=3) sc_zI.nd rfl (by walk_at "o"))
  (qss_cons (qs_if (qt_bool (qw_or (qt_cmp op_le vr_le (qv 3) (qv 2) (nomark _)) (qw_or1 (qt_cmp op_ge vr_ge (qv 3) (qv 0) (nomark _)))))
   (qss_one (qs_ret qe_bl))
   qss_nil)
   (qss_one (qs_set (i:=2) sc_zI.nd rfl (by walk_at "o") (qv 3)))))
  (qss_one (qs_ret qe_bl)))),?_⟩)
 intro vs H Q E h
 unfold sp_isset at h
 split at h
 ·rename_i c l
  obtain⟨L,rfl,hY,hN⟩:=h
  walk_at "r"
  refine for_at (fun i σ H2=>∃z k,σ=[some (.int c),some (.tup (L.map PV.int)),some (.int z),k]/\H2=H/\Nms c (L.take i)/\(∀x∈L.take i,x≤z)/\(z=-1∨z∈L.take i)/\-1≤z) ?_ ?_ ⟨-1,none,rfl,rfl,⟨List.Pairwise.nil,by simp⟩,by simp,.inl rfl,by decide⟩
  ·rintro σ H2 ⟨z,k,rfl,rfl,hn,_,_⟩
   rw[List.length_map,List.take_length]at hn
   exact⟨trivial,H2,Sub.refl _,hY hn⟩
  ·rintro G i y σ H2 hy ⟨z,k,rfl,rfl,hn,hz,hm,z1⟩ kk
   refine⟨trivial,?_⟩
   obtain⟨hi,e⟩:=List.getElem?_eq_some_iff.mp hy
   rw[List.length_map]at hi
   rw[List.getElem_map]at e
   subst e
   have tk:L.take (i+1)=L.take i++[L[i]]:=by rw[List.take_add_one,List.getElem?_eq_getElem hi];rfl
   have stop:(L[i]≤z∨c≤L[i])->¬Nms c L:=fun h n=>by
    have lo:=n.lo _ (List.getElem_mem hi)
    have hzl:z<L[i]:=by
     rcases hm with rfl | hm
     ·omega
     ·obtain⟨j,hj,e⟩:=List.mem_iff_getElem.mp hm
      rw[List.getElem_take]at e
      rw[List.length_take]at hj
      rw[←e]
      exact List.pairwise_iff_getElem.mp n.up j i (by omega) hi (by omega)
    omega
   generalize L[i]=y at *
   walk_at "r"
   by_cases h1:y≤z
   ·exact cif_pos (by simp;omega) ⟨H2,Sub.refl _,hN (stop (.inl h1))⟩
   ·refine cif_neg (by simp;omega) ?_
    by_cases h2:c≤y
    ·exact cif_pos (by simp;omega) ⟨H2,Sub.refl _,hN (stop (.inr h2))⟩
    ·refine cif_neg (by simp;omega) (kk _ _ ⟨_,_,rfl,rfl,?_,?_,?_,by omega⟩)
     ·rw[tk]
      refine⟨List.pairwise_append.mpr ⟨hn.up,List.pairwise_singleton _ _,fun a ha b hb=>?_⟩,fun x hx=>?_⟩
      ·rw[List.mem_singleton]at hb
       have:=hz a ha
       omega
      ·rcases List.mem_append.mp hx with hx | hx
       ·exact hn.lo x hx
       ·rw[List.mem_singleton]at hx;omega
     ·intro x hx
      rw[tk]at hx
      rcases List.mem_append.mp hx with hx | hx
      ·have:=hz x hx;omega
      ·rw[List.mem_singleton]at hx;omega
     ·rw[tk];exact .inr (List.mem_append_right _ (List.mem_singleton.mpr rfl))
 ·exact h.elim
theorem G_zc(T:Tx K mg t):FnOk' P w K mg base CX0 2 t.a_zc t.d_zc ["self","names"] (sp_needset t):=by
 refine okU (k:=1) T.F_zc sc_zc (fun vs H Q E h=>by
  unfold sp_needset at h
  split at h
  ·rfl
  ·exact h.elim) (fun cdv A outer s H E B hr=>⟨_,(qss_one (qs_if (qt_not (qt_val (qe_call (G_zI T) (hr.mono (by decide)) rfl T.g_zI T.F_zI.kp T.B_zI (qa_cons (qe_fld (qv 0) T.cl_Drawing T.nf_Drawing_count rfl) (qa_cons (qv 1) qa_nil)))))
  qss_never
  qss_nil)),?_⟩)
 intro vs H Q E h
 unfold sp_needset at h
 split at h
 ·rename_i x l
  obtain⟨c,ts,L,⟨dx,bs,hx⟩,rfl,hL,h⟩:=h
  walk_at "r"
  exact⟨_,_,_,hx,rfl,L,rfl,fun _=>⟨H,Sub.refl _,h⟩,fun n=>absurd hL n⟩
 ·exact h.elim
theorem G_za(T:Tx K mg t):FnOk' P w K mg base CX0 3 t.a_za t.d_za ["self","names"] (sp_anc t swp):=by
 refine okU (k:=2) T.F_za sc_za (fun vs H Q E h=>by
  unfold sp_anc at h
  split at h
  ·rfl
  ·exact h.elim) (fun cdv A outer s H E B hr=>⟨_,(qss_cons (qs_expr (qe_meth (qv 0) T.cl_Drawing T.m_zc (G_zc T) (hr.mono (by decide)) T.B_zc (qa_cons (qv 1) qa_nil)))
  (qss_cons (qs_set (i:=2) sc_za.nd rfl (by walk_at "o") (qe_callTy call_list_of vc_list rfl T.b_list boot_list (qa_cons (qv 1) qa_nil)))
  (qss_cons (qs_for PassesOwn.never rfl (qi_range3 rfl T.b_range (qa_cons (qe_sub (qe_fld (qv 0) T.cl_Drawing T.nf_Drawing_count rfl) qe_int) (qa_cons (qe_neg qe_int) (qa_cons (qe_neg qe_int) qa_nil)))) (qg_name (i:=3) sc_za.nd rfl (by walk_at "o"))
  (qss_one (qs_if (qt_cmp (op_inU hr.units) vr_in (qv 3) (qv 2) (by with_unfolding_all rfl))
   (qss_one (qs_expr (qe_bm PySem.F.slot_list_extend PySem.F.type_list_extend mt_extendT vm_extT (qv 2) (qa_cons (qe_meth (qv 0) T.cl_Drawing T.m_ze (G_ze T) (hr.mono (by decide)) T.B_ze (qa_cons (qv 3) qa_nil)) qa_nil))))
   qss_nil)))
  (qss_one (qs_ret (qe_callTy call_tuple_of vc_tuple rfl T.b_tuple boot_tuple (qa_cons (qe_sorted_set rfl hr.units rfl T.b_sorted rfl T.b_set boot_set (qv 2)) qa_nil))))))),?_⟩)
 intro vs H Q E h
 unfold sp_anc at h
 split at h
 ·rename_i x l
  obtain⟨c,ts,L,⟨dx,bs,hx⟩,rfl,hL,hc,gt,h⟩:=h
  have t15:=gt.len hc.2
  have l6:=hL.len hc.2
  walk_at "r"
  refine⟨⟨_,_,hx,rfl⟩,c,ts,L,⟨_,_,hx⟩,rfl,hL,fun p hp=>?_⟩
  have nxp:=ne_none hx hp
  refine⟨_,_,_,(put_ne nxp).trans hx,rfl,?_⟩
  show -1≤c - 1/\c - 1<1000/\_
  refine⟨by omega,by omega,?_⟩
  have ei:dwnL (c - 1) (c - 1+1).toNat=(dlN c).map PV.int:=by
   unfold dwnL dlN
   rw[List.map_map,show c - 1+1=c by omega]
   rfl
  rw[ei]
  refine for_at (fun i σ H2=>∃k F,σ=[some (.ref x),some (.tup (L.map PV.int)),some (.ref p),k]/\H2=put H p (.lst (F.map PV.int))/\F=((dlN c).take i).foldl (My.pStep (ts.map swp)) L/\F.length≤6+15*i) ?_ ?_ ⟨none,L,rfl,rfl,rfl,by omega⟩
  ·rintro σ H2 ⟨k,F,rfl,rfl,hF,hlen⟩
   rw[List.length_map,List.take_length]at hF
   refine⟨trivial,?_⟩
   walk_at "r"
   have iff:∀y,y∈F↔My.Reach (ts.map swp) L y:=fun y=>by rw[hF];exact down_iff gt y
   have lo:∀y∈F,0≤y/\y<c:=fun y hy=>reach_lo (fun a b e=>good_dir gt true a b e) hL.lo ((iff y).mp hy)
   refine⟨F.map Int.toNat,by rw[nats_of fun y hy=>(by have:=lo y hy;omega)],fun n hn=>?_,fun r ms hr hs hm=>?_⟩
   ·obtain⟨z,hz,rfl⟩:=List.mem_map.mp hn
    have:=lo z hz;omega
   ·obtain⟨q1,q2⟩:=from_nats hc.2 lo iff hs hm
    try walk_at "r"
    refine⟨H,((Sub.refl H).put hp).put (((Sub.refl H).put hp).free hr),?_⟩
    have:=h _ q1 q2
    rw[List.map_map]at this
    exact this
  ·rintro G i y σ H2 hy ⟨k,F,rfl,rfl,hF,hlen⟩ kk
   refine⟨trivial,?_⟩
   rw[List.getElem?_map]at hy
   cases hn:(dlN c)[i]? with
   | none=>rw[hn]at hy;cases hy
   | some n =>
    rw[hn]at hy
    cases hy
    have hnm:=mem_dlN.mp (List.mem_of_getElem? hn)
    have hil:i<(dlN c).length:=(List.getElem?_eq_some_iff.mp hn).1
    have hi6:i<6:=by unfold dlN at hil;rw[List.length_map,List.length_range]at hil;omega
    have hnx:((dlN c).take (i+1)).foldl (My.pStep (ts.map swp)) L=My.pStep (ts.map swp) F n:=by rw[take_fold hn,← hF]
    have hpl:=pStep_len (E:=ts.map swp) (f:=F) (n:=n)
    rw[List.length_map]at hpl
    walk_at "r"
    refine⟨flat_ints,?_⟩
    rw[any_int]
    refine cif_dec (fun hm=>?_) (fun hm=>?_)
    ·have e:My.pStep (ts.map swp) F n=F++(ts.filter (fun p=>decide (p.2=n))).map (·.1):=by
      unfold My.pStep;rw[if_pos hm,outs_swp]
     rw[e]at hnx hpl
     refine⟨⟨_,rfl⟩,⟨_,_,(put_ne nxp).trans hx,rfl⟩,_,_,_,_,(put_ne nxp).trans hx,hnm,t15,?_⟩
     try walk_at "r"
     rw[List.length_append]at hpl
     refine⟨small_size (by rw[List.length_map,List.length_map];omega),kk _ _ ⟨_,F++(ts.filter (fun p=>decide (p.2=n))).map (·.1),rfl,?_,hnx.symm,?_⟩⟩
     ·rw[put_put,List.map_append]
     ·rw[List.length_append];omega
    ·have e:My.pStep (ts.map swp) F n=F:=by
      unfold My.pStep;rw[if_neg hm]
     rw[e]at hnx
     exact kk _ _ ⟨_,F,rfl,rfl,hnx.symm,by omega⟩
 ·exact h.elim
theorem G_zj(T:Tx K mg t):FnOk' P w K mg base CX0 2 t.a_zj t.d_zj ["self","name"] (sp_bowed t):=by
 refine okU (k:=1) T.F_zj sc_zj (fun vs H Q E h=>by
  unfold sp_bowed at h
  split at h
  ·rfl
  ·exact h.elim) (fun cdv A outer s H E B hr=>⟨_,(qss_cons (qs_expr (qe_meth (qv 0) T.cl_Drawing T.m_zb (G_zb T) (hr.mono (by decide)) T.B_zb (qa_cons (qv 1) qa_nil)))
  (qss_cons (qs_setC (i:=2) sc_zj.nd rfl (by walk_at "o") (N2:=["bow","name"]) (nt:=1) (js:=[1]) (ck (sc:=defScope s_zj)) rfl (qi_seq (qe_fld (qv 0) T.cl_Drawing T.nf_Drawing_bows rfl)) (fun s0 H0 fp ps=>⟨(qg_name (i:=0) (show List.Nodup (["bow","name"]:List Str) by decide +kernel) rfl (by walk_at "o")),(qif_one (qt_cmp (op_eqU hr.units) vr_eq (qe_ix (qv 0) qe_int (fun _ _=>rfl)) (qv 1) (nomark _))),(qe_ix (qv 0) qe_int (fun _ _=>rfl))⟩))
  (qss_cons (qs_setC (i:=3) sc_zj.nd rfl (by walk_at "o") (N2:=["bow","name"]) (nt:=1) (js:=[1]) (ck (sc:=defScope s_zj)) rfl (qi_seq (qe_fld (qv 0) T.cl_Drawing T.nf_Drawing_bows rfl)) (fun s0 H0 fp ps=>⟨(qg_name (i:=0) (show List.Nodup (["bow","name"]:List Str) by decide +kernel) rfl (by walk_at "o")),(qif_one (qt_cmp (op_eqU hr.units) vr_eq (qe_ix (qv 0) qe_int (fun _ _=>rfl)) (qv 1) (nomark _))),(qe_ix (qv 0) qe_int (fun _ _=>rfl))⟩))
  (qss_one (qs_ret (qe_callTy call_tuple_of vc_tuple rfl T.b_tuple boot_tuple (qa_cons (qe_cat (qv 2) (qv 3)) qa_nil))))))),?_⟩)
 intro vs H Q E h
 unfold sp_bowed at h
 split at h
 ·rename_i x n
  obtain⟨dx,c,ts,bs,hx,⟨h0,h1⟩,h15,h⟩:=h
  have lf:∀(q:DM.P2->Bool) (g:DM.P2->Int),(((bs.filter q).map g).map PV.int).length≤15:=fun q g=>by
   rw[List.length_map,List.length_map];exact Nat.le_trans (List.length_filter_le _ _) h15
  walk_at "r"
  refine⟨⟨_,_,hx,rfl⟩,_,_,_,_,hx,⟨h0,h1⟩,_,_,_,hx,rfl,?_⟩
  show ∀acc,H acc=none->_
  intro p1 hp1
  refine comp_pure g0 (at1 n) (fun σ=>∃z,σ=[z,some (.int n)]) (by rw[List.length_map];omega) (fun _=>trivial) ?_ ?_ ⟨_,rfl⟩
  ·rintro y hy l σ R ⟨z,rfl⟩ hl kT kF
   obtain⟨p,hp,rfl⟩:=List.mem_map.mp hy
   have e:at1 n (prV p)=decide (p.2=n):=rfl
   rw[e]at kT kF
   unfold prV at *
   walk_at "r"
   refine cif_by (fun q=>?_) (fun q=>?_)
   ·exact⟨hl,by rw[put_put];exact kT (by simpa using q) _ ⟨_,rfl⟩⟩
   ·exact kF (by simpa using q) _ ⟨_,rfl⟩
  rw[src_list]
  refine⟨_,_,_,(put_ne (ne_none hx hp1)).trans hx,rfl,?_⟩
  show ∀acc,put H p1 _ acc=none->_
  intro p2 hp2
  have n12:p1≠p2:=fun e=>by subst e;rw[put_same]at hp2;cases hp2
  have sa:=(Sub.refl H).put (o:=.lst (((bs.filter (fun p=>decide (p.2=n))).map (·.1)).map PV.int)) hp1
  refine comp_pure g1 (at0 n) (fun σ=>∃z,σ=[z,some (.int n)]) (by rw[List.length_map];omega) (fun _=>trivial) ?_ ?_ ⟨_,rfl⟩
  ·rintro y hy l σ R ⟨z,rfl⟩ hl kT kF
   obtain⟨p,hp,rfl⟩:=List.mem_map.mp hy
   have e:at0 n (prV p)=decide (p.1=n):=rfl
   rw[e]at kT kF
   unfold prV at *
   walk_at "r"
   refine cif_by (fun q=>?_) (fun q=>?_)
   ·exact⟨hl,by rw[put_put];exact kT (by simpa using q) _ ⟨_,rfl⟩⟩
   ·exact kF (by simpa using q) _ ⟨_,rfl⟩
  rw[fol_list]
  have sb:=sa.put (o:=.lst (((bs.filter (fun p=>decide (p.1=n))).map (·.2)).map PV.int)) (sa.free hp2)
  refine⟨_,_,(put_ne n12).trans put_same,put_same,small_size (by have a1:=lf (fun p=>decide (p.2=n)) (·.1);have a2:=lf (fun p=>decide (p.1=n)) (·.2);omega),fun p3 hp3=>?_⟩
  try walk_at "r"
  refine⟨H,sb.put (sb.free hp3),?_⟩
  rw[←List.map_append]
  exact h
 ·exact h.elim
theorem G_zd(T:Tx K mg t):FnOk' P w K mg base CX0 3 t.a_zd t.d_zd ["self","start","names"] (sp_lumpof t):=by
 refine okU (k:=2) T.F_zd sc_zd (fun vs H Q E h=>by
  unfold sp_lumpof at h
  split at h
  ·rfl
  ·exact h.elim) (fun cdv A outer s H E B hr=>⟨_,(qss_cons (qs_set (i:=3) sc_zd.nd rfl (by walk_at "o") (qe_disp1 (qv 1)))
  (qss_cons (qs_set (i:=4) sc_zd.nd rfl (by walk_at "o") (qe_lst (qa_cons (qv 1) qa_nil)))
  (qss_cons (qs_while PassesOwn.never (qt_cmp op_gt vr_gt (qe_callB call_len_seq vc_len rfl T.b_len PySem.boot_len (qa_cons (qv 4) qa_nil)) qe_int (nomark _))
  (qss_cons (qs_set (i:=5) sc_zd.nd rfl (by walk_at "o") (qe_bm0 PySem.F.slot_list_pop PySem.F.type_list_pop mt_pop vm_pop hl_pop (qv 4)))
   (qss_one (qs_for PassesOwn.never rfl (qi_seq (qe_meth (qv 0) T.cl_Drawing T.m_zj (G_zj T) (hr.mono (by decide)) T.B_zj (qa_cons (qv 5) qa_nil))) (qg_name (i:=6) sc_zd.nd rfl (by walk_at "o"))
   (qss_one (qs_if (qt_bool (qw_and (qt_cmp (op_inU hr.units) vr_in (qv 6) (qv 2) (by with_unfolding_all rfl)) (qw_and1 (qt_notInD hr.units (qv 6) (qv 3)))))
    (qss_cons (qs_putD hr.units (qv 3) (qv 6))
     (qss_one (qs_expr (qe_bm PySem.F.slot_list_append PySem.F.type_list_append mt_append vm_append (qv 4) (qa_cons (qv 6) qa_nil)))))
    qss_nil))))))
  (qss_one (qs_ret (qe_callTy call_tuple_of vc_tuple rfl T.b_tuple boot_tuple (qa_cons (qe_callB (call_sortD rfl) vc_sortD rfl T.b_sorted boot_sorted (qa_cons (qv 3) qa_nil)) qa_nil))))))),?_⟩)
 intro vs H Q E h
 unfold sp_lumpof at h
 split at h
 ·rename_i x n l
  obtain⟨dx,c,ts,bs,L,hx,rfl,hL,hc,gb,hn,h⟩:=h
  have b15:=gb.len hc.2
  walk_at "r"
  intro p hp
  rw[put_put]
  refine⟨small_size (by decide),fun q hq=>?_⟩
  have nxp:=ne_none hx hp
  have npq:p≠q:=fun e=>by subst e;rw[put_same]at hq;cases hq
  have nxq:x≠q:=ne_none ((put_ne nxp).trans hx) hq
  have hq0:H q=none:=((Sub.refl H).put hp).free hq
  have kl:∀ks:List Int,ks.Nodup->(∀y∈ks,y∈L)->ks.length≤6:=fun ks h1 h2=>My.nodup_le 6 ks h1 fun y hy=>by have:=hL.lo y (h2 y hy);omega
  refine while_by (fun m σ H2=>∃ks ws u v,σ=[some (.ref x),some (.int n),some (.tup (L.map PV.int)),some (.ref p),some (.ref q),u,v]/\H2=put (put H p (dkP ks)) q (.lst (ws.map PV.int))/\Iv (both bs L) L n [] ks ws/\m=2*(6 - ks.length)+ws.length/\m≤11) _ ⟨[n],[n],none,none,rfl,rfl,⟨by simp,by simp,fun y hy=>.base hy,fun y hy=>by rw[List.mem_singleton]at hy;rw[hy];exact hn,fun y hy=>hy,fun a ha hw=>absurd ha hw⟩,rfl,by simp⟩ ?_
  rintro m σ H2 ⟨ks,ws,u,v,rfl,rfl,iv,rfl,m11⟩
  walk_at "r"
  rcases List.eq_nil_or_concat ws with rfl |⟨w',y,rfl⟩
  ·refine cif_neg (by simp) ?_
   refine⟨ks,(put_ne npq).trans put_same,by have:=kl ks iv.nd iv.inl;omega,fun r ms hr hs hp2=>?_⟩
   try walk_at "r"
   have sz:=((Sub.refl H).put (o:=dkP ks) hp).put (o:=.lst (([]:List Int).map PV.int)) hq0
   refine⟨H,sz.put (sz.free hr),h ms (My.rising_of hs (hp2.nodup_iff.mpr iv.nd)) fun y=>hp2.mem_iff.trans (iv.done y)⟩
  ·rw[List.concat_eq_append]at *
   have yk:y∈ks:=iv.sub y (by simp)
   have yl:=hL.lo y (iv.inl y yk)
   have hxx:∀A B,put (put H p A) q B x=some (.ins t.a_Drawing dx (DF c ts bs)):=fun A B=>(put_ne nxq).trans ((put_ne nxp).trans hx)
   have dl:((w'++[y]).map PV.int).dropLast=w'.map PV.int:=by simp
   refine cif_pos (by simp) ⟨fun σ' H'=>∃ks' ws' u v,σ'=[some (.ref x),some (.int n),some (.tup (L.map PV.int)),some (.ref p),some (.ref q),u,v]/\H'=put (put H p (dkP ks')) q (.lst (ws'.map PV.int))/\Iv (both bs L) L n [] ks' ws'/\2*(6 - ks'.length)+ws'.length<2*(6 - ks.length)+(w'++[y]).length,fun σ' H' ⟨ks',ws',u,v,e1,e2,e3,e4⟩=>⟨_,e4,ks',ws',u,v,e1,e2,e3,rfl,by omega⟩,(w'++[y]).map PV.int,.int y,rfl,by simp,?_⟩
   rw[dl,put_put,e_bowed]
   refine⟨⟨_,_,hxx _ _,rfl⟩,_,_,_,_,hxx _ _,yl,b15,?_⟩
   have mb:∀b,b∈(bs.filter (fun p=>decide (p.2=y))).map (·.1)++(bs.filter (fun p=>decide (p.1=y))).map (·.2)↔((y,b)∈bs∨(b,y)∈bs):=fun b=>mem_bowed
   generalize (bs.filter (fun p=>decide (p.2=y))).map (·.1)++(bs.filter (fun p=>decide (p.1=y))).map (·.2)=Bw at *
   try walk_at "r"
   refine for_at (fun j σ H3=>∃ks' ws' v,σ=[some (.ref x),some (.int n),some (.tup (L.map PV.int)),some (.ref p),some (.ref q),some (.int y),v]/\H3=put (put H p (dkP ks')) q (.lst (ws'.map PV.int))/\Iv (both bs L) L n [y] ks' ws'/\y∈ks'/\(∀b∈Bw.take j,b∈L->b∈ks')/\2*(6 - ks'.length)+ws'.length≤2*(6 - ks.length)+w'.length) ?_ ?_ ⟨ks,w',v,rfl,rfl,iv.opn,yk,by simp,Nat.le_refl _⟩
   ·rintro σ H3 ⟨ks',ws',v,rfl,rfl,iv',yk',hb,hm⟩
    rw[List.length_map,List.take_length]at hb
    refine⟨trivial,ks',ws',_,_,rfl,rfl,iv'.close fun b hb'=>?_,by rw[List.length_append,List.length_singleton];omega⟩
    have:=mem_both.mp hb'
    exact hb b ((mb b).mpr this.2.2) this.2.1
   ·rintro G j y' σ H3 hy ⟨ks',ws',v,rfl,rfl,iv',yk',hb,hm⟩ kk
    refine⟨trivial,?_⟩
    obtain⟨hj,e⟩:=List.getElem?_eq_some_iff.mp hy
    rw[List.length_map]at hj
    rw[List.getElem_map]at e
    subst e
    have tk:∀b,b∈Bw.take (j+1)->b∈Bw.take j∨b=Bw[j]:=fun b hb=>by
     rw[List.take_succ,List.getElem?_eq_getElem hj,List.mem_append]at hb
     exact hb.imp id fun q=>by simpa using q
    have zb:Bw[j]∈Bw:=List.getElem_mem hj
    generalize Bw[j]=z at *
    walk_at "r"
    refine⟨flat_ints,?_⟩
    simp only[any_int]
    have pp:put (put H p (dkP ks')) q (.lst (ws'.map PV.int)) p=some (dkP ks'):=(put_ne npq).trans put_same
    refine cif_dec (fun m1=>⟨ks',pp,?_⟩) (fun m1=>kk _ _ ⟨ks',ws',_,rfl,rfl,iv',yk',fun b hb' bl=>(tk b hb').elim (fun q=>hb b q bl) (fun q=>absurd (q▸bl) m1),hm⟩)
    by_cases m2:z∈ks'
    ·exact cif_neg (by simp[m2]) (kk _ _ ⟨ks',ws',_,rfl,rfl,iv',yk',fun b hb' bl=>(tk b hb').elim (fun q=>hb b q bl) (fun q=>q▸m2),hm⟩)
    ·have yz:(y,z)∈both bs L:=mem_both.mpr ⟨iv'.inl y yk',m1,(mb z).mp zb⟩
     have ivn:=iv'.add yk' yz m1 m2
     have kn:=kl _ ivn.nd ivn.inl
     rw[List.length_append,List.length_singleton]at kn
     rw[List.length_append,List.length_singleton]at m11
     have wl:ws'.length≤1000 - 1:=by omega
     have ql:∀A,put (put (put H p (dkP ks')) q (.lst (ws'.map PV.int))) p A q=some (.lst (ws'.map PV.int)):=fun A=>(put_ne npq.symm).trans put_same
     refine cif_pos (by simp[m2]) ⟨ks',pp,m2,by omega,⟨_,ql _⟩,_,ql _,small1000 (by rw[List.length_map];omega),kk _ _ ⟨ks'++[z],ws'++[z],_,rfl,?_,ivn,List.mem_append_left _ yk',fun b hb' bl=>(tk b hb').elim (fun q=>List.mem_append_left _ (hb b q bl)) (fun q=>by rw[q];simp),by rw[List.length_append,List.length_append,List.length_singleton];omega⟩⟩
     rw[put_swap npq.symm,put_put,put_put,List.map_append];rfl
 ·exact h.elim
theorem G_zh(T:Tx K mg t):FnOk' P w K mg base CX0 4 t.a_zh t.d_zh ["self","names"] (sp_lumps t):=by
 refine okU (k:=3) T.F_zh sc_zh (fun vs H Q E h=>by
  unfold sp_lumps at h
  split at h
  ·rfl
  ·exact h.elim) (fun cdv A outer s H E B hr=>⟨_,(qss_cons (qs_expr (qe_meth (qv 0) T.cl_Drawing T.m_zc (G_zc T) (hr.mono (by decide)) T.B_zc (qa_cons (qv 1) qa_nil)))
  (qss_cons (qs_set (i:=2) sc_zh.nd rfl (by walk_at "o") (qe_lst qa_nil))
  (qss_cons (qs_set (i:=3) sc_zh.nd rfl (by walk_at "o") (qe_lst qa_nil))
  (qss_cons (qs_for PassesOwn.never rfl (qi_seq (qv 1)) (qg_name (i:=4) sc_zh.nd rfl (by walk_at "o"))
  (qss_one (qs_if (qt_cmp (op_notInU hr.units) vr_in (qv 4) (qv 3) (by with_unfolding_all rfl))
   (qss_cons (qs_set (i:=5) sc_zh.nd rfl (by walk_at "o") (qe_meth (qv 0) T.cl_Drawing T.m_zd (G_zd T) (hr.mono (by decide)) T.B_zd (qa_cons (qv 4) (qa_cons (qv 1) qa_nil))))
    (qss_cons (qs_expr (qe_bm PySem.F.slot_list_extend PySem.F.type_list_extend mt_extendT vm_extT (qv 3) (qa_cons (qv 5) qa_nil)))
    (qss_one (qs_expr (qe_bm PySem.F.slot_list_append PySem.F.type_list_append mt_append vm_append (qv 2) (qa_cons (qv 5) qa_nil))))))
   qss_nil)))
  (qss_one (qs_ret (qv 2))))))),?_⟩)
 intro vs H Q E h
 unfold sp_lumps at h
 split at h
 ·rename_i x l
  obtain⟨dx,c,ts,bs,L,hx,rfl,hL,hc,gb,h⟩:=h
  have l6:=hL.len hc.2
  walk_at "r"
  refine⟨⟨_,_,hx,rfl⟩,c,ts,L,⟨_,_,hx⟩,rfl,hL,small_size (by decide),fun p hp=>⟨small_size (by decide),fun q hq=>?_⟩⟩
  have nxp:=ne_none hx hp
  have npq:p≠q:=fun e=>by subst e;rw[put_same]at hq;cases hq
  have nxq:x≠q:=ne_none ((put_ne nxp).trans hx) hq
  have hq0:H q=none:=((Sub.refl H).put hp).free hq
  refine for_at (fun i σ H2=>∃k u told placed,σ=[some (.ref x),some (.tup (L.map PV.int)),some (.ref p),some (.ref q),k,u]/\H2=put (put H p (.lst (told.map tupI))) q (.lst (placed.map PV.int))/\(∀rest,Lmps (both bs L) ((L.drop i).filter fun y=>!decide (y∈placed)) rest->Lmps (both bs L) L (told++rest))/\told.length≤i/\(∀M∈told,M.length≤6)/\placed.length≤6*i) ?_ ?_ ⟨none,none,[],[],rfl,rfl,fun rest hr=>by rw[List.drop_zero,List.filter_eq_self.mpr (fun _ _=>by simp)]at hr;exact hr,by simp,by simp,by simp⟩
  ·rintro σ H2 ⟨k,u,told,placed,rfl,rfl,hi,hl,hM,hp6⟩
   refine⟨trivial,?_⟩
   rw[List.length_map]at hl hi
   walk_at "r"
   rw[List.drop_length]at hi
   have:=hi [] .nil
   rw[List.append_nil]at this
   exact⟨_,(Sub.refl _).put ((put_ne npq.symm).trans hq0),h p told hp this (by omega) hM⟩
  ·rintro G i y σ H2 hy ⟨k,u,told,placed,rfl,rfl,hi,hl,hM,hp6⟩ kk
   refine⟨trivial,?_⟩
   obtain⟨hil,e⟩:=List.getElem?_eq_some_iff.mp hy
   rw[List.length_map]at hil
   rw[List.getElem_map]at e
   subst e
   have hix:L[i]?=some L[i]:=List.getElem?_eq_getElem hil
   have hmem:L[i]∈L:=List.getElem_mem hil
   generalize L[i]=z at *
   walk_at "r"
   refine⟨flat_ints,?_⟩
   simp only[any_int]
   have hxx:put (put H p (.lst (told.map tupI))) q (.lst (placed.map PV.int)) x=some (.ins t.a_Drawing dx (DF c ts bs)):=(put_ne nxq).trans ((put_ne nxp).trans hx)
   by_cases m:z∈placed
   ·refine cif_neg (by simp[m]) (kk _ _ ⟨_,_,told,placed,rfl,rfl,fun rest hr=>hi rest (by rw[lumps_skip hix m];exact hr),by omega,hM,by omega⟩)
   ·refine cif_pos (by simp[m]) ⟨⟨_,_,hxx,rfl⟩,_,_,_,_,L,hxx,rfl,hL,hc,gb,hmem,fun M up iff=>?_⟩
    have lM:M.length≤6:=My.nodup_le 6 M (up.imp fun h=>by omega) fun y hy=>by
     have:=reach_lo (both_lo hL) (fun y hy=>by rw[List.mem_singleton]at hy;rw[hy];exact hL.lo z hmem) ((iff y).mp hy)
     omega
    obtain⟨t1,t2⟩:=lumps_take (M:=M) hix m
    rw[put_put]
    refine⟨⟨_,rfl⟩,small_size (by rw[List.length_map,List.length_map];omega),⟨_,(put_ne npq).trans put_same⟩,_,(put_ne npq).trans put_same,small1000 (by rw[List.length_map];omega),kk _ _ ⟨_,_,told++[M],placed++M,rfl,?_,fun rest hr=>?_,by rw[List.length_append,List.length_singleton];omega,fun M' hM'=>?_,by rw[List.length_append];omega⟩⟩
    ·rw[put_swap npq.symm,put_put,List.map_append,List.map_append];rfl
    ·have:=hi (M::rest) (by rw[t1];exact .cons up iff (by rw[t2];exact hr))
     rw[List.append_assoc];exact this
    ·rcases List.mem_append.mp hM' with h1 | h1
     ·exact hM M' h1
     ·rw[List.mem_singleton]at h1;rw[h1];exact lM
 ·exact h.elim
theorem G_zk(T:Tx K mg t):FnOk' P w K mg base CX0 5 t.a_zk t.d_zk ["self","names"] (sp_part t):=by
 refine okU (k:=4) T.F_zk sc_zk (fun vs H Q E h=>by
  unfold sp_part at h
  split at h
  ·rfl
  ·exact h.elim) (fun cdv A outer s H E B hr=>⟨_,(qss_cons (qs_expr (qe_meth (qv 0) T.cl_Drawing T.m_zc (G_zc T) (hr.mono (by decide)) T.B_zc (qa_cons (qv 1) qa_nil)))
  (qss_cons (qs_setC (i:=2) sc_zk.nd rfl (by walk_at "o") (N2:=["tie","names"]) (nt:=1) (js:=[1]) (ck (sc:=defScope s_zk)) rfl (qi_seq (qe_fld (qv 0) T.cl_Drawing T.nf_Drawing_ties rfl)) (fun s0 H0 fp ps=>⟨(qg_name (i:=0) (show List.Nodup (["tie","names"]:List Str) by decide +kernel) rfl (by walk_at "o")),(qif_one (qt_bool (qw_and (qt_cmp (op_inU hr.units) vr_in (qe_ix (qv 0) qe_int (fun _ _=>rfl)) (qv 1) (by with_unfolding_all rfl)) (qw_and1 (qt_cmp (op_inU hr.units) vr_in (qe_ix (qv 0) qe_int (fun _ _=>rfl)) (qv 1) (by with_unfolding_all rfl)))))),(qv 0)⟩))
  (qss_cons (qs_setC (i:=3) sc_zk.nd rfl (by walk_at "o") (N2:=["bow","names"]) (nt:=1) (js:=[1]) (ck (sc:=defScope s_zk)) rfl (qi_seq (qe_fld (qv 0) T.cl_Drawing T.nf_Drawing_bows rfl)) (fun s0 H0 fp ps=>⟨(qg_name (i:=0) (show List.Nodup (["bow","names"]:List Str) by decide +kernel) rfl (by walk_at "o")),(qif_one (qt_bool (qw_and (qt_cmp (op_inU hr.units) vr_in (qe_ix (qv 0) qe_int (fun _ _=>rfl)) (qv 1) (by with_unfolding_all rfl)) (qw_and1 (qt_cmp (op_inU hr.units) vr_in (qe_ix (qv 0) qe_int (fun _ _=>rfl)) (qv 1) (by with_unfolding_all rfl)))))),(qv 0)⟩))
  (qss_one (qs_ret (qe_make T.mk_Drawing (G_zm T) (hr.mono (by decide)) rfl T.g_Drawing T.B_zm (qa_cons (qe_fld (qv 0) T.cl_Drawing T.nf_Drawing_count rfl) (qa_cons (qv 2) (qa_cons (qv 3) qa_nil))))))))),?_⟩)
 intro vs H Q E h
 unfold sp_part at h
 split at h
 ·rename_i x l
  obtain⟨c,ts,bs,L,⟨dx,hx⟩,rfl,ok,hL,h⟩:=h
  have t15:=ok.gt.len ok.c6
  have b6:=ok.b6
  have ok2:=ok.filter (FT 0 L) (FB 0 L)
  refine seq_abs fun R hR=>?_
  walk_at "r"
  refine⟨⟨_,_,hx,rfl⟩,c,ts,L,⟨_,_,hx⟩,rfl,hL,?_⟩
  subst hR
  refine seq_abs fun R hR=>?_
  walk_at "r"
  refine⟨_,_,_,hx,rfl,?_⟩
  show ∀acc,H acc=none->_
  intro p1 hp1
  refine comp_pure (fun y=>y) (onP (FT 0 L)) (fun σ=>∃z,σ=[z,some (.tup (L.map PV.int))]) (by rw[List.length_map];omega) (fun _=>trivial) ?_ ?_ ⟨_,rfl⟩
  ·rintro y hy l σ R' ⟨z,rfl⟩ hl kT kF
   obtain⟨p,hp,rfl⟩:=List.mem_map.mp hy
   rw[onP_prV]at kT kF
   unfold prV at *
   walk_at "r"
   refine⟨flat_ints,?_⟩
   simp only[any_int]
   by_cases m1:p.1∈L
   ·refine cif_pos (by simp[m1]) ⟨flat_ints,?_⟩
    by_cases m2:p.2∈L
    ·exact cif_pos (by simp[m2]) ⟨hl,by rw[put_put];exact kT (by simp[FT,m1,m2]) _ ⟨_,rfl⟩⟩
    ·exact cif_neg (by simp[m2]) (kF (by simp[FT,m1,m2]) _ ⟨_,rfl⟩)
   ·exact cif_neg (by simp[m1]) (kF (by simp[FT,m1]) _ ⟨_,rfl⟩)
  rw[prs_filter]
  subst hR
  have s1:U.Sub H (put H p1 (.lst ((ts.filter (FT 0 L)).map prV))):=(Sub.refl H).put hp1
  have i1:put H p1 (.lst ((ts.filter (FT 0 L)).map prV)) p1=some (.lst ((ts.filter (FT 0 L)).map prV)):=put_same
  generalize put H p1 (.lst ((ts.filter (FT 0 L)).map prV))=H1 at *
  have hx1:=s1 _ _ hx
  refine seq_abs fun R hR=>?_
  walk_at "r"
  refine⟨_,_,_,hx1,rfl,?_⟩
  show ∀acc,H1 acc=none->_
  intro p2 hp2
  refine comp_pure (fun y=>y) (onP (FB 0 L)) (fun σ=>∃z,σ=[z,some (.tup (L.map PV.int))]) (by rw[List.length_map];omega) (fun _=>trivial) ?_ ?_ ⟨_,rfl⟩
  ·rintro y hy l σ R' ⟨z,rfl⟩ hl kT kF
   obtain⟨p,hp,rfl⟩:=List.mem_map.mp hy
   rw[onP_prV]at kT kF
   unfold prV at *
   walk_at "r"
   refine⟨flat_ints,?_⟩
   simp only[any_int]
   by_cases m1:p.1∈L
   ·refine cif_pos (by simp[m1]) ⟨flat_ints,?_⟩
    by_cases m2:p.2∈L
    ·exact cif_pos (by simp[m2]) ⟨hl,by rw[put_put];exact kT (by simp[FB,m1,m2]) _ ⟨_,rfl⟩⟩
    ·exact cif_neg (by simp[m2]) (kF (by simp[FB,m1,m2]) _ ⟨_,rfl⟩)
   ·exact cif_neg (by simp[m1]) (kF (by simp[FB,m1]) _ ⟨_,rfl⟩)
  rw[prs_filter]
  subst hR
  have s2:U.Sub H1 (put H1 p2 (.lst ((bs.filter (FB 0 L)).map prV))):=(Sub.refl H1).put hp2
  have i2:put H1 p2 (.lst ((bs.filter (FB 0 L)).map prV)) p2=some (.lst ((bs.filter (FB 0 L)).map prV)):=put_same
  generalize put H1 p2 (.lst ((bs.filter (FB 0 L)).map prV))=H2 at *
  have hx2:=s2 _ _ hx1
  have j1:=s2 _ _ i1
  have s12:=s1.trans s2
  walk_at "r"
  refine⟨_,_,_,hx2,rfl,?_⟩
  show ∀y dy,H2 y=none->H2 dy=none->dy≠y->_
  intro y dy hy hdy nd
  have sc:=(Sub.refl H2).put (o:=.ins t.a_Drawing dy []) hy
  refine⟨dy,_,_,_,_,put_same,sc _ _ j1,sc _ _ i2,rows_prV,rows_prV,ok2.gt,ok2.gb,⟨ok.c1,ok.c6,ok2.b6⟩,fun T1 B1 pT sT pB sB=>?_⟩
  have eT:=DM.perm_eq (List.Perm.refl _) ok2.st pT sT
  have eB:=DM.perm_eq (List.Perm.refl _) ok2.sb pB sB
  subst eT;subst eB
  rw[put_put]
  exact⟨rfl,_,Sub.refl _,h y _ (s12.put (s12.free hy)) ⟨dy,put_same⟩⟩
 ·exact h.elim
theorem G_zr(T:Tx K mg t):FnOk' P w K mg base CX0 1 t.a_zr t.d_zr ["count"] sp_upto:=by
 refine okU (k:=0) T.F_zr sc_zr (fun vs H Q E h=>by
  unfold sp_upto at h
  split at h
  ·rfl
  ·exact h.elim) (fun cdv A outer s H E B hr=>⟨_,(qss_one (qs_ret (qe_tupR rfl rfl T.b_tuple rfl T.b_range boot_tuple (qv 0)))),?_⟩)
 intro vs H Q E h
 unfold sp_upto at h
 split at h
 ·rename_i c
  obtain⟨⟨h0,h1⟩,h⟩:=h
  walk_at "r"
  rw[rng_ul]
  exact⟨h0,h1,H,Sub.refl _,h⟩
 ·exact h.elim
theorem G_zD(T:Tx K mg t):FnOk' P w K mg base CX0 1 t.a_zD t.d_zD ["names","others"] sp_without:=by
 refine okU (k:=0) T.F_zD sc_zD (fun vs H Q E h=>by
  unfold sp_without at h
  split at h
  ·rfl
  ·exact h.elim) (fun cdv A outer s H E B hr=>⟨_,(qss_one (qs_ret (qe_callTy call_tuple_of vc_tuple rfl T.b_tuple boot_tuple (qa_cons (qe_comp (N2:=["name","others"]) (nt:=1) (js:=[1]) (ck (sc:=defScope s_zD)) rfl (qi_seq (qv 0)) (fun s0 H0 fp ps=>⟨(qg_name (i:=0) (show List.Nodup (["name","others"]:List Str) by decide +kernel) rfl (by walk_at "o")),(qif_one (qt_cmp (op_notInU hr.units) vr_in (qv 0) (qv 1) (by with_unfolding_all rfl))),(qv 0)⟩)) qa_nil)))),?_⟩)
 intro vs H Q E h
 unfold sp_without at h
 split at h
 ·rename_i l m
  obtain⟨A,B,rfl,rfl,hl,h⟩:=h
  walk_at "r"
  show ∀acc,H acc=none->_
  intro acc hacc
  refine comp_pure (fun y=>y) (onI fun y=>!decide (y∈B)) (fun σ=>∃z,σ=[z,some (.tup (B.map PV.int))]) (by rw[List.length_map];exact hl) (fun _=>trivial) ?_ ?_ ⟨_,rfl⟩
  ·rintro y hy l σ R ⟨z,rfl⟩ hl kT kF
   obtain⟨k,hk,rfl⟩:=List.mem_map.mp hy
   have e:onI (fun y=>!decide (y∈B)) (PV.int k)=!decide (k∈B):=rfl
   rw[e]at kT kF
   walk_at "r"
   refine⟨flat_ints,?_⟩
   simp only[any_int]
   by_cases m:k∈B
   ·exact cif_neg (by simp[m]) (kF (by simp[m]) _ ⟨_,rfl⟩)
   ·exact cif_pos (by simp[m]) ⟨hl,by rw[put_put];exact kT (by simp[m]) _ ⟨_,rfl⟩⟩
  rw[ints_filter]
  exact⟨_,put_same,H,Sub.put (Sub.refl _) hacc,h⟩
 ·exact h.elim
theorem G_zC(T:Tx K mg t):FnOk' P w K mg base CX0 3 t.a_zC t.d_zC ["drawing","sets"] (sp_needsets t):=by
 refine okU (k:=2) T.F_zC sc_zC (fun vs H Q E h=>by
  unfold sp_needsets at h
  split at h
  ·rfl
  ·exact h.elim) (fun cdv A outer s H E B hr=>⟨_,(qss_one (qs_for PassesOwn.never rfl (qi_seq (qv 1)) (qg_name (i:=2) sc_zC.nd rfl (by walk_at "o"))
  (qss_one (qs_expr (qe_meth (qv 0) T.cl_Drawing T.m_zc (G_zc T) (hr.mono (by decide)) T.B_zc (qa_cons (qv 2) qa_nil)))))),?_⟩)
 intro vs H Q E h
 unfold sp_needsets at h
 split at h
 ·rename_i x a
  obtain⟨c,ts,A,B,⟨dx,bs,hx⟩,ha,hA,hB,h⟩:=h
  walk_at "r"
  refine⟨_,ha,?_⟩
  refine for_at (fun i σ H2=>∃z,σ=[some (.ref x),some (.ref a),z]/\H2=H) ?_ ?_ ⟨none,rfl,rfl⟩
  ·rintro σ H2 ⟨z,rfl,rfl⟩
   exact⟨ha,H2,Sub.refl _,h⟩
  ·rintro G i y σ H2 hy ⟨z,rfl,rfl⟩ kk
   refine⟨ha,?_⟩
   have hM:∃M:List Int,y=.tup (M.map PV.int)/\Nms c M:=by
    match i,hy with
    | 0,hy=>cases hy;exact⟨A,rfl,hA⟩
    | 1,hy=>cases hy;exact⟨B,rfl,hB⟩
    | i+2,hy=>cases hy
   obtain⟨M,rfl,hM⟩:=hM
   walk_at "r"
   exact⟨⟨_,_,hx,rfl⟩,c,ts,M,⟨_,_,hx⟩,rfl,hM,kk _ _ ⟨_,rfl,rfl⟩⟩
 ·exact h.elim
theorem G_zv(T:Tx K mg t):FnOk' P w K mg base CX0 1 t.a_zv t.d_zv ["sets"] sp_needapart:=by
 refine okU (k:=0) T.F_zv sc_zv (fun vs H Q E h=>by
  unfold sp_needapart at h
  split at h
  ·rfl
  ·exact h.elim) (fun cdv A outer s H E B hr=>⟨_,(qss_cons (qs_set (i:=1) sc_zv.nd rfl (by walk_at "o") (qe_lst qa_nil))
  (qss_cons (qs_for PassesOwn.never rfl (qi_seq (qv 0)) (qg_name (i:=2) sc_zv.nd rfl (by walk_at "o"))
  (qss_one (qs_expr (qe_bm PySem.F.slot_list_extend PySem.F.type_list_extend mt_extendT vm_extT (qv 1) (qa_cons (qv 2) qa_nil)))))
  (qss_one (qs_if (qt_cmp (op_neU hr.units) vr_eq (qe_len_setI rfl rfl T.b_len rfl T.b_set boot_set (qv 1)) (qe_callB call_len_seq vc_len rfl T.b_len PySem.boot_len (qa_cons (qv 1) qa_nil)) (nomark _))
  qss_never
  qss_nil)))),?_⟩)
 intro vs H Q E h
 unfold sp_needapart at h
 split at h
 ·rename_i a
  obtain⟨c,A,B,ha,hA,hB,hc,ap,h⟩:=h
  have lA:=hA.len hc
  have lB:=hB.len hc
  walk_at "r"
  refine⟨small_size (by decide),fun p hp=>⟨_,(put_ne (ne_none ha hp)).trans ha,?_⟩⟩
  have nap:=ne_none ha hp
  have hpa:∀o,put H p o a=some (.lst [.tup (A.map PV.int),.tup (B.map PV.int)]):=fun o=>(put_ne nap).trans ha
  have step:∀(M N:List Int),M.length≤6->N.length≤6->((M.map PV.int).length+(N.map PV.int).length≤sizeLine):=fun M N h1 h2=>small_size (by rw[List.length_map,List.length_map];omega)
  refine for_at (fun i σ H2=>∃z,σ=[some (.ref a),some (.ref p),z]/\H2=put H p (.lst ((match i with | 0=>[] | 1=>A | _=>A++B).map PV.int))) ?_ ?_ ⟨none,rfl,rfl⟩
  ·rintro σ H2 ⟨z,rfl,rfl⟩
   refine⟨hpa _,?_⟩
   walk_at "r"
   have ng:∀y∈A++B,0≤y/\y<6:=fun y hy=>by
    rcases List.mem_append.mp hy with q | q
    ·have:=hA.lo y q;omega
    ·have:=hB.lo y q;omega
   have nd:(A++B).Nodup:=List.nodup_append.mpr ⟨hA.nd,hB.nd,fun x hx y hy e=>ap x hx (e▸hy)⟩
   refine⟨(A++B).map Int.toNat,by rw[nats_of ng],fun n hn=>?_,?_,?_⟩
   ·obtain⟨z,hz,rfl⟩:=List.mem_map.mp hn
    have:=ng z hz;omega
   ·rw[List.nodup_iff_pairwise_ne,List.pairwise_map]
    refine List.Pairwise.imp_of_mem (fun {x y} hx hy hxy=>?_) (List.nodup_iff_pairwise_ne.mp nd)
    have h1:=ng x hx
    have h2:=ng y hy
    omega
   ·refine cif_neg (by simp) ⟨H,Sub.put (Sub.refl _) hp,h⟩
  ·rintro G i y σ H2 hy ⟨z,rfl,rfl⟩ kk
   refine⟨hpa _,?_⟩
   match i,hy with
   | 0,hy =>
    cases hy
    walk_at "r"
    exact⟨⟨_,rfl⟩,small_size (by rw[List.length_map];omega),kk _ _ ⟨_,rfl,by rw[put_put];rfl⟩⟩
   | 1,hy =>
    cases hy
    walk_at "r"
    exact⟨⟨_,rfl⟩,step A B lA lB,kk _ _ ⟨_,rfl,by rw[put_put,← List.map_append];rfl⟩⟩
   | i+2,hy=>cases hy
 ·exact h.elim
theorem G_zg(T:Tx K mg t):FnOk' P w K mg base CX0 4 t.a_zg t.d_zg ["drawing","question"] (sp_needq t):=by
 refine okU (k:=3) T.F_zg sc_zg (fun vs H Q E h=>by
  unfold sp_needq at h
  split at h
  ·rfl
  ·exact h.elim) (fun cdv A outer s H E B hr=>⟨_,(qss_cons (qs_expr (qe_call (G_zC T) (hr.mono (by decide)) rfl T.g_zC T.F_zC.kp T.B_zC (qa_cons (qv 0) (qa_cons (qe_lst (qa_cons (qe_ix (qv 1) qe_int (fun _ _=>rfl)) (qa_cons (qe_ix (qv 1) qe_int (fun _ _=>rfl)) qa_nil))) qa_nil))))
  (qss_cons (qs_expr (qe_call (G_zv T) (hr.mono (by decide)) rfl T.g_zv T.F_zv.kp T.B_zv (qa_cons (qe_lst (qa_cons (qe_ix (qv 1) qe_int (fun _ _=>rfl)) (qa_cons (qe_ix (qv 1) qe_int (fun _ _=>rfl)) qa_nil))) qa_nil)))
  (qss_one (qs_if (qt_cmp (op_eqU hr.units) vr_eq (qe_callB call_len_seq vc_len rfl T.b_len PySem.boot_len (qa_cons (qe_ix (qv 1) qe_int (fun _ _=>rfl)) qa_nil)) qe_int (nomark _))
  qss_never
  qss_nil)))),?_⟩)
 intro vs H Q E h
 unfold sp_needq at h
 split at h
 ·rename_i x v
  obtain⟨c,ts,A,B,rfl,⟨dx,bs,hx⟩,hq,hc,h⟩:=h
  unfold qV at *
  walk_at "r"
  refine⟨small_size (by decide),fun p hp=>⟨c,ts,A,B,⟨dx,bs,(put_ne (ne_none hx hp)).trans hx⟩,rfl,hq.a,hq.b,?_⟩⟩
  refine⟨small_size (by decide),fun q hq'=>⟨c,A,B,rfl,hq.a,hq.b,hc,hq.ap,?_⟩⟩
  have s1:=(Sub.refl H).put (o:=.lst [.tup (A.map PV.int),.tup (B.map PV.int)]) hp
  have ne:B.length≠0:=fun e=>hq.ne (List.length_eq_zero_iff.mp e)
  refine cif_neg (by simpa using hq.ne) ⟨H,s1.put (s1.free hq'),h⟩
 ·exact h.elim
theorem G_zn(T:Tx K mg t):FnOk' P w K mg base CX0 6 t.a_zn t.d_zn ["drawing","question"] (sp_wantn t):=by
 refine okU (k:=5) T.F_zn sc_zn (fun vs H Q E h=>by
  unfold sp_wantn at h
  split at h
  ·rfl
  ·exact h.elim) (fun cdv A outer s H E B hr=>⟨_,(qss_cons (qs_expr (qe_call (G_zg T) (hr.mono (by decide)) rfl T.g_zg T.F_zg.kp T.B_zg (qa_cons (qv 0) (qa_cons (qv 1) qa_nil))))
  (qss_cons (qs_set (i:=2) sc_zn.nd rfl (by walk_at "o") (qe_call (G_zD T) (hr.mono (by decide)) rfl T.g_zD T.F_zD.kp T.B_zD (qa_cons (qe_call (G_zr T) (hr.mono (by decide)) rfl T.g_zr T.F_zr.kp T.B_zr (qa_cons (qe_fld (qv 0) T.cl_Drawing T.nf_Drawing_count rfl) qa_nil)) (qa_cons (qe_ix (qv 1) qe_int (fun _ _=>rfl)) qa_nil))))
  (qss_one (qs_ret (qe_meth (qe_meth (qv 0) T.cl_Drawing T.m_zk (G_zk T) (hr.mono (by decide)) T.B_zk (qa_cons (qv 2) qa_nil)) T.cl_Drawing T.m_za (G_za T) (hr.mono (by decide)) T.B_za (qa_cons (qe_ix (qv 1) qe_int (fun _ _=>rfl)) qa_nil)))))),?_⟩)
 intro vs H Q E h
 unfold sp_wantn at h
 split at h
 ·rename_i x v
  obtain⟨c,ts,bs,A,B,rfl,⟨dx,hx⟩,ok,hq,h⟩:=h
  have c1:=ok.c1
  have c6:=ok.c6
  unfold qV at *
  walk_at "r"
  refine⟨c,ts,A,B,rfl,⟨_,_,hx⟩,hq,c6,?_⟩
  refine⟨_,_,_,hx,rfl,⟨by omega,by omega⟩,ulN c,A,rfl,rfl,by unfold ulN;rw[List.length_map,List.length_range];omega,?_⟩
  have en:(ulN c).filter (fun y=>!decide (y∈A))=nin c A:=rfl
  rw[en]
  refine⟨⟨_,_,hx,rfl⟩,c,ts,bs,nin c A,⟨dx,hx⟩,rfl,ok,nin_nms,fun y H1 s1 ⟨dy,hy⟩=>?_⟩
  have ok2:=ok.filter (FT 0 (nin c A)) (FB 0 (nin c A))
  refine⟨⟨_,_,hy,rfl⟩,c,_,B,⟨_,_,hy⟩,rfl,hq.b,⟨c1,c6⟩,ok2.gt,fun M up iff=>⟨H,s1,h M up iff⟩⟩
 ·exact h.elim
theorem G_zH(T:Tx K mg t):FnOk' P w K mg base CX0 1 t.a_zH t.d_zH ["_law_unit","_law_k"] sp_mix:=by
 refine okU (k:=0) T.F_zH sc_zH (fun vs H Q E h=>by
  unfold sp_mix at h
  split at h
  ·rfl
  ·exact h.elim) (fun cdv A outer s H E B hr=>⟨_,(qss_cons (qs_if (qt_cmp op_ge vr_ge (qv 0) (qe_pow qe_int qe_int) (nomark _))
  (qss_one (qs_ret (qe_sub (qv 0) (qe_pow qe_int qe_int))))
  qss_nil)
  (qss_cons (qs_set (i:=2) sc_zH.nd rfl (by walk_at "o") (qe_mod (qv 0) (qe_pow qe_int qe_int)))
  (qss_cons (qs_set (i:=2) sc_zH.nd rfl (by walk_at "o") (qe_mod (qe_mul (qe_add (qe_add (qe_mul (qv 2) (qv 2)) (qe_mul (qe_mul qe_int (qv 1)) (qv 1))) qe_int) qe_int) (qe_add (qe_pow qe_int qe_int) qe_int)))
  (qss_one (qs_ret (qe_mod (qe_mul (qe_add (qe_mul (qv 2) (qv 2)) (qv 1)) qe_int) (qe_add (qe_pow qe_int qe_int) qe_int))))))),?_⟩)
 intro vs H Q E h
 unfold sp_mix at h
 split at h
 ·rename_i u k
  obtain⟨⟨k0,k1⟩,h⟩:=h
  walk_at "r"
  have cp:∀j:Int,0≤j->j≤1000000->CPow 10 j:=fun j h1 h2=>⟨h1,h2,by decide⟩
  refine⟨cp 18 (by decide) (by decide),cif_by (fun _=>⟨cp 18 (by decide) (by decide),H,Sub.refl _,h _⟩) (fun _=>⟨cp 60 (by decide) (by decide),by decide +kernel,?_⟩)⟩
  have b60:My.BN 200 (u.fmod (10 ^ Int.toNat 60)):=fm_bn (by decide +kernel) (show My.BN 200 _ by unfold My.BN;decide +kernel)
  generalize u.fmod (10 ^ Int.toNat 60)=x at *
  refine⟨.inr ⟨b60.fit (by decide),b60.fit (by decide)⟩,.inl (.inl ⟨by decide,by decide⟩),.inl (.inr ⟨by omega,by omega⟩),.inl (.inr ⟨by decide,by decide⟩),cp 18 (by decide) (by decide),by decide +kernel,?_⟩
  have b18:My.BN 64 (((x*x+40503*k*k+7919)*1812433253982451697).fmod (10 ^ Int.toNat 18+9)):=fm_bn (by decide +kernel) (show My.BN 64 _ by unfold My.BN;decide +kernel)
  generalize ((x*x+40503*k*k+7919)*1812433253982451697).fmod (10 ^ Int.toNat 18+9)=y at *
  have bk:My.BN 128 k:=show k.natAbs<2 ^ 128 from Nat.lt_of_lt_of_le (m:=100) (by omega) (by decide)
  exact⟨.inr ⟨b18.fit (by decide),b18.fit (by decide)⟩,.inr ⟨((b18.mul b18).add bk).fit (by decide),(show My.BN 128 _ by unfold My.BN;decide +kernel).fit (by decide)⟩,cp 40 (by decide) (by decide),by decide +kernel,H,Sub.refl _,h _⟩
 ·exact h.elim
theorem G_zs(T:Tx K mg t):FnOk' P w K mg base CX0 1 t.a_zs t.d_zs ["_law_number","_law_least","_law_most"] sp_drawing:=by
 refine okU (k:=0) T.F_zs sc_zs (fun vs H Q E h=>by
  unfold sp_drawing at h
  split at h
  ·rfl
  ·exact h.elim) (fun cdv A outer s H E B hr=>⟨_,(qss_cons (qs_set (i:=3) sc_zs.nd rfl (by walk_at "o") (qe_add (qv 1) (qe_mod (qv 0) (qe_add (qe_sub (qv 2) (qv 1)) qe_int))))
  (qss_cons (qs_set (i:=0) sc_zs.nd rfl (by walk_at "o") (qe_fdiv (qv 0) (qe_add (qe_sub (qv 2) (qv 1)) qe_int)))
  (qss_cons (qs_set (i:=4) sc_zs.nd rfl (by walk_at "o") (qe_lst qa_nil))
  (qss_cons (qs_set (i:=5) sc_zs.nd rfl (by walk_at "o") (qe_lst qa_nil))
  (qss_cons (qs_for PassesOwn.never rfl (qi_range1 rfl T.b_range (qa_cons (qv 3) qa_nil)) (qg_name (i:=6) sc_zs.nd rfl (by walk_at "o"))
  (qss_one (qs_for PassesOwn.never rfl (qi_range1 rfl T.b_range (qa_cons (qv 6) qa_nil)) (qg_name (i:=7) sc_zs.nd rfl (by walk_at "o"))
   (qss_cons (qs_if (qt_cmp (op_eqU hr.units) vr_eq (qe_mod (qe_mod (qv 0) qe_int) qe_int) qe_int (nomark _))
    (qss_one (qs_expr (qe_bm PySem.F.slot_list_append PySem.F.type_list_append mt_append vm_append (qv 4) (qa_cons (qe_tup (qa_cons (qv 7) (qa_cons (qv 6) qa_nil))) qa_nil))))
    qss_nil)
    (qss_cons (qs_if (qt_bool (qw_and (qt_cmp (op_eqU hr.units) vr_eq (qe_fdiv (qe_mod (qv 0) qe_int) qe_int) qe_int (nomark _)) (qw_and1 (qt_cmp op_lt vr_lt (qe_callB call_len_seq vc_len rfl T.b_len PySem.boot_len (qa_cons (qv 5) qa_nil)) qe_int (nomark _)))))
    (qss_one (qs_expr (qe_bm PySem.F.slot_list_append PySem.F.type_list_append mt_append vm_append (qv 5) (qa_cons (qe_tup (qa_cons (qv 7) (qa_cons (qv 6) qa_nil))) qa_nil))))
    qss_nil)
    (qss_one (qs_set (i:=0) sc_zs.nd rfl (by walk_at "o") (qe_fdiv (qv 0) qe_int))))))))
  (qss_one (qs_ret (qe_lst (qa_cons (qv 3) (qa_cons (qe_callB call_sortP vc_sortP rfl T.b_sorted boot_sorted (qa_cons (qv 4) qa_nil)) (qa_cons (qe_callB call_sortP vc_sortP rfl T.b_sorted boot_sorted (qa_cons (qv 5) qa_nil)) qa_nil))))))))))),?_⟩)
 intro vs H Q E h
 unfold sp_drawing at h
 split at h
 ·rename_i n a b
  obtain⟨rfl,⟨b1,b6⟩,h⟩:=h
  walk_at "r"
  refine⟨by omega,cdvB (by omega) (by omega),small_size (by decide),fun p1 hp1=>⟨small_size (by decide),fun p2 hp2=>?_⟩⟩
  have hc:=fm (a:=n) (b:=b - 1+1) (by omega)
  generalize hcc:1+n.fmod (b - 1+1)=c at *
  have hc1:1≤c/\c≤b:=by omega
  refine⟨⟨by omega,by omega⟩,?_⟩
  have q2:H p2=none:=((Sub.refl H).put hp1).free hp2
  have n12:p1≠p2:=fun e=>by subst e;rw[put_same]at hp2;cases hp2
  refine for_rng (fun i σ H2=>∃num v u ts bs,σ=[some (.int num),some (.int 1),some (.int b),some (.int c),some (.ref p1),some (.ref p2),v,u]/\(U.Sub H H2/\H2 p1=some (.lst (ts.map prV))/\H2 p2=some (.lst (bs.map prV)))/\DM.Good (i:Nat) ts/\DM.Good (i:Nat) bs/\bs.length≤6) ?_ ?_ ⟨_,_,_,[],[],rfl,⟨((Sub.refl H).put hp1).put q2,by rw[put_ne n12,put_same];rfl,put_same⟩,⟨List.nodup_nil,by simp⟩,⟨List.nodup_nil,by simp⟩,by simp⟩
  ·rintro σ H2 ⟨num,v,u,ts,bs,rfl,⟨s1,s3,s4⟩,g1,g2,l6⟩
   refine⟨trivial,?_⟩
   walk_at "r"
   have ec:((c.toNat:Nat):Int)=c:=by omega
   rw[ec]at g1 g2
   have t15:=g1.len (by omega)
   refine⟨ts,s3,g1.nd,fun p hp=>?_,by omega,fun r1 T1 hr1 pT sT=>⟨bs,(put_ne (ne_none s4 hr1)).trans s4,g2.nd,fun p hp=>?_,by omega,fun r2 B1 hr2 pB sB=>⟨small_size (by decide),fun r3 hr3=>?_⟩⟩⟩
   ·have:=g1.lo p hp;omega
   ·have:=g2.lo p hp;omega
   have sa:=s1.put (o:=.lst (T1.map prV)) (s1.free hr1)
   have sb:=sa.put (o:=.lst (B1.map prV)) (sa.free hr2)
   have sc:=sb.put (o:=.lst [.int c,.ref r1,.ref r2]) (sb.free hr3)
   have n1:r1≠r2:=fun e=>by subst e;rw[put_same]at hr2;cases hr2
   have n2:r2≠r3:=fun e=>by subst e;rw[put_same]at hr3;cases hr3
   have n3:r1≠r3:=fun e=>by subst e;rw[put_ne n1,put_same]at hr3;cases hr3
   exact⟨_,Sub.refl _,h c T1 B1 r3 _ ⟨hc1.1,by omega,⟨pT.nodup_iff.mpr g1.nd,fun p hp=>g1.lo p (pT.mem_iff.mp hp)⟩,⟨pB.nodup_iff.mpr g2.nd,fun p hp=>g2.lo p (pB.mem_iff.mp hp)⟩,by rw[pB.length_eq];exact l6⟩ hc1.2 sT sB sc ⟨r1,r2,put_same,(put_ne n3).trans ((put_ne n1).trans put_same),(put_ne n2).trans put_same⟩⟩
  ·rintro G i σ H2 hi ⟨num,v,u,ts,bs,rfl,⟨s1,s3,s4⟩,g1,g2,l6⟩ kk
   refine⟨trivial,?_⟩
   walk_at "r"
   refine⟨⟨by omega,by omega⟩,?_⟩
   rw[Int.toNat_natCast]
   refine for_rng (fun j σ H3=>∃num u ts bs,σ=[some (.int num),some (.int 1),some (.int b),some (.int c),some (.ref p1),some (.ref p2),some (.int (i:Nat)),u]/\(U.Sub H H3/\H3 p1=some (.lst (ts.map prV))/\H3 p2=some (.lst (bs.map prV)))/\GJ (i:Nat) (j:Nat) ts/\GJ (i:Nat) (j:Nat) bs/\bs.length≤6) ?_ ?_ ⟨_,_,ts,bs,rfl,⟨s1,s3,s4⟩,GJ.of g1,GJ.of g2,l6⟩
   ·rintro σ H3 ⟨num,u,ts,bs,rfl,hH,a1,a2,l6⟩
    exact⟨trivial,kk _ _ ⟨_,_,_,ts,bs,rfl,hH,a1.good,a2.good,l6⟩⟩
   ·rintro G' j σ H3 hj ⟨num,u,ts,bs,rfl,⟨s1,s3,s4⟩,a1,a2,l6⟩ kk'
    refine⟨trivial,?_⟩
    have last:∀ts' bs' H4,(U.Sub H H4/\H4 p1=some (.lst (ts'.map prV))/\H4 p2=some (.lst (bs'.map prV)))->GJ (i:Nat) ((j:Nat)+1:Int) ts'->GJ (i:Nat) ((j:Nat)+1:Int) bs'->bs'.length≤6 ->
      G' [some (.int (num.fdiv 6)),some (.int 1),some (.int b),some (.int c),some (.ref p1),some (.ref p2),some (.int (i:Nat)),some (.int (j:Nat))] H4:=fun ts' bs' H4 x1 x2 x3 x4=>kk' _ _ ⟨_,_,ts',bs',rfl,x1,x2,x3,x4⟩
    refine seq_abs fun R hR=>?_
    have second:∀(ts':List DM.P2) (H4:PHp),(U.Sub H H4/\H4 p1=some (.lst (ts'.map prV))/\H4 p2=some (.lst (bs.map prV)))->GJ (i:Nat) ((j:Nat)+1:Int) ts' ->
      R { nx:=G',rt:=fun v H=>∃H3,U.Sub H3 H/\Q v H3,bk:=G,ct:=G' } [some (.int num),some (.int 1),some (.int b),some (.int c),some (.ref p1),some (.ref p2),some (.int (i:Nat)),some (.int (j:Nat))] H4:=by
     rintro ts' H4 ⟨u1,u3,u4⟩ b1
     subst hR
     refine seq_abs fun R hR=>?_
     have nxt:R { nx:=G',rt:=fun v H=>∃H3,U.Sub H3 H/\Q v H3,bk:=G,ct:=G' } [some (.int num),some (.int 1),some (.int b),some (.int c),some (.ref p1),some (.ref p2),some (.int (i:Nat)),some (.int (j:Nat))] H4:=by
      subst hR
      walk_at "r"
      exact⟨cdvB (by decide) (by decide),last ts' bs H4 ⟨u1,u3,u4⟩ b1 a2.up l6⟩
     walk_at "r"
     refine⟨by decide,cdvB (by decide) (by decide),cif_by (fun _=>?_) (fun _=>nxt)⟩
     refine⟨_,u4,?_⟩
     by_cases h6:bs.length<6
     ·refine cif_pos (by rw[List.length_map];simp;omega) ?_
      refine⟨⟨_,u4⟩,small_size (by decide),_,u4,by rw[List.length_map];exact small1000 (by omega),?_⟩
      subst hR
      walk_at "r"
      refine⟨cdvB (by decide) (by decide),last ts' (bs++[(((j:Nat):Int),((i:Nat):Int))]) _ ⟨u1.put q2,(put_ne n12).trans u3,?_⟩ b1 (a2.app (by omega) (by omega)) (by rw[List.length_append];simp;omega)⟩
      rw[put_same,List.map_append];rfl
     ·refine cif_neg (by rw[List.length_map];simp;omega) nxt
    walk_at "r"
    have t15:ts.length≤15:=(show DM.Good ((i:Nat)+1:Int) ts from⟨a1.nd,fun p hp=>by have:=a1.lo p hp;omega⟩).len (by omega)
    refine⟨by decide,by decide,cif_by (fun _=>?_) (fun _=>second ts H3 ⟨s1,s3,s4⟩ a1.up)⟩
    refine⟨⟨_,s3⟩,small_size (by decide),_,s3,by rw[List.length_map];exact small1000 (by omega),?_⟩
    refine second (ts++[(((j:Nat):Int),((i:Nat):Int))]) _ ⟨s1.put hp1,?_,(put_ne n12.symm).trans s4⟩ (a1.app (by omega) (by omega))
    rw[put_same,List.map_append];rfl
 ·exact h.elim
theorem G_zo(T:Tx K mg t):FnOk' P w K mg base CX0 1 t.a_zo t.d_zo ["_law_number","_law_count"] sp_question:=by
 refine okU (k:=0) T.F_zo sc_zo (fun vs H Q E h=>by
  unfold sp_question at h
  split at h
  ·rfl
  ·exact h.elim) (fun cdv A outer s H E B hr=>⟨_,(qss_cons (qs_set (i:=2) sc_zo.nd rfl (by walk_at "o") (qe_lst qa_nil))
  (qss_cons (qs_set (i:=3) sc_zo.nd rfl (by walk_at "o") (qe_lst qa_nil))
  (qss_cons (qs_for PassesOwn.never rfl (qi_range1 rfl T.b_range (qa_cons (qv 1) qa_nil)) (qg_name (i:=4) sc_zo.nd rfl (by walk_at "o"))
  (qss_cons (qs_set (i:=5) sc_zo.nd rfl (by walk_at "o") (qe_mod (qv 0) qe_int))
   (qss_cons (qs_set (i:=0) sc_zo.nd rfl (by walk_at "o") (qe_fdiv (qv 0) qe_int))
   (qss_cons (qs_if (qt_bool (qw_or (qt_cmp (op_eqU hr.units) vr_eq (qv 5) qe_int (nomark _)) (qw_or1 (qt_cmp (op_eqU hr.units) vr_eq (qv 5) qe_int (nomark _)))))
   (qss_one (qs_expr (qe_bm PySem.F.slot_list_append PySem.F.type_list_append mt_append vm_append (qv 2) (qa_cons (qv 4) qa_nil))))
   qss_nil)
   (qss_one (qs_if (qt_cmp (op_eqU hr.units) vr_eq (qv 5) qe_int (nomark _))
   (qss_one (qs_expr (qe_bm PySem.F.slot_list_append PySem.F.type_list_append mt_append vm_append (qv 3) (qa_cons (qv 4) qa_nil))))
   qss_nil))))))
  (qss_cons (qs_if (qt_cmp (op_eqU hr.units) vr_eq (qe_callB call_len_seq vc_len rfl T.b_len PySem.boot_len (qa_cons (qv 3) qa_nil)) qe_int (nomark _))
  (qss_cons (qs_set (i:=3) sc_zo.nd rfl (by walk_at "o") (qe_lst (qa_cons (qe_sub (qv 1) qe_int) qa_nil)))
   (qss_one (qs_setC (i:=2) sc_zo.nd rfl (by walk_at "o") (N2:=["_law_name","_law_count"]) (nt:=1) (js:=[1]) (ck (sc:=defScope s_zo)) rfl (qi_seq (qv 2)) (fun s0 H0 fp ps=>⟨(qg_name (i:=0) (show List.Nodup (["_law_name","_law_count"]:List Str) by decide +kernel) rfl (by walk_at "o")),(qif_one (qt_cmp op_lt vr_lt (qv 0) (qe_sub (qv 1) qe_int) (nomark _))),(qv 0)⟩))))
  qss_nil)
  (qss_one (qs_ret (qe_tup (qa_cons (qe_callTy call_tuple_of vc_tuple rfl T.b_tuple boot_tuple (qa_cons (qv 2) qa_nil)) (qa_cons (qe_callTy call_tuple_of vc_tuple rfl T.b_tuple boot_tuple (qa_cons (qv 3) qa_nil)) qa_nil))))))))),?_⟩)
 intro vs H Q E h
 unfold sp_question at h
 split at h
 ·rename_i n c
  obtain⟨⟨c1,c6⟩,h⟩:=h
  refine seq_abs fun R hR=>?_
  walk_at "r"
  refine⟨small_size (by decide),fun p hp=>?_⟩
  subst hR
  refine seq_abs fun R hR=>?_
  walk_at "r"
  refine⟨small_size (by decide),fun q hq=>?_⟩
  subst hR
  have npq:p≠q:=fun e=>by subst e;rw[put_same]at hq;cases hq
  have hq0:H q=none:=((Sub.refl H).put hp).free hq
  refine seq_abs fun R hR=>?_
  walk_at "r"
  refine⟨⟨by omega,by omega⟩,?_⟩
  refine for_rng (fun i σ H2=>∃n' nm w,∃A B:List Int,σ=[some (.int n'),some (.int c),some (.ref p),some (.ref q),nm,w]/\(U.Sub H H2/\H2 p=some (.lst (A.map PV.int))/\H2 q=some (.lst (B.map PV.int)))/\Nms (i:Nat) A/\Nms (i:Nat) B/\(∀x∈A,x∉B)) ?_ ?_ ⟨n,none,none,[],[],rfl,⟨((Sub.refl H).put hp).put hq0,(put_ne npq).trans put_same,put_same⟩,⟨.nil,by simp⟩,⟨.nil,by simp⟩,by simp⟩
  ·rintro σ H2 ⟨n',nm,w,A,B,rfl,⟨s1,eA,eB⟩,hA,hB,ap⟩
   refine⟨trivial,?_⟩
   subst hR
   have ec:((c.toNat:Nat):Int)=c:=by omega
   rw[ec]at hA hB
   have lA:=hA.len c6
   walk_at "r"
   refine⟨_,eB,?_⟩
   by_cases hB0:B=[]
   ·subst hB0
    refine cif_pos rfl ⟨small_size (by decide),fun p3 hp3=>⟨_,(put_ne (ne_none eA hp3)).trans eA,fun p4 hp4=>?_⟩⟩
    have eA3:put H2 p3 (.lst [.int (c - 1)]) p=some (.lst (A.map PV.int)):=(put_ne (ne_none eA hp3)).trans eA
    have s3:=s1.put (o:=.lst [.int (c - 1)]) (s1.free hp3)
    have e3:put H2 p3 (.lst [.int (c - 1)]) p3=some (.lst [.int (c - 1)]):=put_same
    generalize put H2 p3 (.lst [.int (c - 1)])=H3 at *
    refine comp_pure (fun y=>y) (onI fun y=>decide (y<c - 1)) (fun σ=>∃z,σ=[z,some (.int c)]) (by rw[List.length_map];omega) (fun _=>(put_ne (ne_none eA3 hp4)).trans eA3) ?_ ?_ ⟨_,rfl⟩
    ·rintro y hy l σ R ⟨z,rfl⟩ hl kT kF
     obtain⟨k,hk,rfl⟩:=List.mem_map.mp hy
     have e:onI (fun y=>decide (y<c - 1)) (PV.int k)=decide (k<c - 1):=rfl
     rw[e]at kT kF
     walk_at "r"
     refine cif_dec (fun q=>⟨hl,by rw[put_put];exact kT (by simpa using q) _ ⟨_,rfl⟩⟩) (fun q=>kF (by simpa using q) _ ⟨_,rfl⟩)
    rw[ints_filter]
    refine⟨_,put_same,_,(put_ne (ne_none e3 hp4)).trans e3,small_size (by decide),H,s3.put (s3.free hp4),h (A.filter fun y=>decide (y<c - 1)) [c - 1] ⟨⟨hA.up.filter _,fun x hx=>hA.lo x (List.mem_filter.mp hx).1⟩,⟨by simp,fun x hx=>?_⟩,fun x hx z=>?_,by simp⟩⟩
    ·rw[List.mem_singleton]at hx;omega
    ·rw[List.mem_singleton]at z
     have:=of_decide_eq_true (List.mem_filter.mp hx).2
     omega
   ·exact cif_neg (by simpa using hB0) ⟨_,eA,_,eB,small_size (by decide),H,s1,h A B ⟨hA,hB,ap,hB0⟩⟩
  ·rintro G i σ H2 hi ⟨n',nm,w,A,B,rfl,⟨s1,eA,eB⟩,hA,hB,ap⟩ kk
   refine⟨trivial,?_⟩
   have lA:=hA.len (by omega)
   have lB:=hB.len (by omega)
   have grow:∀{L:List Int},Nms (i:Nat) L->Nms ((i+1:Nat):Int) L:=fun hL=>⟨hL.up,fun x hx=>by have:=hL.lo x hx;omega⟩
   have app:∀{L:List Int},Nms (i:Nat) L->Nms ((i+1:Nat):Int) (L++[(i:Int)]):=fun hL=>⟨List.pairwise_append.mpr ⟨hL.up,List.pairwise_singleton _ _,fun a ha b hb=>by rw[List.mem_singleton]at hb;have:=hL.lo a ha;omega⟩,fun x hx=>by
    rcases List.mem_append.mp hx with hx | hx
    ·have:=hL.lo x hx;omega
    ·rw[List.mem_singleton]at hx;omega⟩
   have fresh:∀{L:List Int},Nms (i:Nat) L->(i:Int)∉L:=fun hL z=>by have:=hL.lo _ z;omega
   refine seq_abs fun R hR=>?_
   walk_at "r"
   refine⟨by decide,?_⟩
   subst hR
   refine seq_abs fun R hR=>?_
   walk_at "r"
   refine⟨cdvB (by decide) (by decide),?_⟩
   subst hR
   generalize n'.fmod 5=w1 at *
   generalize n'.fdiv 5=n1 at *
   refine seq_abs fun R hR=>?_
   have mid:∀(bk:St'->PHp->Prop) (A':List Int) (H3:PHp),(U.Sub H H3/\H3 p=some (.lst (A'.map PV.int))/\H3 q=some (.lst (B.map PV.int)))->Nms ((i+1:Nat):Int) A'->(∀x∈A',x∉B)->(w1=2->(i:Int)∉A') ->
     R { nx:=G,rt:=fun v H=>∃H3,U.Sub H3 H/\Q v H3,bk:=bk,ct:=G } [some (.int n1),some (.int c),some (.ref p),some (.ref q),some (.int (i:Nat)),some (.int w1)] H3:=by
    rintro bk A' H3 ⟨t1,tA,tB⟩ nA ap' fr
    subst hR
    walk_at "r"
    refine cif_by (fun q2=>?_) (fun _=>kk _ _ ⟨_,_,_,A',B,rfl,⟨t1,tA,tB⟩,nA,grow hB,ap'⟩)
    refine⟨⟨_,tB⟩,_,tB,small1000 (by rw[List.length_map];omega),kk _ _ ⟨_,_,_,A',B++[(i:Int)],rfl,⟨t1.put hq0,(put_ne npq).trans tA,by rw[put_same,List.map_append];rfl⟩,nA,app hB,fun x hx z=>?_⟩⟩
    rcases List.mem_append.mp z with z | z
    ·exact ap' x hx z
    ·rw[List.mem_singleton]at z
     subst z
     exact fr (by simpa using q2) hx
   have both:∀(bk:St'->PHp->Prop),w1≠2->R { nx:=G,rt:=fun v H=>∃H3,U.Sub H3 H/\Q v H3,bk:=bk,ct:=G } [some (.int n1),some (.int c),some (.ref p),some (.ref q),some (.int (i:Nat)),some (.int w1)] (put H2 p (.lst (A.map PV.int++[.int (i:Nat)]))):=fun bk ne=>by
    refine mid bk (A++[(i:Int)]) _ ⟨s1.put hp,by rw[put_same,List.map_append];rfl,(put_ne npq.symm).trans eB⟩ (app hA) (fun x hx z=>?_) (fun e=>absurd e ne)
    rcases List.mem_append.mp hx with hx | hx
    ·exact ap x hx z
    ·rw[List.mem_singleton]at hx
     subst hx
     exact fresh hB z
   walk_at "r"
   refine cif_by (fun q0=>⟨⟨_,eA⟩,_,eA,small1000 (by rw[List.length_map];omega),both _ ?_⟩) (fun q0=>cif_by (fun q1=>⟨⟨_,eA⟩,_,eA,small1000 (by rw[List.length_map];omega),both _ ?_⟩) (fun q1=>mid _ A H2 ⟨s1,eA,eB⟩ (grow hA) ap fun _=>fresh hA))
   ·have:w1=0:=by simpa using q0
    omega
   ·have:w1=1:=by simpa using q1
    omega
 ·exact h.elim
theorem G_zA(T:Tx K mg t):FnOk' P w K mg base CX0 1 t.a_zA t.d_zA ["_law_shape","_law_names","_law_ends"] sp_upper:=by
 refine okU (k:=0) T.F_zA sc_zA (fun vs H Q E h=>by
  unfold sp_upper at h
  split at h
  ·rfl
  ·exact h.elim) (fun cdv A outer s H E B hr=>⟨_,(qss_cons (qs_setC (i:=3) sc_zA.nd rfl (by walk_at "o") (N2:=["_law_name"]) (nt:=1) (js:=[]) (ck (sc:=defScope s_zA)) rfl (qi_seq (qv 2)) (fun s0 H0 fp ps=>⟨(qg_name (i:=0) (show List.Nodup (["_law_name"]:List Str) by decide +kernel) rfl (by walk_at "o")),qif_nil,(qv 0)⟩))
  (qss_cons (qs_for PassesOwn.never rfl (qi_seq (qv 1)) (qg_name (i:=4) sc_zA.nd rfl (by walk_at "o"))
  (qss_one (qs_for PassesOwn.never rfl (qi_seq (qe_ix (qv 0) qe_int (fun _ _=>rfl))) (qg_tup (n:=2) rfl (qgs_cons (qg_name (i:=5) sc_zA.nd rfl (by walk_at "o")) (qgs_cons (qg_name (i:=6) sc_zA.nd rfl (by walk_at "o")) qgs_nil)))
   (qss_one (qs_if (qt_bool (qw_and (qt_cmp (op_inU hr.units) vr_in (qv 6) (qv 3) (by with_unfolding_all rfl)) (qw_and (qt_cmp (op_inU hr.units) vr_in (qv 5) (qv 1) (by with_unfolding_all rfl)) (qw_and1 (qt_cmp (op_notInU hr.units) vr_in (qv 5) (qv 3) (by with_unfolding_all rfl))))))
    (qss_one (qs_expr (qe_bm PySem.F.slot_list_append PySem.F.type_list_append mt_append vm_append (qv 3) (qa_cons (qv 5) qa_nil))))
    qss_nil)))))
  (qss_one (qs_ret (qe_callTy call_tuple_of vc_tuple rfl T.b_tuple boot_tuple (qa_cons (qe_callB call_sortI vc_sortI rfl T.b_sorted boot_sorted (qa_cons (qv 3) qa_nil)) qa_nil)))))),?_⟩)
 intro vs H Q E h
 unfold sp_upper at h
 split at h
 ·rename_i a v l
  obtain⟨c,ts,bs,L,S,⟨q1,q2,e1,e2,e3⟩,ok,hv,rfl,hL,nS,hS,h⟩:=h
  have t15:=ok.gt.len ok.c6
  have l6:=hL.len ok.c6
  have s6:=sub_len S L nS hS
  refine seq_abs fun R hR=>?_
  walk_at "r"
  show ∀acc,H acc=none->_
  intro p hp
  refine comp_pure (fun y=>y) (fun _=>true) (fun σ=>∃z,σ=[z]) (by rw[List.length_map];omega) (fun _=>trivial) ?_ ?_ ⟨_,rfl⟩
  ·rintro y hy l σ R ⟨z,rfl⟩ hl kT kF
   walk_at "r"
   exact⟨hl,by rw[put_put];exact kT rfl _ ⟨_,rfl⟩⟩
  rw[ints_all]
  subst hR
  have sp:∀o,U.Sub H (put H p o):=fun o=>(Sub.refl H).put hp
  refine seq_abs fun R hR=>?_
  walk_at "r"
  refine(hv.up (sp _)).it fun okv hokv=>?_
  refine for_at (fun i σ H2=>∃k u w F,σ=[some (.ref a),some v,some (.tup (S.map PV.int)),some (.ref p),k,u,w]/\H2=put H p (.lst (F.map PV.int))/\F=My.uTurns (up1 ts L) i S/\F.length≤6+15*i) ?_ ?_ ⟨none,none,none,S,rfl,rfl,rfl,by omega⟩
  ·rintro σ H2 ⟨k,u,w,F,rfl,rfl,hF,hlen⟩
   rw[List.length_map]at hF
   refine⟨hokv _ (hv.up (sp _)),?_⟩
   subst hR
   have iff:∀y,y∈F↔My.Reach (up1 ts L) S y:=fun y=>by rw[hF];exact turnsP (fun x y e=>(mem_up1.mp e).2) hS nS y
   have nd:F.Nodup:=by rw[hF];exact My.uTurns_nodup _ nS
   have inL:∀y∈F,y∈L:=fun y hy=>by
    cases (iff y).mp hy with
    | base h=>exact hS _ h
    | step _ e=>exact(mem_up1.mp e).2
   have f6:=sub_len F L nd inL
   walk_at "r"
   refine⟨F,rfl,by omega,fun r3 ms hr pm sm=>?_⟩
   exact⟨H,(sp _).put ((sp _).free hr),h ms ⟨My.rising_of sm (pm.nodup_iff.mpr nd),fun y=>(pm.mem_iff.trans (iff y)).trans (reach12 hS)⟩⟩
  ·rintro G i y σ H2 hy ⟨k,u,w,F,rfl,rfl,hF,hlen⟩ kk
   have hi:i<L.length:=by have:=(List.getElem?_eq_some_iff.mp hy).1;rwa [List.length_map]at this
   refine⟨hokv _ (hv.up (sp _)),?_⟩
   walk_at "r"
   refine⟨_,sp _ _ _ e1,?_⟩
   rw[at3_1]
   walk_at "r"
   refine⟨_,sp _ _ _ e2,?_⟩
   refine for_at (fun j σ H3=>∃u w F',σ=[some (.ref a),some v,some (.tup (S.map PV.int)),some (.ref p),some y,u,w]/\H3=put H p (.lst (F'.map PV.int))/\F'=(ts.take j).foldl (lStep L) F/\F'.length≤6+15*i+j/\j≤15) ?_ ?_ ⟨u,w,F,rfl,rfl,rfl,by omega,by omega⟩
   ·rintro σ H3 ⟨u,w,F',rfl,rfl,hF',hlen',h15⟩
    rw[List.length_map,List.take_length]at hF'
    refine⟨sp _ _ _ e2,kk _ _ ⟨_,_,_,F',rfl,rfl,?_,?_⟩⟩
    ·rw[uTurns_succ,← hF,← up_fold];exact hF'
    ·rw[List.length_map]at hlen';omega
   ·rintro G' j z σ H3 hz ⟨u,w0,F',rfl,rfl,hF',hlen',h15⟩ kk'
    refine⟨sp _ _ _ e2,?_⟩
    obtain⟨hj,e⟩:=List.getElem?_eq_some_iff.mp hz
    rw[List.length_map]at hj
    rw[List.getElem_map]at e
    subst e
    have hjx:ts[j]?=some ts[j]:=List.getElem?_eq_getElem hj
    have hnx:(ts.take (j+1)).foldl (lStep L) F=lStep L F' ts[j]:=by rw[take_fold hjx,← hF']
    generalize ts[j]=w at *
    unfold prV
    have hsz:(F'.map PV.int).length<sizeLine:=small1000 (by rw[List.length_map];omega)
    unfold lStep at hnx
    have stay:¬(w.2∈F'/\w.1∈L/\w.1∉F')->G' [some (.ref a),some v,some (.tup (S.map PV.int)),some (.ref p),some y,some (.int w.1),some (.int w.2)] (put H p (.lst (F'.map PV.int))):=fun hn=>by
     rw[if_neg hn]at hnx
     exact kk' _ _ ⟨_,_,F',rfl,rfl,hnx.symm,by omega,by omega⟩
    walk_at "r"
    refine⟨flat_ints,?_⟩
    simp only[any_int]
    refine cif_dec (fun m1=>?_) (fun m1=>stay fun h=>m1 h.1)
    refine(hv.up (sp _)).s ⟨flat_ints,?_⟩
    try simp only[any_int]
    refine cif_dec (fun m2=>⟨flat_ints,?_⟩) (fun m2=>stay fun h=>m2 h.2.1)
    try simp only[any_int]
    by_cases m3:w.1∈F'
    ·exact cif_neg (by simp[m3]) (stay fun h=>h.2.2 m3)
    ·rw[if_pos ⟨m1,m2,m3⟩]at hnx
     refine cif_pos (by simp[m3]) ⟨⟨_,rfl⟩,hsz,kk' _ _ ⟨_,_,F'++[w.1],rfl,by rw[put_put,List.map_append];rfl,hnx.symm,?_,by omega⟩⟩
     rw[List.length_append,List.length_singleton];omega
 ·exact h.elim
theorem G_zy(T:Tx K mg t):FnOk' P w K mg base CX0 1 t.a_zy t.d_zy ["_law_shape","_law_names"] sp_llumps:=by
 refine okU (k:=0) T.F_zy sc_zy (fun vs H Q E h=>by
  unfold sp_llumps at h
  split at h
  ·rfl
  ·exact h.elim) (fun cdv A outer s H E B hr=>⟨_,(qss_cons (qs_set (i:=2) sc_zy.nd rfl (by walk_at "o") (qe_lst qa_nil))
  (qss_cons (qs_set (i:=3) sc_zy.nd rfl (by walk_at "o") (qe_callTy call_list_of vc_list rfl T.b_list boot_list (qa_cons (qv 1) qa_nil)))
  (qss_cons (qs_while PassesOwn.never (qt_cmp op_gt vr_gt (qe_callB call_len_seq vc_len rfl T.b_len PySem.boot_len (qa_cons (qv 3) qa_nil)) qe_int (nomark _))
  (qss_cons (qs_set (i:=4) sc_zy.nd rfl (by walk_at "o") (qe_lst (qa_cons (qe_ix (qv 3) qe_int (fun _ _=>rfl)) qa_nil)))
   (qss_cons (qs_for PassesOwn.never rfl (qi_seq (qv 1)) (qg_name (i:=5) sc_zy.nd rfl (by walk_at "o"))
   (qss_one (qs_for PassesOwn.never rfl (qi_seq (qe_ix (qv 0) qe_int (fun _ _=>rfl))) (qg_tup (n:=2) rfl (qgs_cons (qg_name (i:=6) sc_zy.nd rfl (by walk_at "o")) (qgs_cons (qg_name (i:=7) sc_zy.nd rfl (by walk_at "o")) qgs_nil)))
    (qss_one (qs_if (qt_bool (qw_and (qt_cmp (op_inU hr.units) vr_in (qv 6) (qv 1) (by with_unfolding_all rfl)) (qw_and (qt_cmp (op_inU hr.units) vr_in (qv 7) (qv 1) (by with_unfolding_all rfl)) (qw_and1 (qt_cmp (op_neU hr.units) vr_eq (qe_cmp (op_inU hr.units) vr_in (qv 6) (qv 4) (by with_unfolding_all rfl)) (qe_cmp (op_inU hr.units) vr_in (qv 7) (qv 4) (by with_unfolding_all rfl)) (nomark _))))))
     (qss_one (qs_expr (qe_bm PySem.F.slot_list_append PySem.F.type_list_append mt_append vm_append (qv 4) (qa_cons (qe_ix (qe_lst (qa_cons (qv 6) (qa_cons (qv 7) qa_nil))) (qe_callTy call_int1 vc_int rfl T.b_int boot_int (qa_cons (qe_cmp (op_inU hr.units) vr_in (qv 6) (qv 4) (by with_unfolding_all rfl)) qa_nil)) (fun _ _=>rfl)) qa_nil))))
     qss_nil)))))
   (qss_cons (qs_expr (qe_bm PySem.F.slot_list_append PySem.F.type_list_append mt_append vm_append (qv 2) (qa_cons (qe_callTy call_tuple_of vc_tuple rfl T.b_tuple boot_tuple (qa_cons (qe_callB call_sortI vc_sortI rfl T.b_sorted boot_sorted (qa_cons (qv 4) qa_nil)) qa_nil)) qa_nil)))
   (qss_one (qs_setC (i:=3) sc_zy.nd rfl (by walk_at "o") (N2:=["_law_name","_law_lump"]) (nt:=1) (js:=[4]) (ck (sc:=defScope s_zy)) rfl (qi_seq (qv 3)) (fun s0 H0 fp ps=>⟨(qg_name (i:=0) (show List.Nodup (["_law_name","_law_lump"]:List Str) by decide +kernel) rfl (by walk_at "o")),(qif_one (qt_cmp (op_notInU hr.units) vr_in (qv 0) (qv 1) (by with_unfolding_all rfl))),(qv 0)⟩)))))))
  (qss_one (qs_ret (qv 2)))))),?_⟩)
 intro vs H Q E h
 unfold sp_llumps at h
 split at h
 ·rename_i a vv
  obtain⟨c,ts,bs,L,⟨q1,q2,e1,e2,e3⟩,ok,hv,hL,h⟩:=h
  have b15:=ok.gb.len ok.c6
  have l6:=hL.len ok.c6
  refine seq_abs fun R hR=>?_
  walk_at "r"
  refine⟨small_size (by decide),fun o ho=>?_⟩
  subst hR
  refine seq_abs fun R hR=>?_
  walk_at "r"
  have so:=(Sub.refl H).put (o:=.lst []) ho
  refine(hv.up so).s fun p4 hp4=>?_
  subst hR
  have n4o:p4≠o:=fun e=>by subst e;rw[put_same]at hp4;cases hp4
  refine seq_abs fun R hR=>?_
  refine while_by (fun m σ H4=>∃rp u1 u2 u3 u4 told left,σ=[some (.ref a),some vv,some (.ref o),some (.ref rp),u1,u2,u3,u4]/\U.Sub H H4/\H4 rp=some (.lst (left.map PV.int))/\H4 o=some (.lst (told.map tupI))/\rp≠o/\Nms c left/\(∀x∈left,x∈L)/\(∀rest,Lmps (both bs L) left rest->Lmps (both bs L) L (told++rest))/\told.length+left.length≤6/\m=left.length) _ ⟨p4,none,none,none,none,[],L,rfl,so.put (so.free hp4),put_same,(put_ne n4o.symm).trans put_same,n4o,hL,fun x hx=>hx,fun rest hr=>hr,by simpa using l6,rfl⟩ ?_
  rintro m σ H4 ⟨rp,u1,u2,u3,u4,told,left,rfl,s4,hrp,ho4,nro,hLe,inL,hi,hlen,rfl⟩
  walk_at "r"
  refine⟨_,hrp,?_⟩
  cases left with
  | nil =>
   refine cif_neg rfl ?_
   subst hR
   walk_at "r"
   have:=hi [] .nil
   rw[List.append_nil]at this
   exact⟨H4,Sub.refl _,h o told H4 s4 ho4 this (by omega)⟩
  | cons x R' =>
   refine cif_pos (by simp) ⟨_,fun σ' H' hN=>hN,?_⟩
   refine⟨_,hrp,?_⟩
   rw[List.map_cons,atI_c0]
   walk_at "r"
   refine⟨small_size (by decide),fun p hp=>?_⟩
   have nrp:=ne_none hrp hp
   have nop:=ne_none ho4 hp
   have hpH:=s4.free hp
   have xl:x∈L:=inL x List.mem_cons_self
   refine(hv.up (s4.put hpH)).it fun okv hokv=>?_
   refine for_at (fun i σ H5=>∃k u v F,σ=[some (.ref a),some vv,some (.ref o),some (.ref rp),some (.ref p),k,u,v]/\(U.Sub H H5/\H5 rp=some (.lst ((x::R').map PV.int))/\H5 o=some (.lst (told.map tupI))/\H5 p=some (.lst (F.map PV.int)))/\F=My.uTurns (E2 bs L) i [x]/\F.length≤1+15*i) ?_ ?_ ⟨u2,u3,u4,[x],rfl,⟨s4.put hpH,(put_ne nrp).trans hrp,(put_ne nop).trans ho4,put_same⟩,rfl,by simp⟩
   ·rintro σ H5 ⟨k,u,v,F,rfl,⟨s5,r5,o5,p5⟩,hF,hlen5⟩
    rw[List.length_map]at hF
    refine⟨hokv _ (hv.up s5),?_⟩
    have iff:∀y,y∈F↔My.Reach (both bs L) [x] y:=fun y=>by rw[hF];exact lump_turns xl y
    have nd:F.Nodup:=by rw[hF];exact My.uTurns_nodup _ (by simp)
    have inF:∀y∈F,y∈L:=fun y hy=>by
     cases (iff y).mp hy with
     | base h=>rw[List.mem_singleton]at h;rw[h];exact xl
     | step _ e=>exact(mem_both.mp e).2.1
    have f6:=sub_len F L nd inF
    have xF:x∈F:=(iff x).mpr (.base (by simp))
    walk_at "r"
    refine⟨⟨_,o5⟩,F,p5,by omega,fun r ms hr pm sm=>?_⟩
    have o6:put H5 r (.lst (ms.map PV.int)) o=some (.lst (told.map tupI)):=(put_ne (ne_none o5 hr)).trans o5
    have r6:put H5 r (.lst (ms.map PV.int)) rp=some (.lst ((x::R').map PV.int)):=(put_ne (ne_none r5 hr)).trans r5
    have p6:put H5 r (.lst (ms.map PV.int)) p=some (.lst (F.map PV.int)):=(put_ne (ne_none p5 hr)).trans p5
    have s6:U.Sub H (put H5 r (.lst (ms.map PV.int))):=s5.put (s5.free hr)
    generalize put H5 r (.lst (ms.map PV.int))=H6 at *
    have hl7:told.length<6:=by rw[List.length_cons]at hlen;omega
    refine⟨_,o6,small1000 (by rw[List.length_map];omega),?_⟩
    have npo:p≠o:=fun e=>nop e.symm
    have ea:told.map tupI++[PV.tup (ms.map PV.int)]=(told++[ms]).map tupI:=by rw[List.map_append];rfl
    rw[ea]
    have o7:put H6 o (.lst ((told++[ms]).map tupI)) o=some (.lst ((told++[ms]).map tupI)):=put_same
    have r7:put H6 o (.lst ((told++[ms]).map tupI)) rp=some (.lst ((x::R').map PV.int)):=(put_ne nro).trans r6
    have p7:put H6 o (.lst ((told++[ms]).map tupI)) p=some (.lst (F.map PV.int)):=(put_ne npo).trans p6
    have s7:U.Sub H (put H6 o (.lst ((told++[ms]).map tupI))):=s6.put ho
    generalize put H6 o (.lst ((told++[ms]).map tupI))=H7 at *
    refine⟨_,r7,fun acc hacc=>?_⟩
    have o8:∀z,put H7 acc z o=some (.lst ((told++[ms]).map tupI)):=fun z=>(put_ne (ne_none o7 hacc)).trans o7
    have p8:∀z,put H7 acc z p=some (.lst (F.map PV.int)):=fun z=>(put_ne (ne_none p7 hacc)).trans p7
    refine comp_pure (fun y=>y) (onI fun y=>!decide (y∈F)) (fun σ=>∃z,σ=[z,some (.ref p)]) (by rw[List.length_map,List.length_cons];rw[List.length_cons]at hlen;omega) (fun _=>(put_ne (ne_none r7 hacc)).trans r7) ?_ ?_ ⟨_,rfl⟩
    ·rintro y hy l σ R ⟨z,rfl⟩ hl kT kF
     obtain⟨k,hk,rfl⟩:=List.mem_map.mp hy
     have e:onI (fun y=>!decide (y∈F)) (PV.int k)=!decide (k∈F):=rfl
     rw[e]at kT kF
     walk_at "r"
     refine⟨_,p8 _,flat_ints,?_⟩
     simp only[any_int]
     by_cases m:k∈F
     ·exact cif_neg (by simp[m]) (kF (by simp[m]) _ ⟨_,rfl⟩)
     ·exact cif_pos (by simp[m]) ⟨hl,by rw[put_put];exact kT (by simp[m]) _ ⟨_,rfl⟩⟩
    rw[ints_filter]
    have efl:(x::R').filter (fun y=>!decide (y∈F))=R'.filter fun y=>!decide (y∈ms):=by
     rw[List.filter_cons,if_neg (by simp[xF])]
     refine List.filter_congr fun y _=>?_
     rw[Bool.eq_iff_iff]
     simp only[Bool.not_eq_true',decide_eq_false_iff_not,pm.mem_iff]
    rw[efl]
    have lf:(R'.filter fun y=>!decide (y∈ms)).length≤R'.length:=List.length_filter_le _ _
    rw[List.length_cons]at hlen
    refine⟨_,?_,acc,_,_,_,_,told++[ms],R'.filter fun y=>!decide (y∈ms),rfl,s7.put (s7.free hacc),put_same,o8 _,(ne_none o7 hacc).symm,⟨(List.pairwise_cons.mp hLe.up).2.filter _,fun y hy=>hLe.lo y (List.mem_cons_of_mem _ (List.mem_filter.mp hy).1)⟩,fun y hy=>inL y (List.mem_cons_of_mem _ (List.mem_filter.mp hy).1),fun rest hr=>?_,?_,rfl⟩
    ·omega
    ·rw[List.append_assoc]
     exact hi _ (.cons (My.rising_of sm (pm.nodup_iff.mpr nd)) (fun y=>pm.mem_iff.trans (iff y)) hr)
    ·rw[List.length_append,List.length_singleton];omega
   ·rintro G i y σ H5 hy ⟨k,u,v,F,rfl,⟨s5,r5,o5,p5⟩,hF,hlen5⟩ kk
    have hi':i<L.length:=by have:=(List.getElem?_eq_some_iff.mp hy).1;rwa [List.length_map]at this
    refine⟨hokv _ (hv.up s5),?_⟩
    walk_at "r"
    refine⟨_,s5 _ _ e1,?_⟩
    rw[at3_2]
    walk_at "r"
    refine⟨_,s5 _ _ e3,?_⟩
    refine for_at (fun j σ H6=>∃u v F',σ=[some (.ref a),some vv,some (.ref o),some (.ref rp),some (.ref p),some y,u,v]/\(U.Sub H H6/\H6 rp=some (.lst ((x::R').map PV.int))/\H6 o=some (.lst (told.map tupI))/\H6 p=some (.lst (F'.map PV.int)))/\F'=(bs.take j).foldl (bStep L) F/\F'.length≤1+15*i+j/\j≤15) ?_ ?_ ⟨u,v,F,rfl,⟨s5,r5,o5,p5⟩,rfl,by omega,by omega⟩
    ·rintro σ H6 ⟨u,v,F',rfl,hH6,hF',hlen',h15⟩
     rw[List.length_map,List.take_length]at hF'
     refine⟨hH6.1 _ _ e3,kk _ _ ⟨_,_,_,F',rfl,hH6,?_,?_⟩⟩
     ·rw[uTurns_succ,← hF,← lump_fold];exact hF'
     ·rw[List.length_map]at hlen';omega
    ·rintro G' j z σ H6 hz ⟨u,v,F',rfl,⟨s6,r6,o6,p6⟩,hF',hlen',h15⟩ kk'
     refine⟨s6 _ _ e3,?_⟩
     obtain⟨hj,e⟩:=List.getElem?_eq_some_iff.mp hz
     rw[List.length_map]at hj
     rw[List.getElem_map]at e
     subst e
     have hjx:bs[j]?=some bs[j]:=List.getElem?_eq_getElem hj
     have hnx:(bs.take (j+1)).foldl (bStep L) F=bStep L F' bs[j]:=by rw[take_fold hjx,← hF']
     generalize bs[j]=w at *
     unfold prV
     have hsz:(F'.map PV.int).length<sizeLine:=small1000 (by rw[List.length_map];omega)
     have stay:bStep L F' w=F'->G' [some (.ref a),some vv,some (.ref o),some (.ref rp),some (.ref p),some y,some (.int w.1),some (.int w.2)] H6:=fun hn=>by
      rw[hn]at hnx
      exact kk' _ _ ⟨_,_,F',rfl,⟨s6,r6,o6,p6⟩,hnx.symm,by omega,by omega⟩
     have goes:∀(n:Int) (H8:PHp),(U.Sub H H8/\H8 rp=some (.lst ((x::R').map PV.int))/\H8 o=some (.lst (told.map tupI))/\H8 p=some (.lst (F'.map PV.int)))->bStep L F' w=F'++[n]->G' [some (.ref a),some vv,some (.ref o),some (.ref rp),some (.ref p),some y,some (.int w.1),some (.int w.2)] (put H8 p (.lst (F'.map PV.int++[.int n]))):=fun n H8 ⟨t1,t2,t3,t4⟩ hn=>by
      rw[hn]at hnx
      refine kk' _ _ ⟨_,_,F'++[n],rfl,⟨t1.put hpH,(put_ne nrp).trans t2,(put_ne nop).trans t3,by rw[put_same,List.map_append];rfl⟩,hnx.symm,?_,by omega⟩
      rw[List.length_append,List.length_singleton];omega
     walk_at "r"
     refine(hv.up s6).s ⟨flat_ints,?_⟩
     simp only[any_int]
     refine cif_dec (fun m1=>(hv.up s6).s ⟨flat_ints,?_⟩) (fun m1=>stay (by unfold bStep;rw[if_neg fun z=>m1 z.1]))
     try simp only[any_int]
     refine cif_dec (fun m2=>⟨_,p6,flat_ints,_,p6,flat_ints,?_⟩) (fun m2=>stay (by unfold bStep;rw[if_neg fun z=>m2 z.2]))
     rw[any_int (n:=w.2)]
     rw[any_int (n:=w.1)]
     by_cases k1:w.1∈F'<;>by_cases k2:w.2∈F'
     ·exact cif_neg (by simp[k1,k2]) (stay (by unfold bStep;simp[m1,m2,k1,k2]))
     ·refine cif_pos (by simp[k1,k2]) ⟨⟨_,p6⟩,small_size (by decide),fun p1 hp1=>⟨_,(put_ne (ne_none p6 hp1)).trans p6,flat_ints,?_⟩⟩
      have eb:b2n ((F'.map PV.int).any fun z=>deq z (.int w.1))=1:=by rw[any_int];simp[k1,b2n]
      rw[eb,atI2_1]
      exact⟨_,(put_ne (ne_none p6 hp1)).trans p6,hsz,goes w.2 _ ⟨s6.put (s6.free hp1),(put_ne (ne_none r6 hp1)).trans r6,(put_ne (ne_none o6 hp1)).trans o6,(put_ne (ne_none p6 hp1)).trans p6⟩ (by unfold bStep;simp[m1,m2,k1,k2])⟩
     ·refine cif_pos (by simp[k1,k2]) ⟨⟨_,p6⟩,small_size (by decide),fun p1 hp1=>⟨_,(put_ne (ne_none p6 hp1)).trans p6,flat_ints,?_⟩⟩
      have eb:b2n ((F'.map PV.int).any fun z=>deq z (.int w.1))=0:=by rw[any_int];simp[k1,b2n]
      rw[eb,atI2_0]
      exact⟨_,(put_ne (ne_none p6 hp1)).trans p6,hsz,goes w.1 _ ⟨s6.put (s6.free hp1),(put_ne (ne_none r6 hp1)).trans r6,(put_ne (ne_none o6 hp1)).trans o6,(put_ne (ne_none p6 hp1)).trans p6⟩ (by unfold bStep;simp[m1,m2,k1,k2])⟩
     ·exact cif_neg (by simp[k1,k2]) (stay (by unfold bStep;simp[m1,m2,k1,k2]))
 ·exact h.elim
theorem G_zu(T:Tx K mg t):FnOk' P w K mg base CX0 2 t.a_zu t.d_zu ["_law_shape","_law_question_here"] sp_lwanted:=by
 refine okU (k:=1) T.F_zu sc_zu (fun vs H Q E h=>by
  unfold sp_lwanted at h
  split at h
  ·rfl
  ·exact h.elim) (fun cdv A outer s H E B hr=>⟨_,(qss_cons (qs_setC (i:=2) sc_zu.nd rfl (by walk_at "o") (N2:=["_law_name","_law_question_here"]) (nt:=1) (js:=[1]) (ck (sc:=defScope s_zu)) rfl (qi_range1 rfl T.b_range (qa_cons (qe_ix (qv 0) qe_int (fun _ _=>rfl)) qa_nil)) (fun s0 H0 fp ps=>⟨(qg_name (i:=0) (show List.Nodup (["_law_name","_law_question_here"]:List Str) by decide +kernel) rfl (by walk_at "o")),(qif_one (qt_cmp (op_notInU hr.units) vr_in (qv 0) (qe_ix (qv 1) qe_int (fun _ _=>rfl)) (by with_unfolding_all rfl))),(qv 0)⟩))
  (qss_one (qs_ret (qe_call (G_zA T) (hr.mono (by decide)) rfl T.g_zA T.F_zA.kp T.B_zA (qa_cons (qv 0) (qa_cons (qv 2) (qa_cons (qe_ix (qv 1) qe_int (fun _ _=>rfl)) qa_nil))))))),?_⟩)
 intro vs H Q E h
 unfold sp_lwanted at h
 split at h
 ·rename_i a v
  obtain⟨c,ts,bs,A,B,hs,ok,rfl,hq,h⟩:=h
  have c1:=ok.c1
  have c6:=ok.c6
  unfold qV at *
  obtain⟨q1,q2,e1,e2,e3⟩:=id hs
  refine seq_abs fun R hR=>?_
  walk_at "r"
  refine⟨_,e1,?_⟩
  rw[at3_0]
  walk_at "r"
  refine⟨⟨by omega,by omega⟩,fun acc hacc=>?_⟩
  refine comp_pure (fun y=>y) (onI fun y=>!decide (y∈A)) (fun σ=>∃z,σ=[z,some (.tup [.tup (A.map PV.int),.tup (B.map PV.int)])]) (by rw[rng_len];omega) (fun _=>trivial) ?_ ?_ ⟨_,rfl⟩
  ·rintro y hy l σ R ⟨z,rfl⟩ hl kT kF
   obtain⟨k,rfl,k0⟩:=rng_int hy
   have e:onI (fun y=>!decide (y∈A)) (PV.int k)=!decide (k∈A):=rfl
   rw[e]at kT kF
   walk_at "r"
   refine⟨flat_ints,?_⟩
   simp only[any_int]
   by_cases m:k∈A
   ·exact cif_neg (by simp[m]) (kF (by simp[m]) _ ⟨_,rfl⟩)
   ·exact cif_pos (by simp[m]) ⟨hl,by rw[put_put];exact kT (by simp[m]) _ ⟨_,rfl⟩⟩
  rw[rng_ul,ints_filter]
  have en:(ulN c).filter (fun y=>!decide (y∈A))=nin c A:=rfl
  rw[en]
  subst hR
  have s1:=(Sub.refl H).put (o:=.lst ((nin c A).map PV.int)) hacc
  walk_at "r"
  exact⟨c,ts,bs,nin c A,B,hs.up s1,ok,.inr ⟨acc,rfl,put_same⟩,rfl,nin_nms,hq.b.nd,hq.sub,fun M u=>⟨H,s1,h M u.up u.iff⟩⟩
 ·exact h.elim
theorem G_zJ(T:Tx K mg t):FnOk' P w K mg base CX0 7 t.a_zJ t.d_zJ ["drawing","question"] (sp_wanted t):=by
 refine okU (k:=6) T.F_zJ sc_zJ (fun vs H Q E h=>by
  unfold sp_wanted at h
  split at h
  ·rfl
  ·exact h.elim) (fun cdv A outer s H E B hr=>⟨_,(qss_cons (qs_set (i:=2) sc_zJ.nd rfl (by walk_at "o") (qe_call (G_zn T) (hr.mono (by decide)) rfl T.g_zn T.F_zn.kp T.B_zn (qa_cons (qv 0) (qa_cons (qv 1) qa_nil))))
  (qss_one (qs_ret (qe_tup (qa_cons (qv 2) (qa_cons (qe_meth (qv 0) T.cl_Drawing T.m_zh (G_zh T) (hr.mono (by decide)) T.B_zh (qa_cons (qv 2) qa_nil)) qa_nil)))))),?_⟩)
 intro vs H Q E h
 unfold sp_wanted at h
 split at h
 ·rename_i x v
  obtain⟨c,ts,bs,A,B,rfl,⟨dx,hx⟩,ok,hq,h⟩:=h
  unfold qV at *
  walk_at "r"
  refine⟨c,ts,bs,A,B,rfl,⟨dx,hx⟩,ok,hq,fun W up iff=>?_⟩
  have nW:=want_nms hq up iff
  refine⟨⟨_,_,hx,rfl⟩,dx,c,ts,bs,W,hx,rfl,nW,⟨ok.c1,ok.c6⟩,ok.gb,fun r Ls hr hLm l6 hM=>⟨small_size (by decide),_,Sub.refl _,h W Ls r _ ((Sub.refl H).put hr) ⟨nW,iff,hLm⟩ put_same l6⟩⟩
 ·exact h.elim
theorem G_zB(T:Tx K mg t):FnOk' P w K mg base (CXU P w) 2 t.a_zc t.d_zc ["self","names"] (sp_needsetX t):=by
 refine okX (k:=1) T.F_zc sc_zc (fun vs H Q E h=>by
  unfold sp_needsetX at h
  split at h
  ·rfl
  ·exact h.elim) (fun cdv A outer s H0 E0 vs H Q E hr hE h=>⟨_,(qss_one (qs_if (qt_not (qt_val (qe_call (G_zI T) (hr.mono (by decide)) rfl T.g_zI T.F_zI.kp T.B_zI (qa_cons (qe_fld (qv 0) T.cl_Drawing T.nf_Drawing_count rfl) (qa_cons (qv 1) qa_nil)))))
  (qss_one (qs_raise rfl plain_cx hE rfl T.x_NoName rfl T.g_NoName))
  qss_nil)),?_⟩)
 unfold sp_needsetX at h
 split at h
 ·rename_i x l
  obtain⟨c,ts,bs,L,⟨dx,hx⟩,rfl,hY,hN⟩:=h
  walk_at "r"
  refine⟨_,_,_,hx,rfl,L,rfl,fun n=>?_,fun n=>?_⟩
  ·exact⟨H,Sub.refl _,hY n⟩
  ·exact hN n
 ·exact h.elim
theorem G_zw(T:Tx K mg t):FnOk' P w K mg base (CXU P w) 3 t.a_zC t.d_zC ["drawing","sets"] (sp_needsetsX t):=by
 refine okX (k:=2) T.F_zC sc_zC (fun vs H Q E h=>by
  unfold sp_needsetsX at h
  split at h
  ·rfl
  ·exact h.elim) (fun cdv A outer s H0 E0 vs H Q E hr hE h=>⟨_,(qss_one (qs_for (lv_po rfl) rfl (qi_seq (qv 1)) (qg_name (i:=2) sc_zC.nd rfl (by walk_at "o"))
  (qss_one (qs_expr (qe_methX rfl plain_cx hE (qv 0) T.cl_Drawing T.m_zc (G_zB T) (hr.mono (by decide)) T.B_zc (qa_cons (qv 2) qa_nil)))))),?_⟩)
 unfold sp_needsetsX at h
 split at h
 ·rename_i x a
  obtain⟨c,ts,bs,A,B,⟨dx,hx⟩,ha,h,hN⟩:=h
  walk_at "r"
  refine⟨_,ha,?_⟩
  refine for_at (fun i σ H2=>∃z,σ=[some (.ref x),some (.ref a),z]/\H2=H/\(1≤i->Nms c A)/\(2≤i->Nms c B)) ?_ ?_ ⟨none,rfl,rfl,fun z=>absurd z (by omega),fun z=>absurd z (by omega)⟩
  ·rintro σ H2 ⟨z,rfl,rfl,h1,h2⟩
   exact⟨ha,H2,Sub.refl _,h (h1 (by simp)) (h2 (by simp))⟩
  ·rintro G i y σ H2 hy ⟨z,rfl,rfl,h1,h2⟩ kk
   refine⟨ha,?_⟩
   match i,hy with
   | 0,hy =>
    cases hy
    walk_at "r"
    exact⟨⟨_,_,hx,rfl⟩,c,ts,bs,A,⟨_,hx⟩,rfl,fun n=>kk _ _ ⟨_,rfl,rfl,fun _=>n,fun z=>absurd z (by omega)⟩,fun n=>hN fun z=>n z.1⟩
   | 1,hy =>
    cases hy
    walk_at "r"
    exact⟨⟨_,_,hx,rfl⟩,c,ts,bs,B,⟨_,hx⟩,rfl,fun n=>kk _ _ ⟨_,rfl,rfl,fun _=>h1 (by omega),fun _=>n⟩,fun n=>hN fun z=>n z.2⟩
   | i+2,hy=>cases hy
 ·exact h.elim
theorem G_zp(T:Tx K mg t):FnOk' P w K mg base (CXU P w) 1 t.a_zv t.d_zv ["sets"] (sp_needapartX t):=by
 refine okX (k:=0) T.F_zv sc_zv (fun vs H Q E h=>by
  unfold sp_needapartX at h
  split at h
  ·rfl
  ·exact h.elim) (fun cdv A outer s H0 E0 vs H Q E hr hE h=>⟨_,(qss_cons (qs_set (i:=1) sc_zv.nd rfl (by walk_at "o") (qe_lst qa_nil))
  (qss_cons (qs_for (lv_po rfl) rfl (qi_seq (qv 0)) (qg_name (i:=2) sc_zv.nd rfl (by walk_at "o"))
  (qss_one (qs_expr (qe_bm PySem.F.slot_list_extend PySem.F.type_list_extend mt_extendT vm_extT (qv 1) (qa_cons (qv 2) qa_nil)))))
  (qss_one (qs_if (qt_cmp (op_neU hr.units) vr_eq (qe_len_setJ rfl rfl T.b_len rfl T.b_set boot_set (qv 1)) (qe_callB call_len_seq vc_len rfl T.b_len PySem.boot_len (qa_cons (qv 1) qa_nil)) (nomark _))
  (qss_one (qs_raise rfl plain_cx hE rfl T.x_NoSets rfl T.g_NoSets))
  qss_nil)))),?_⟩)
 unfold sp_needapartX at h
 split at h
 ·rename_i a
  obtain⟨c,A,B,ha,hA,hB,hc,hY,hN⟩:=h
  have lA:=hA.len hc
  have lB:=hB.len hc
  walk_at "r"
  refine⟨small_size (by decide),fun p hp=>⟨_,(put_ne (ne_none ha hp)).trans ha,?_⟩⟩
  have nap:=ne_none ha hp
  have hpa:∀o,put H p o a=some (.lst [.tup (A.map PV.int),.tup (B.map PV.int)]):=fun o=>(put_ne nap).trans ha
  have step:∀(M N:List Int),M.length≤6->N.length≤6->((M.map PV.int).length+(N.map PV.int).length≤sizeLine):=fun M N h1 h2=>small_size (by rw[List.length_map,List.length_map];omega)
  refine for_at (fun i σ H2=>∃z,σ=[some (.ref a),some (.ref p),z]/\H2=put H p (.lst ((match i with | 0=>[] | 1=>A | _=>A++B).map PV.int))) ?_ ?_ ⟨none,rfl,rfl⟩
  ·rintro σ H2 ⟨z,rfl,rfl⟩
   refine⟨hpa _,?_⟩
   walk_at "r"
   have ng:∀y∈A++B,0≤y/\y<6:=fun y hy=>by
    rcases List.mem_append.mp hy with q | q
    ·have:=hA.lo y q;omega
    ·have:=hB.lo y q;omega
   have n6:∀n∈(A++B).map Int.toNat,n<6:=fun n hn=>by
    obtain⟨z,hz,rfl⟩:=List.mem_map.mp hn
    have:=ng z hz;omega
   refine⟨(A++B).map Int.toNat,by rw[nats_of ng],n6,?_⟩
   by_cases ap:∀x∈A,x∉B
   ·have nd:(A++B).Nodup:=List.nodup_append.mpr ⟨hA.nd,hB.nd,fun x hx y hy e=>ap x hx (e▸hy)⟩
    have nd2:((A++B).map Int.toNat).Nodup:=by
     rw[List.nodup_iff_pairwise_ne,List.pairwise_map]
     refine List.Pairwise.imp_of_mem (fun {x y} hx hy hxy=>?_) (List.nodup_iff_pairwise_ne.mp nd)
     have h1:=ng x hx
     have h2:=ng y hy
     omega
    rw[lof_len n6 nd2]
    exact cif_neg (by simp) ⟨H,Sub.put (Sub.refl _) hp,hY ap⟩
   ·have nd2:¬((A++B).map Int.toNat).Nodup:=fun nd2=>ap fun x hx hy=>by
     rw[List.map_append]at nd2
     exact(List.nodup_append.mp nd2).2.2 x.toNat (List.mem_map.mpr ⟨x,hx,rfl⟩) x.toNat (List.mem_map.mpr ⟨x,hy,rfl⟩) rfl
    have lt:=lof_two n6 nd2
    rw[List.length_map]at lt
    refine cif_pos (by simp at lt ⊢;omega) (hN ap _ (Sub.put (Sub.refl _) hp))
  ·rintro G i y σ H2 hy ⟨z,rfl,rfl⟩ kk
   refine⟨hpa _,?_⟩
   match i,hy with
   | 0,hy =>
    cases hy
    walk_at "r"
    exact⟨⟨_,rfl⟩,small_size (by rw[List.length_map];omega),kk _ _ ⟨_,rfl,by rw[put_put];rfl⟩⟩
   | 1,hy =>
    cases hy
    walk_at "r"
    exact⟨⟨_,rfl⟩,step A B lA lB,kk _ _ ⟨_,rfl,by rw[put_put,← List.map_append];rfl⟩⟩
   | i+2,hy=>cases hy
 ·exact h.elim
theorem G_zf(T:Tx K mg t):FnOk' P w K mg base (CXU P w) 4 t.a_zg t.d_zg ["drawing","question"] (sp_needqX t):=by
 refine okX (k:=3) T.F_zg sc_zg (fun vs H Q E h=>by
  unfold sp_needqX at h
  split at h
  ·rfl
  ·exact h.elim) (fun cdv A outer s H0 E0 vs H Q E hr hE h=>⟨_,(qss_cons (qs_expr (qe_callX rfl plain_cx hE (G_zw T) (hr.mono (by decide)) rfl T.g_zC T.F_zC.kp T.B_zC (qa_cons (qv 0) (qa_cons (qe_lst (qa_cons (qe_ix (qv 1) qe_int (fun _ _=>rfl)) (qa_cons (qe_ix (qv 1) qe_int (fun _ _=>rfl)) qa_nil))) qa_nil))))
  (qss_cons (qs_expr (qe_callX rfl plain_cx hE (G_zp T) (hr.mono (by decide)) rfl T.g_zv T.F_zv.kp T.B_zv (qa_cons (qe_lst (qa_cons (qe_ix (qv 1) qe_int (fun _ _=>rfl)) (qa_cons (qe_ix (qv 1) qe_int (fun _ _=>rfl)) qa_nil))) qa_nil)))
  (qss_one (qs_if (qt_cmp (op_eqU hr.units) vr_eq (qe_callB call_len_seq vc_len rfl T.b_len PySem.boot_len (qa_cons (qe_ix (qv 1) qe_int (fun _ _=>rfl)) qa_nil)) qe_int (nomark _))
  (qss_one (qs_raise rfl plain_cx hE rfl T.x_NoSets rfl T.g_NoSets))
  qss_nil)))),?_⟩)
 unfold sp_needqX at h
 split at h
 ·rename_i x v
  obtain⟨c,ts,bs,A,B,rfl,⟨dx,hx⟩,hc,hY,hN1,hN2⟩:=h
  unfold qV at *
  walk_at "r"
  refine⟨small_size (by decide),fun p hp=>⟨c,ts,bs,A,B,⟨dx,(put_ne (ne_none hx hp)).trans hx⟩,rfl,fun nA nB=>?_,fun n=>hN1 n _ ((Sub.refl H).put hp)⟩⟩
  have s1:=(Sub.refl H).put (o:=.lst [.tup (A.map PV.int),.tup (B.map PV.int)]) hp
  refine⟨small_size (by decide),fun q hq'=>⟨c,A,B,rfl,nA,nB,hc,fun ap=>?_,fun n H1 sH=>hN2 nA nB (fun z=>n z.1) _ ((s1.put (s1.free hq')).trans sH)⟩⟩
  by_cases ne:B=[]
  ·subst ne
   exact cif_pos rfl (hN2 nA nB (fun z=>z.2 rfl) _ (s1.put (s1.free hq')))
  ·exact cif_neg (by simpa using ne) ⟨H,s1.put (s1.free hq'),hY ⟨nA,nB,ap,ne⟩⟩
 ·exact h.elim
theorem G_zi(T:Tx K mg t):FnOk' P w K mg base (CXU P w) 6 t.a_zn t.d_zn ["drawing","question"] (sp_wantnX t):=by
 refine okX (k:=5) T.F_zn sc_zn (fun vs H Q E h=>by
  unfold sp_wantnX at h
  split at h
  ·rfl
  ·exact h.elim) (fun cdv A outer s H0 E0 vs H Q E hr hE h=>⟨_,(qss_cons (qs_expr (qe_callX rfl plain_cx hE (G_zf T) (hr.mono (by decide)) rfl T.g_zg T.F_zg.kp T.B_zg (qa_cons (qv 0) (qa_cons (qv 1) qa_nil))))
  (qss_cons (qs_set (i:=2) sc_zn.nd rfl (by walk_at "o") (qe_call (G_zD T) (hr.mono (by decide)) rfl T.g_zD T.F_zD.kp T.B_zD (qa_cons (qe_call (G_zr T) (hr.mono (by decide)) rfl T.g_zr T.F_zr.kp T.B_zr (qa_cons (qe_fld (qv 0) T.cl_Drawing T.nf_Drawing_count rfl) qa_nil)) (qa_cons (qe_ix (qv 1) qe_int (fun _ _=>rfl)) qa_nil))))
  (qss_one (qs_ret (qe_meth (qe_meth (qv 0) T.cl_Drawing T.m_zk (G_zk T) (hr.mono (by decide)) T.B_zk (qa_cons (qv 2) qa_nil)) T.cl_Drawing T.m_za (G_za T) (hr.mono (by decide)) T.B_za (qa_cons (qe_ix (qv 1) qe_int (fun _ _=>rfl)) qa_nil)))))),?_⟩)
 unfold sp_wantnX at h
 split at h
 ·rename_i x v
  obtain⟨c,ts,bs,A,B,rfl,⟨dx,hx⟩,ok,h,hN⟩:=h
  have c1:=ok.c1
  have c6:=ok.c6
  unfold qV at *
  walk_at "r"
  refine⟨c,ts,bs,A,B,rfl,⟨_,hx⟩,c6,fun hq=>?_,hN⟩
  refine⟨_,_,_,hx,rfl,⟨by omega,by omega⟩,ulN c,A,rfl,rfl,by unfold ulN;rw[List.length_map,List.length_range];omega,?_⟩
  have en:(ulN c).filter (fun y=>!decide (y∈A))=nin c A:=rfl
  rw[en]
  refine⟨⟨_,_,hx,rfl⟩,c,ts,bs,nin c A,⟨dx,hx⟩,rfl,ok,nin_nms,fun y H1 s1 ⟨dy,hy⟩=>?_⟩
  have ok2:=ok.filter (FT 0 (nin c A)) (FB 0 (nin c A))
  refine⟨⟨_,_,hy,rfl⟩,c,_,B,⟨_,_,hy⟩,rfl,hq.b,⟨c1,c6⟩,ok2.gt,fun M up iff=>⟨H,s1,h hq M up iff⟩⟩
 ·exact h.elim
theorem G_zF(T:Tx K mg t):FnOk' P w K mg base (CXU P w) 7 t.a_zJ t.d_zJ ["drawing","question"] (sp_wantedX t):=by
 refine okX (k:=6) T.F_zJ sc_zJ (fun vs H Q E h=>by
  unfold sp_wantedX at h
  split at h
  ·rfl
  ·exact h.elim) (fun cdv A outer s H0 E0 vs H Q E hr hE h=>⟨_,(qss_cons (qs_set (i:=2) sc_zJ.nd rfl (by walk_at "o") (qe_callX rfl plain_cx hE (G_zi T) (hr.mono (by decide)) rfl T.g_zn T.F_zn.kp T.B_zn (qa_cons (qv 0) (qa_cons (qv 1) qa_nil))))
  (qss_one (qs_ret (qe_tup (qa_cons (qv 2) (qa_cons (qe_meth (qv 0) T.cl_Drawing T.m_zh (G_zh T) (hr.mono (by decide)) T.B_zh (qa_cons (qv 2) qa_nil)) qa_nil)))))),?_⟩)
 unfold sp_wantedX at h
 split at h
 ·rename_i x v
  obtain⟨c,ts,bs,A,B,rfl,⟨dx,hx⟩,ok,h,hN⟩:=h
  unfold qV at *
  walk_at "r"
  refine⟨c,ts,bs,A,B,rfl,⟨dx,hx⟩,ok,fun hq W up iff=>?_,hN⟩
  have nW:=want_nms hq up iff
  refine⟨⟨_,_,hx,rfl⟩,dx,c,ts,bs,W,hx,rfl,nW,⟨ok.c1,ok.c6⟩,ok.gb,fun r Ls hr hLm l6 hM=>⟨small_size (by decide),_,Sub.refl _,h hq W Ls r _ hr ((Sub.refl H).put hr) ⟨nW,iff,hLm⟩ put_same l6⟩⟩
 ·exact h.elim
theorem G_zl(T:Tx K mg t):FnOk' P w K mg base CX0 1 t.a_zl t.d_zl ["_law_count","_law_names"] sp_isnames:=by
 refine okU (k:=0) T.F_zl sc_zl (fun vs H Q E h=>by
  unfold sp_isnames at h
  split at h
  ·rfl
  ·exact h.elim) (fun cdv A outer s H E B hr=>⟨_,(qss_cons (qs_for PassesOwn.never rfl (qi_range1 rfl T.b_range (qa_cons (qe_callB call_len_seq vc_len rfl T.b_len PySem.boot_len (qa_cons (qv 1) qa_nil)) qa_nil)) (qg_name (i:=2) sc_zl.nd rfl (by walk_at "o"))
  (qss_one (qs_if (qt_bool (qw_or (qt_cmp op_lt vr_lt (qe_ix (qv 1) (qv 2) (fun _ _=>rfl)) qe_int (nomark _)) (qw_or (qt_cmp op_ge vr_ge (qe_ix (qv 1) (qv 2) (fun _ _=>rfl)) (qv 0) (nomark _)) (qw_or1 (qt_bool (qw_and (qt_cmp op_gt vr_gt (qv 2) qe_int (nomark _)) (qw_and1 (qt_cmp op_le vr_le (qe_ix (qv 1) (qv 2) (fun _ _=>rfl)) (qe_ix (qv 1) (qe_sub (qv 2) qe_int) (fun _ _=>rfl)) (nomark _)))))))))
   (qss_one (qs_ret qe_bl))
   qss_nil)))
  (qss_one (qs_ret qe_bl))),?_⟩)
 intro vs H Q E h
 unfold sp_isnames at h
 split at h
 ·rename_i c l
  obtain⟨L,rfl,hl,h⟩:=h
  have hY:Nms c L->Q (.bl true) H:=fun n=>h true ⟨fun _=>n,fun _=>rfl⟩
  have hN:¬Nms c L->Q (.bl false) H:=fun n=>h false ⟨fun z=>absurd z (by decide),fun z=>absurd z n⟩
  walk_at "r"
  rw[List.length_map]
  refine⟨⟨by omega,by omega⟩,?_⟩
  refine for_rng (fun i σ H2=>∃z,σ=[some (.int c),some (.tup (L.map PV.int)),z]/\H2=H/\Nms c (L.take i)) ?_ ?_ ⟨none,rfl,rfl,⟨.nil,by simp⟩⟩
  ·rintro σ H2 ⟨z,rfl,rfl,hn⟩
   rw[Int.toNat_natCast,List.take_length]at hn
   exact⟨trivial,H2,Sub.refl _,hY hn⟩
  ·rintro G i σ H2 hi ⟨z,rfl,rfl,hn⟩ kk
   refine⟨trivial,?_⟩
   have hi':i<L.length:=by rw[Int.toNat_natCast]at hi;exact hi
   have tk:L.take (i+1)=L.take i++[L[i]]:=by rw[List.take_add_one,List.getElem?_eq_getElem hi'];rfl
   have at1:atI (L.map PV.int) ((i:Nat):Int)=some (.int L[i]):=by rw[atI_at (by rw[List.length_map];exact hi'),List.getElem_map]
   walk_at "r"
   rw[at1]
   walk_at "r"
   by_cases h0:L[i]<0
   ·exact cif_pos (by simpa using h0) ⟨H2,Sub.refl _,hN fun n=>by have:=n.lo _ (List.getElem_mem hi');omega⟩
   refine cif_neg (by simpa using h0) ?_
   by_cases h1:c≤L[i]
   ·exact cif_pos (by simpa using h1) ⟨H2,Sub.refl _,hN fun n=>by have:=n.lo _ (List.getElem_mem hi');omega⟩
   refine cif_neg (by simpa using h1) ?_
   have grow:(∀a∈L.take i,a<L[i])->Nms c (L.take (i+1)):=fun ha=>by
    rw[tk]
    refine⟨List.pairwise_append.mpr ⟨hn.up,List.pairwise_singleton _ _,fun a h2 b hb=>?_⟩,fun x hx=>?_⟩
    ·rw[List.mem_singleton]at hb;rw[hb];exact ha a h2
    ·rcases List.mem_append.mp hx with hx | hx
     ·exact hn.lo x hx
     ·rw[List.mem_singleton]at hx;omega
   by_cases hz:i=0
   ·subst hz
    exact cif_neg (by simp) (kk _ _ ⟨_,rfl,rfl,grow (by simp)⟩)
   ·refine cif_pos (by simp;omega) ?_
    have hp:i - 1<L.length:=by omega
    have at2:atI (L.map PV.int) (((i:Nat):Int) - 1)=some (.int L[i - 1]):=by
     rw[show((i:Nat):Int) - 1=((i - 1:Nat):Int) by omega,atI_at (by rw[List.length_map];exact hp),List.getElem_map]
    rw[at2]
    walk_at "r"
    by_cases h2:L[i]≤L[i - 1]
    ·refine cif_pos (by simpa using h2) ⟨H2,Sub.refl _,hN fun n=>?_⟩
     have:=List.pairwise_iff_getElem.mp n.up (i - 1) i hp hi' (by omega)
     omega
    ·refine cif_neg (by simpa using h2) (kk _ _ ⟨_,rfl,rfl,grow fun a ha=>?_⟩)
     obtain⟨j,hj,e⟩:=List.mem_iff_getElem.mp ha
     rw[List.getElem_take]at e
     rw[List.length_take]at hj
     by_cases hj1:j=i - 1
     ·subst hj1;omega
     ·have lj:j<(L.take i).length:=by rw[List.length_take];omega
      have l1:i - 1<(L.take i).length:=by rw[List.length_take];omega
      have:=List.pairwise_iff_getElem.mp hn.up j (i - 1) lj l1 (by omega)
      rw[List.getElem_take,List.getElem_take]at this
      omega
 ·exact h.elim
theorem G_zt(T:Tx K mg t):FnOk' P w K mg base CX0 1 t.a_zt t.d_zt ["_law_question_here","_law_number","_law_count"] sp_spoilt:=by
 refine okU (k:=0) T.F_zt sc_zt (fun vs H Q E h=>by
  unfold sp_spoilt at h
  split at h
  ·rfl
  ·exact h.elim) (fun cdv A outer s H E B hr=>⟨_,(qss_cons (qs_asg (qv 0) (qg_tup (n:=2) rfl (qgs_cons (qg_name (i:=3) sc_zt.nd rfl (by walk_at "o")) (qgs_cons (qg_name (i:=4) sc_zt.nd rfl (by walk_at "o")) qgs_nil))))
  (qss_cons (qs_set (i:=5) sc_zt.nd rfl (by walk_at "o") (qe_mod (qv 1) qe_int))
  (qss_cons (qs_set (i:=1) sc_zt.nd rfl (by walk_at "o") (qe_fdiv (qv 1) qe_int))
  (qss_cons (qs_if (qt_cmp (op_eqU hr.units) vr_eq (qv 5) qe_int (nomark _))
  (qss_one (qs_set (i:=4) sc_zt.nd rfl (by walk_at "o") (qe_tup qa_nil)))
  qss_nil)
  (qss_cons (qs_if (qt_cmp (op_eqU hr.units) vr_eq (qv 5) qe_int (nomark _))
  (qss_one (qs_set (i:=3) sc_zt.nd rfl (by walk_at "o") (qe_callTy call_tuple_of vc_tuple rfl T.b_tuple boot_tuple (qa_cons (qe_callB call_sortI vc_sortI rfl T.b_sorted boot_sorted (qa_cons (qe_cat (qe_callTy call_list_of vc_list rfl T.b_list boot_list (qa_cons (qv 3) qa_nil)) (qe_callTy call_list_of vc_list rfl T.b_list boot_list (qa_cons (qe_sliceT (qv 4) qo_none (qo_some qe_int)) qa_nil))) qa_nil)) qa_nil))))
  qss_nil)
  (qss_cons (qs_if (qt_cmp (op_eqU hr.units) vr_eq (qv 5) qe_int (nomark _))
  (qss_one (qs_set (i:=3) sc_zt.nd rfl (by walk_at "o") (qe_catT (qv 3) (qe_tup (qa_cons (qe_add (qv 2) (qe_mod (qv 1) qe_int)) qa_nil)))))
  qss_nil)
  (qss_cons (qs_if (qt_cmp (op_eqU hr.units) vr_eq (qv 5) qe_int (nomark _))
  (qss_one (qs_set (i:=4) sc_zt.nd rfl (by walk_at "o") (qe_catT (qe_tup (qa_cons (qe_neg qe_int) qa_nil)) (qv 4))))
  qss_nil)
  (qss_cons (qs_if (qt_cmp (op_eqU hr.units) vr_eq (qv 5) qe_int (nomark _))
  (qss_one (qs_set (i:=4) sc_zt.nd rfl (by walk_at "o") (qe_catT (qv 4) (qe_sliceT (qv 4) (qo_some (qe_neg qe_int)) qo_none))))
  qss_nil)
  (qss_cons (qs_if (qt_cmp (op_eqU hr.units) vr_eq (qv 5) qe_int (nomark _))
  (qss_one (qs_set (i:=3) sc_zt.nd rfl (by walk_at "o") (qe_rvR rfl rfl T.b_tuple rfl T.b_reversed rfl T.b_range boot_tuple (qv 2))))
  qss_nil)
  (qss_cons (qs_if (qt_cmp (op_eqU hr.units) vr_eq (qv 5) qe_int (nomark _))
  (qss_one (qs_set (i:=3) sc_zt.nd rfl (by walk_at "o") (qe_tupR rfl rfl T.b_tuple rfl T.b_range boot_tuple (qv 2))))
  qss_nil)
  (qss_one (qs_ret (qe_tup (qa_cons (qv 3) (qa_cons (qv 4) qa_nil))))))))))))))),?_⟩)
 intro vs H Q E h
 unfold sp_spoilt at h
 split at h
 ·rename_i v n c
  obtain⟨A,B,rfl,⟨c1,c6⟩,lA,lB,h⟩:=h
  unfold qV at *
  refine seq_abs fun R hR=>?_
  walk_at "r"
  subst hR
  refine seq_abs fun R hR=>?_
  walk_at "r"
  refine⟨by decide,?_⟩
  subst hR
  refine seq_abs fun R hR=>?_
  walk_at "r"
  refine⟨cdvB (by decide) (by decide),?_⟩
  subst hR
  generalize n.fmod 7=w at *
  generalize n.fdiv 7=m at *
  refine seq_abs fun R hR=>?_
  have key:∀(A1 B1:List Int) (H1:PHp),U.Sub H H1->A1.length≤7->B1.length≤7->R { nx:=fun _ H=>∃H3,U.Sub H3 H/\Q .non H3,rt:=fun v H=>∃H3,U.Sub H3 H/\Q v H3 } [some (PV.tup [PV.tup (List.map PV.int A),PV.tup (List.map PV.int B)]),some (.int m),some (.int c),some (.tup (List.map PV.int A1)),some (.tup (List.map PV.int B1)),some (.int w)] H1:=fun A1 B1 H1 s1 la1 lb1=>by
   subst hR
   refine seq_abs fun R hR=>?_
   have key:∀(A2 B2:List Int) (H2:PHp),U.Sub H H2->A2.length≤8->B2.length≤8->R { nx:=fun _ H=>∃H3,U.Sub H3 H/\Q .non H3,rt:=fun v H=>∃H3,U.Sub H3 H/\Q v H3 } [some (PV.tup [PV.tup (List.map PV.int A),PV.tup (List.map PV.int B)]),some (.int m),some (.int c),some (.tup (List.map PV.int A2)),some (.tup (List.map PV.int B2)),some (.int w)] H2:=fun A2 B2 H2 s2 la2 lb2=>by
    subst hR
    refine seq_abs fun R hR=>?_
    have key:∀(A3 B3:List Int) (H3:PHp),U.Sub H H3->A3.length≤9->B3.length≤9->R { nx:=fun _ H=>∃H3,U.Sub H3 H/\Q .non H3,rt:=fun v H=>∃H3,U.Sub H3 H/\Q v H3 } [some (PV.tup [PV.tup (List.map PV.int A),PV.tup (List.map PV.int B)]),some (.int m),some (.int c),some (.tup (List.map PV.int A3)),some (.tup (List.map PV.int B3)),some (.int w)] H3:=fun A3 B3 H3 s3 la3 lb3=>by
     subst hR
     refine seq_abs fun R hR=>?_
     have key:∀(A4 B4:List Int) (H4:PHp),U.Sub H H4->A4.length≤10->B4.length≤10->R { nx:=fun _ H=>∃H3,U.Sub H3 H/\Q .non H3,rt:=fun v H=>∃H3,U.Sub H3 H/\Q v H3 } [some (PV.tup [PV.tup (List.map PV.int A),PV.tup (List.map PV.int B)]),some (.int m),some (.int c),some (.tup (List.map PV.int A4)),some (.tup (List.map PV.int B4)),some (.int w)] H4:=fun A4 B4 H4 s4 la4 lb4=>by
      subst hR
      refine seq_abs fun R hR=>?_
      have key:∀(A5 B5:List Int) (H5:PHp),U.Sub H H5->A5.length≤11->B5.length≤11->R { nx:=fun _ H=>∃H3,U.Sub H3 H/\Q .non H3,rt:=fun v H=>∃H3,U.Sub H3 H/\Q v H3 } [some (PV.tup [PV.tup (List.map PV.int A),PV.tup (List.map PV.int B)]),some (.int m),some (.int c),some (.tup (List.map PV.int A5)),some (.tup (List.map PV.int B5)),some (.int w)] H5:=fun A5 B5 H5 s5 la5 lb5=>by
       subst hR
       refine seq_abs fun R hR=>?_
       have key:∀(A6 B6:List Int) (H6:PHp),U.Sub H H6->A6.length≤12->B6.length≤12->R { nx:=fun _ H=>∃H3,U.Sub H3 H/\Q .non H3,rt:=fun v H=>∃H3,U.Sub H3 H/\Q v H3 } [some (PV.tup [PV.tup (List.map PV.int A),PV.tup (List.map PV.int B)]),some (.int m),some (.int c),some (.tup (List.map PV.int A6)),some (.tup (List.map PV.int B6)),some (.int w)] H6:=fun A6 B6 H6 s6 la6 lb6=>by
        subst hR
        refine seq_abs fun R hR=>?_
        have key:∀(A7 B7:List Int) (H7:PHp),U.Sub H H7->A7.length≤13->B7.length≤13->R { nx:=fun _ H=>∃H3,U.Sub H3 H/\Q .non H3,rt:=fun v H=>∃H3,U.Sub H3 H/\Q v H3 } [some (PV.tup [PV.tup (List.map PV.int A),PV.tup (List.map PV.int B)]),some (.int m),some (.int c),some (.tup (List.map PV.int A7)),some (.tup (List.map PV.int B7)),some (.int w)] H7:=fun A7 B7 H7 s7 la7 lb7=>by
         subst hR
         walk_at "r"
         exact⟨small_size (by decide),H,s7,h A7 B7 (by omega) (by omega)⟩
        walk_at "r"
        refine cif_by (fun _=>?_) (fun _=>key A6 B6 H6 s6 (by omega) (by omega))
        refine⟨by omega,by omega,?_⟩
        rw[rng_ul]
        exact key _ B6 H6 s6 (by unfold ulN;rw[List.length_map,List.length_range];omega) (by omega)
       walk_at "r"
       refine cif_by (fun _=>?_) (fun _=>key A5 B5 H5 s5 (by omega) (by omega))
       refine⟨by omega,by omega,?_⟩
       rw[rng_ul,← List.map_reverse]
       exact key _ B5 H5 s5 (by unfold ulN;rw[List.length_reverse,List.length_map,List.length_range];omega) (by omega)
      walk_at "r"
      refine cif_by (fun _=>?_) (fun _=>key A4 B4 H4 s4 (by omega) (by omega))
      obtain⟨M1,e1,l1,_⟩:=cut_last PV.int B4
      rw[e1]
      refine⟨small_size (by rw[List.length_map,List.length_map];omega),?_⟩
      rw[←List.map_append]
      exact key A4 _ H4 s4 (by omega) (by rw[List.length_append];omega)
     walk_at "r"
     refine cif_by (fun _=>?_) (fun _=>key A3 B3 H3 s3 (by omega) (by omega))
     exact⟨small_size (by decide),small_size (by rw[List.length_map];omega),key A3 (-1::B3) H3 s3 (by omega) (by rw[List.length_cons];omega)⟩
    walk_at "r"
    refine cif_by (fun _=>?_) (fun _=>key A2 B2 H2 s2 (by omega) (by omega))
    refine⟨by decide,small_size (by decide),small_size (by rw[List.length_map];simp;omega),?_⟩
    have e:List.map PV.int A2++[PV.int (c+m.fmod 3)]=List.map PV.int (A2++[c+m.fmod 3]):=by rw[List.map_append];rfl
    rw[e]
    exact key _ B2 H2 s2 (by rw[List.length_append];simp;omega) (by omega)
   walk_at "r"
   refine cif_by (fun _=>?_) (fun _=>key A1 B1 H1 s1 (by omega) (by omega))
   obtain⟨M1,e1,l1,_⟩:=cut_first PV.int B1
   rw[e1]
   intro p hp p1 hp1
   have n1:p≠p1:=fun e=>by subst e;rw[put_same]at hp1;cases hp1
   have sa:=(s1).put (o:=.lst (List.map PV.int A1)) ((s1).free hp)
   have sb:=sa.put (o:=.lst (List.map PV.int M1)) (sa.free hp1)
   refine⟨_,_,(put_ne n1).trans put_same,rfl,small_size (by rw[List.length_map,List.length_map];omega),fun p2 hp2=>?_⟩
   refine⟨A1++M1,by rw[List.map_append],by rw[List.length_append];omega,fun r ms hr pm sm=>?_⟩
   have sc:=sb.put (o:=.lst (List.map PV.int A1++List.map PV.int M1)) (sb.free hp2)
   exact key ms B1 _ (sc.put (sc.free hr)) (by rw[pm.length_eq,List.length_append];omega) (by omega)
  walk_at "r"
  refine cif_by (fun _=>?_) (fun _=>key A B H (Sub.refl H) (by omega) (by omega))
  exact⟨small_size (by decide),key A [] H (Sub.refl H) (by omega) (by simp)⟩
 ·exact h.elim
theorem G_zE(T:Tx K mg t):FnOk' P w K mg base CX0 2 t.a_zE t.d_zE ["_law_count","_law_question_here"] sp_due:=by
 refine okU (k:=1) T.F_zE sc_zE (fun vs H Q E h=>by
  unfold sp_due at h
  split at h
  ·rfl
  ·exact h.elim) (fun cdv A outer s H E B hr=>⟨_,(qss_cons (qs_asg (qv 1) (qg_tup (n:=2) rfl (qgs_cons (qg_name (i:=2) sc_zE.nd rfl (by walk_at "o")) (qgs_cons (qg_name (i:=3) sc_zE.nd rfl (by walk_at "o")) qgs_nil))))
  (qss_cons (qs_if (qt_bool (qw_or (qt_not (qt_val (qe_call (G_zl T) (hr.mono (by decide)) rfl T.g_zl T.F_zl.kp T.B_zl (qa_cons (qv 0) (qa_cons (qv 2) qa_nil))))) (qw_or1 (qt_not (qt_val (qe_call (G_zl T) (hr.mono (by decide)) rfl T.g_zl T.F_zl.kp T.B_zl (qa_cons (qv 0) (qa_cons (qv 3) qa_nil))))))))
  (qss_one (qs_ret qe_str))
  qss_nil)
  (qss_cons (qs_if (qt_bool (qw_or (qt_cmp (op_eqU hr.units) vr_eq (qe_callB call_len_seq vc_len rfl T.b_len PySem.boot_len (qa_cons (qv 3) qa_nil)) qe_int (nomark _)) (qw_or1 (qt_cmp (op_neU hr.units) vr_eq (qe_comp (N2:=["_law_name","_law_ones"]) (nt:=1) (js:=[2]) (ck (sc:=defScope s_zE)) rfl (qi_seq (qv 3)) (fun s0 H0 fp ps=>⟨(qg_name (i:=0) (show List.Nodup (["_law_name","_law_ones"]:List Str) by decide +kernel) rfl (by walk_at "o")),(qif_one (qt_cmp (op_inU hr.units) vr_in (qv 0) (qv 1) (by with_unfolding_all rfl))),(qv 0)⟩)) (qe_lst qa_nil) (nomark _)))))
  (qss_one (qs_ret qe_str))
  qss_nil)
  (qss_one (qs_ret qe_str))))),?_⟩)
 intro vs H Q E h
 unfold sp_due at h
 split at h
 ·rename_i c v
  obtain⟨A,B,rfl,lA,lB,h⟩:=h
  unfold qV at *
  refine seq_abs fun R hR=>?_
  walk_at "r"
  subst hR
  refine seq_abs fun R hR=>?_
  walk_at "r"
  refine⟨A,rfl,by omega,fun b1 e1=>?_⟩
  cases b1 with
  | false=>exact⟨H,Sub.refl _,h _ (.inl ⟨fun z=>absurd (e1.mpr z.1) (by decide),rfl⟩)⟩
  | true =>
  refine⟨B,rfl,by omega,fun b2 e2=>?_⟩
  cases b2 with
  | false=>exact⟨H,Sub.refl _,h _ (.inl ⟨fun z=>absurd (e2.mpr z.2) (by decide),rfl⟩)⟩
  | true =>
  have nA:=e1.mp rfl
  have nB:=e2.mp rfl
  show R _ _ H
  subst hR
  refine seq_abs fun R hR=>?_
  walk_at "r"
  by_cases nb:B=[]
  ·subst nb
   exact cif_pos rfl ⟨H,Sub.refl _,h _ (.inr (.inl ⟨⟨nA,nB⟩,fun z=>z.2 rfl,rfl⟩))⟩
  refine cif_neg (by simpa using nb) ?_
  intro p1 hp1
  refine comp_pure (fun y=>y) (onI fun y=>decide (y∈A)) (fun σ=>∃z,σ=[z,some (.tup (A.map PV.int))]) (by rw[List.length_map];omega) (fun _=>trivial) ?_ ?_ ⟨_,rfl⟩
  ·rintro y hy l σ R' ⟨z,rfl⟩ hl kT kF
   obtain⟨k,hk,rfl⟩:=List.mem_map.mp hy
   have e:onI (fun y=>decide (y∈A)) (PV.int k)=decide (k∈A):=rfl
   rw[e]at kT kF
   walk_at "r"
   refine⟨flat_ints,?_⟩
   simp only[any_int]
   exact cif_by (fun q=>⟨hl,by rw[put_put];exact kT q _ ⟨_,rfl⟩⟩) (fun q=>kF q _ ⟨_,rfl⟩)
  rw[ints_filter]
  have s1:=(Sub.refl H).put (o:=.lst ((B.filter fun y=>decide (y∈A)).map PV.int)) hp1
  refine⟨small_size (by decide),fun p2 hp2=>?_⟩
  have n12:p1≠p2:=fun e=>by subst e;rw[put_same]at hp2;cases hp2
  have s2:=s1.put (o:=.lst []) (s1.free hp2)
  refine⟨_,(put_ne n12).trans put_same,flat_ints,?_⟩
  have ed:deq (.fls ((B.filter fun y=>decide (y∈A)).map PV.int)) (.fls [])=decide ((B.filter fun y=>decide (y∈A))=[]):=by rw[deq];exact deqs_nil
  rw[ed]
  have ek:(B.filter (fun y=>decide (y∈A))=[])↔∀x∈A,x∉B:=by
   rw[List.filter_eq_nil_iff]
   exact⟨fun z x hx hb=>by simpa[hx]using z x hb,fun z x hx=>by simpa using fun ha=>z x ha hx⟩
  by_cases hk:B.filter (fun y=>decide (y∈A))=[]
  ·refine cif_neg (by simp[hk]) ?_
   subst hR
   walk_at "r"
   exact⟨H,s2,h _ (.inr (.inr ⟨⟨nA,nB,ek.mp hk,nb⟩,rfl⟩))⟩
  ·exact cif_pos (by simp[hk]) ⟨H,s2,h _ (.inr (.inl ⟨⟨nA,nB⟩,fun z=>hk (ek.mpr z.1),rfl⟩))⟩
 ·exact h.elim
theorem G_zx(T:Tx K mg t):FnOk' P w K mg base CX0 1 t.a_zx t.d_zx ["_law_kept"] (sp_class t):=by
 refine okU (k:=0) T.F_zx sc_zx (fun vs H Q E h=>by
  unfold sp_class at h
  split at h
  ·rfl
  ·exact h.elim) (fun cdv A outer s H E B hr=>⟨_,(qss_cons (qs_set (i:=1) sc_zx.nd rfl (by walk_at "o") (qe_lst (qa_cons (qe_isx T.g_BadPaper rfl rfl T.b_isinstance (qv 0)) (qa_cons (qe_isx T.g_BadStep rfl rfl T.b_isinstance (qv 0)) (qa_cons (qe_isx T.g_NoAnswer rfl rfl T.b_isinstance (qv 0)) qa_nil)))))
  (qss_cons (qs_set (i:=1) sc_zx.nd rfl (by walk_at "o") (qe_cat (qv 1) (qe_lst (qa_cons (qe_isx T.g_NoBow rfl rfl T.b_isinstance (qv 0)) (qa_cons (qe_isx T.g_NoCount rfl rfl T.b_isinstance (qv 0)) (qa_cons (qe_isx T.g_NoDoor rfl rfl T.b_isinstance (qv 0)) qa_nil))))))
  (qss_cons (qs_set (i:=1) sc_zx.nd rfl (by walk_at "o") (qe_cat (qv 1) (qe_lst (qa_cons (qe_isx T.g_NoFormula rfl rfl T.b_isinstance (qv 0)) (qa_cons (qe_isx T.g_NoFraction rfl rfl T.b_isinstance (qv 0)) (qa_cons (qe_isx T.g_NoName rfl rfl T.b_isinstance (qv 0)) qa_nil))))))
  (qss_cons (qs_set (i:=1) sc_zx.nd rfl (by walk_at "o") (qe_cat (qv 1) (qe_lst (qa_cons (qe_isx T.g_NoNest rfl rfl T.b_isinstance (qv 0)) (qa_cons (qe_isx T.g_NoQuestion rfl rfl T.b_isinstance (qv 0)) (qa_cons (qe_isx T.g_NoRoad rfl rfl T.b_isinstance (qv 0)) qa_nil))))))
  (qss_cons (qs_set (i:=1) sc_zx.nd rfl (by walk_at "o") (qe_cat (qv 1) (qe_lst (qa_cons (qe_isx T.g_NoRule rfl rfl T.b_isinstance (qv 0)) (qa_cons (qe_isx T.g_NoSets rfl rfl T.b_isinstance (qv 0)) (qa_cons (qe_isx T.g_NoShare rfl rfl T.b_isinstance (qv 0)) qa_nil))))))
  (qss_cons (qs_set (i:=1) sc_zx.nd rfl (by walk_at "o") (qe_cat (qv 1) (qe_lst (qa_cons (qe_isx T.g_NoText rfl rfl T.b_isinstance (qv 0)) (qa_cons (qe_isx T.g_NoThinning rfl rfl T.b_isinstance (qv 0)) (qa_cons (qe_isx T.g_NoTie rfl rfl T.b_isinstance (qv 0)) qa_nil))))))
  (qss_cons (qs_set (i:=1) sc_zx.nd rfl (by walk_at "o") (qe_cat (qv 1) (qe_lst (qa_cons (qe_isx T.g_NoValue rfl rfl T.b_isinstance (qv 0)) (qa_cons (qe_isx T.g_NoWorld rfl rfl T.b_isinstance (qv 0)) qa_nil)))))
  (qss_cons (qs_if (qt_bool (qw_or (qt_not (qt_val (qe_isx T.g_DoingError rfl rfl T.b_isinstance (qv 0)))) (qw_or (qt_not (qt_val (qe_isxT T.b_ValueError boot_ValueError rfl rfl T.b_isinstance (qv 0)))) (qw_or1 (qt_cmp (op_neU hr.units) vr_eq (qe_callB (call_sumI rfl) vc_sum rfl T.b_sum boot_sum (qa_cons (qe_comp (N2:=["_law_one"]) (nt:=1) (js:=[]) (ck (sc:=defScope s_zx)) rfl (qi_seq (qv 1)) (fun s0 H0 fp ps=>⟨(qg_name (i:=0) (show List.Nodup (["_law_one"]:List Str) by decide +kernel) rfl (by walk_at "o")),qif_nil,(qe_callTy call_int1 vc_int rfl T.b_int boot_int (qa_cons (qv 0) qa_nil))⟩)) qa_nil)) qe_int (nomark _))))))
  (qss_one (qs_ret qe_str))
  qss_nil)
  (qss_cons (qs_set (i:=2) sc_zx.nd rfl (by walk_at "o") (qe_lst (qa_cons qe_str (qa_cons qe_str (qa_cons qe_str (qa_cons qe_str (qa_cons qe_str (qa_cons qe_str (qa_cons qe_str (qa_cons qe_str (qa_cons qe_str qa_nil)))))))))))
  (qss_cons (qs_set (i:=2) sc_zx.nd rfl (by walk_at "o") (qe_cat (qv 2) (qe_lst (qa_cons qe_str (qa_cons qe_str (qa_cons qe_str (qa_cons qe_str (qa_cons qe_str (qa_cons qe_str (qa_cons qe_str (qa_cons qe_str (qa_cons qe_str qa_nil))))))))))))
  (qss_one (qs_ret (qe_ix (qe_cat (qv 2) (qe_lst (qa_cons qe_str (qa_cons qe_str qa_nil)))) (qe_bm PySem.F.slot_list_index PySem.F.type_list_index mt_indexB vm_indexT (qv 1) (qa_cons qe_bl qa_nil)) (fun _ _=>rfl)))))))))))))),?_⟩)
 intro vs H Q E h
 unfold sp_class at h
 split at h
 ·rename_i a
  obtain⟨C,nm,ha,hk,h⟩:=h
  rcases hk with⟨rfl,rfl⟩ |⟨rfl,rfl⟩
  ·
   refine b_first (l:=[uIsx K (.ref t.a_BadPaper) (uVar 0),uIsx K (.ref t.a_BadStep) (uVar 0),uIsx K (.ref t.a_NoAnswer) (uVar 0)]) (bs:=[false,false,false]) ⟨isv_isx ha T.x_NoName T.k_NoName_BadPaper,⟨isv_isx ha T.x_NoName T.k_NoName_BadStep,⟨isv_isx ha T.x_NoName T.k_NoName_NoAnswer,trivial⟩⟩⟩ (by decide) fun q0 H0 s0 e0=>?_
   refine b_more (l:=[uIsx K (.ref t.a_NoBow) (uVar 0),uIsx K (.ref t.a_NoCount) (uVar 0),uIsx K (.ref t.a_NoDoor) (uVar 0)]) (bs:=[false,false,false]) e0 ⟨isv_isx (s0 _ _ ha) T.x_NoName T.k_NoName_NoBow,⟨isv_isx (s0 _ _ ha) T.x_NoName T.k_NoName_NoCount,⟨isv_isx (s0 _ _ ha) T.x_NoName T.k_NoName_NoDoor,trivial⟩⟩⟩ ⟨by decide,by decide⟩ fun q1 H1 t1 e1=>?_
   have s1:=s0.trans t1
   refine b_more (l:=[uIsx K (.ref t.a_NoFormula) (uVar 0),uIsx K (.ref t.a_NoFraction) (uVar 0),uIsx K (.ref t.a_NoName) (uVar 0)]) (bs:=[false,false,true]) e1 ⟨isv_isx (s1 _ _ ha) T.x_NoName T.k_NoName_NoFormula,⟨isv_isx (s1 _ _ ha) T.x_NoName T.k_NoName_NoFraction,⟨isv_isx (s1 _ _ ha) T.x_NoName T.k_NoName_NoName,trivial⟩⟩⟩ ⟨by decide,by decide⟩ fun q2 H2 t2 e2=>?_
   have s2:=s1.trans t2
   refine b_more (l:=[uIsx K (.ref t.a_NoNest) (uVar 0),uIsx K (.ref t.a_NoQuestion) (uVar 0),uIsx K (.ref t.a_NoRoad) (uVar 0)]) (bs:=[false,false,false]) e2 ⟨isv_isx (s2 _ _ ha) T.x_NoName T.k_NoName_NoNest,⟨isv_isx (s2 _ _ ha) T.x_NoName T.k_NoName_NoQuestion,⟨isv_isx (s2 _ _ ha) T.x_NoName T.k_NoName_NoRoad,trivial⟩⟩⟩ ⟨by decide,by decide⟩ fun q3 H3 t3 e3=>?_
   have s3:=s2.trans t3
   refine b_more (l:=[uIsx K (.ref t.a_NoRule) (uVar 0),uIsx K (.ref t.a_NoSets) (uVar 0),uIsx K (.ref t.a_NoShare) (uVar 0)]) (bs:=[false,false,false]) e3 ⟨isv_isx (s3 _ _ ha) T.x_NoName T.k_NoName_NoRule,⟨isv_isx (s3 _ _ ha) T.x_NoName T.k_NoName_NoSets,⟨isv_isx (s3 _ _ ha) T.x_NoName T.k_NoName_NoShare,trivial⟩⟩⟩ ⟨by decide,by decide⟩ fun q4 H4 t4 e4=>?_
   have s4:=s3.trans t4
   refine b_more (l:=[uIsx K (.ref t.a_NoText) (uVar 0),uIsx K (.ref t.a_NoThinning) (uVar 0),uIsx K (.ref t.a_NoTie) (uVar 0)]) (bs:=[false,false,false]) e4 ⟨isv_isx (s4 _ _ ha) T.x_NoName T.k_NoName_NoText,⟨isv_isx (s4 _ _ ha) T.x_NoName T.k_NoName_NoThinning,⟨isv_isx (s4 _ _ ha) T.x_NoName T.k_NoName_NoTie,trivial⟩⟩⟩ ⟨by decide,by decide⟩ fun q5 H5 t5 e5=>?_
   have s5:=s4.trans t5
   refine b_more (l:=[uIsx K (.ref t.a_NoValue) (uVar 0),uIsx K (.ref t.a_NoWorld) (uVar 0)]) (bs:=[false,false]) e5 ⟨isv_isx (s5 _ _ ha) T.x_NoName T.k_NoName_NoValue,⟨isv_isx (s5 _ _ ha) T.x_NoName T.k_NoName_NoWorld,trivial⟩⟩ ⟨by decide,by decide⟩ fun q6 H6 t6 e6=>?_
   have s6:=s5.trans t6
   refine seq_abs fun R hR=>?_
   walk_at "r"
   refine isv_isx (s6 _ _ ha) T.x_NoName T.k_NoName_DoingError _ ?_
   walk_at "r"
   refine isv_isx (s6 _ _ ha) T.x_NoName T.k_NoName_ValueError _ ?_
   walk_at "r"
   refine⟨_,e6,fun acc hacc=>?_⟩
   have nq6:=ne_none e6 hacc
   refine comp_pure b01 (fun _=>true) (fun σ=>∃z,σ=[z]) (by decide) (fun _=>(put_ne nq6).trans e6) ?_ ?_ ⟨_,rfl⟩
   ·rintro y hy l σ R' ⟨z,rfl⟩ hl kT kF
    obtain⟨b,_,rfl⟩:=List.mem_map.mp hy
    walk_at "r"
    exact⟨hl,by rw[put_put];exact kT rfl _ ⟨_,rfl⟩⟩
   show ∃ns:List Int,_/\_
   refine⟨[0,0,0,0,0,0,0,0,1,0,0,0,0,0,0,0,0,0,0,0],put_same,?_⟩
   refine cif_neg (by decide) ?_
   have s7:=s6.put (o:=.lst (List.map PV.int [0,0,0,0,0,0,0,0,1,0,0,0,0,0,0,0,0,0,0,0])) (s6.free hacc)
   have e7:put H6 acc (.lst (List.map PV.int [0,0,0,0,0,0,0,0,1,0,0,0,0,0,0,0,0,0,0,0])) q6=some (.lst (List.map PV.bl [false,false,false,false,false,false,false,false,true,false,false,false,false,false,false,false,false,false,false,false])):=(put_ne nq6).trans e6
   show R _ _ (put H6 acc (.lst (List.map PV.int [0,0,0,0,0,0,0,0,1,0,0,0,0,0,0,0,0,0,0,0])))
   generalize put H6 acc (.lst (List.map PV.int [0,0,0,0,0,0,0,0,1,0,0,0,0,0,0,0,0,0,0,0]))=H7 at *
   subst hR
   refine seq_abs fun R hR=>?_
   walk_at "r"
   refine⟨small_size (by decide),fun r1 hr1=>?_⟩
   subst hR
   refine seq_abs fun R hR=>?_
   have s8:=s7.put (o:=.lst [PV.str (Str.ofString "BadPaper"),PV.str (Str.ofString "BadStep"),PV.str (Str.ofString "NoAnswer"),PV.str (Str.ofString "NoBow"),PV.str (Str.ofString "NoCount"),PV.str (Str.ofString "NoDoor"),PV.str (Str.ofString "NoFormula"),PV.str (Str.ofString "NoFraction"),PV.str (Str.ofString "NoName")]) (s7.free hr1)
   have e8:put H7 r1 (.lst [PV.str (Str.ofString "BadPaper"),PV.str (Str.ofString "BadStep"),PV.str (Str.ofString "NoAnswer"),PV.str (Str.ofString "NoBow"),PV.str (Str.ofString "NoCount"),PV.str (Str.ofString "NoDoor"),PV.str (Str.ofString "NoFormula"),PV.str (Str.ofString "NoFraction"),PV.str (Str.ofString "NoName")]) q6=some (.lst (List.map PV.bl [false,false,false,false,false,false,false,false,true,false,false,false,false,false,false,false,false,false,false,false])):=(put_ne (ne_none e7 hr1)).trans e7
   have f8:put H7 r1 (.lst [PV.str (Str.ofString "BadPaper"),PV.str (Str.ofString "BadStep"),PV.str (Str.ofString "NoAnswer"),PV.str (Str.ofString "NoBow"),PV.str (Str.ofString "NoCount"),PV.str (Str.ofString "NoDoor"),PV.str (Str.ofString "NoFormula"),PV.str (Str.ofString "NoFraction"),PV.str (Str.ofString "NoName")]) r1=some (.lst [PV.str (Str.ofString "BadPaper"),PV.str (Str.ofString "BadStep"),PV.str (Str.ofString "NoAnswer"),PV.str (Str.ofString "NoBow"),PV.str (Str.ofString "NoCount"),PV.str (Str.ofString "NoDoor"),PV.str (Str.ofString "NoFormula"),PV.str (Str.ofString "NoFraction"),PV.str (Str.ofString "NoName")]):=put_same
   generalize put H7 r1 (.lst [PV.str (Str.ofString "BadPaper"),PV.str (Str.ofString "BadStep"),PV.str (Str.ofString "NoAnswer"),PV.str (Str.ofString "NoBow"),PV.str (Str.ofString "NoCount"),PV.str (Str.ofString "NoDoor"),PV.str (Str.ofString "NoFormula"),PV.str (Str.ofString "NoFraction"),PV.str (Str.ofString "NoName")])=H8 at *
   walk_at "r"
   refine⟨small_size (by decide),fun p hp=>⟨_,_,(put_ne (ne_none f8 hp)).trans f8,rfl,small_size (by decide),fun r2 hr2=>?_⟩⟩
   have s9:=s8.put (o:=.lst [PV.str (Str.ofString "NoNest"),PV.str (Str.ofString "NoQuestion"),PV.str (Str.ofString "NoRoad"),PV.str (Str.ofString "NoRule"),PV.str (Str.ofString "NoSets"),PV.str (Str.ofString "NoShare"),PV.str (Str.ofString "NoText"),PV.str (Str.ofString "NoThinning"),PV.str (Str.ofString "NoTie")]) (s8.free hp)
   have s10:=s9.put (o:=.lst ([PV.str (Str.ofString "BadPaper"),PV.str (Str.ofString "BadStep"),PV.str (Str.ofString "NoAnswer"),PV.str (Str.ofString "NoBow"),PV.str (Str.ofString "NoCount"),PV.str (Str.ofString "NoDoor"),PV.str (Str.ofString "NoFormula"),PV.str (Str.ofString "NoFraction"),PV.str (Str.ofString "NoName")]++[PV.str (Str.ofString "NoNest"),PV.str (Str.ofString "NoQuestion"),PV.str (Str.ofString "NoRoad"),PV.str (Str.ofString "NoRule"),PV.str (Str.ofString "NoSets"),PV.str (Str.ofString "NoShare"),PV.str (Str.ofString "NoText"),PV.str (Str.ofString "NoThinning"),PV.str (Str.ofString "NoTie")])) (s9.free hr2)
   have e9:=(put_ne (o:=.lst [PV.str (Str.ofString "NoNest"),PV.str (Str.ofString "NoQuestion"),PV.str (Str.ofString "NoRoad"),PV.str (Str.ofString "NoRule"),PV.str (Str.ofString "NoSets"),PV.str (Str.ofString "NoShare"),PV.str (Str.ofString "NoText"),PV.str (Str.ofString "NoThinning"),PV.str (Str.ofString "NoTie")]) (ne_none e8 hp)).trans e8
   have e10:put (put H8 p (.lst [PV.str (Str.ofString "NoNest"),PV.str (Str.ofString "NoQuestion"),PV.str (Str.ofString "NoRoad"),PV.str (Str.ofString "NoRule"),PV.str (Str.ofString "NoSets"),PV.str (Str.ofString "NoShare"),PV.str (Str.ofString "NoText"),PV.str (Str.ofString "NoThinning"),PV.str (Str.ofString "NoTie")])) r2 (.lst ([PV.str (Str.ofString "BadPaper"),PV.str (Str.ofString "BadStep"),PV.str (Str.ofString "NoAnswer"),PV.str (Str.ofString "NoBow"),PV.str (Str.ofString "NoCount"),PV.str (Str.ofString "NoDoor"),PV.str (Str.ofString "NoFormula"),PV.str (Str.ofString "NoFraction"),PV.str (Str.ofString "NoName")]++[PV.str (Str.ofString "NoNest"),PV.str (Str.ofString "NoQuestion"),PV.str (Str.ofString "NoRoad"),PV.str (Str.ofString "NoRule"),PV.str (Str.ofString "NoSets"),PV.str (Str.ofString "NoShare"),PV.str (Str.ofString "NoText"),PV.str (Str.ofString "NoThinning"),PV.str (Str.ofString "NoTie")])) q6=some (.lst (List.map PV.bl [false,false,false,false,false,false,false,false,true,false,false,false,false,false,false,false,false,false,false,false])):=(put_ne (ne_none e9 hr2)).trans e9
   have f10:put (put H8 p (.lst [PV.str (Str.ofString "NoNest"),PV.str (Str.ofString "NoQuestion"),PV.str (Str.ofString "NoRoad"),PV.str (Str.ofString "NoRule"),PV.str (Str.ofString "NoSets"),PV.str (Str.ofString "NoShare"),PV.str (Str.ofString "NoText"),PV.str (Str.ofString "NoThinning"),PV.str (Str.ofString "NoTie")])) r2 (.lst ([PV.str (Str.ofString "BadPaper"),PV.str (Str.ofString "BadStep"),PV.str (Str.ofString "NoAnswer"),PV.str (Str.ofString "NoBow"),PV.str (Str.ofString "NoCount"),PV.str (Str.ofString "NoDoor"),PV.str (Str.ofString "NoFormula"),PV.str (Str.ofString "NoFraction"),PV.str (Str.ofString "NoName")]++[PV.str (Str.ofString "NoNest"),PV.str (Str.ofString "NoQuestion"),PV.str (Str.ofString "NoRoad"),PV.str (Str.ofString "NoRule"),PV.str (Str.ofString "NoSets"),PV.str (Str.ofString "NoShare"),PV.str (Str.ofString "NoText"),PV.str (Str.ofString "NoThinning"),PV.str (Str.ofString "NoTie")])) r2=some (.lst ([PV.str (Str.ofString "BadPaper"),PV.str (Str.ofString "BadStep"),PV.str (Str.ofString "NoAnswer"),PV.str (Str.ofString "NoBow"),PV.str (Str.ofString "NoCount"),PV.str (Str.ofString "NoDoor"),PV.str (Str.ofString "NoFormula"),PV.str (Str.ofString "NoFraction"),PV.str (Str.ofString "NoName")]++[PV.str (Str.ofString "NoNest"),PV.str (Str.ofString "NoQuestion"),PV.str (Str.ofString "NoRoad"),PV.str (Str.ofString "NoRule"),PV.str (Str.ofString "NoSets"),PV.str (Str.ofString "NoShare"),PV.str (Str.ofString "NoText"),PV.str (Str.ofString "NoThinning"),PV.str (Str.ofString "NoTie")])):=put_same
   generalize put (put H8 p (.lst [PV.str (Str.ofString "NoNest"),PV.str (Str.ofString "NoQuestion"),PV.str (Str.ofString "NoRoad"),PV.str (Str.ofString "NoRule"),PV.str (Str.ofString "NoSets"),PV.str (Str.ofString "NoShare"),PV.str (Str.ofString "NoText"),PV.str (Str.ofString "NoThinning"),PV.str (Str.ofString "NoTie")])) r2 (.lst ([PV.str (Str.ofString "BadPaper"),PV.str (Str.ofString "BadStep"),PV.str (Str.ofString "NoAnswer"),PV.str (Str.ofString "NoBow"),PV.str (Str.ofString "NoCount"),PV.str (Str.ofString "NoDoor"),PV.str (Str.ofString "NoFormula"),PV.str (Str.ofString "NoFraction"),PV.str (Str.ofString "NoName")]++[PV.str (Str.ofString "NoNest"),PV.str (Str.ofString "NoQuestion"),PV.str (Str.ofString "NoRoad"),PV.str (Str.ofString "NoRule"),PV.str (Str.ofString "NoSets"),PV.str (Str.ofString "NoShare"),PV.str (Str.ofString "NoText"),PV.str (Str.ofString "NoThinning"),PV.str (Str.ofString "NoTie")]))=H10 at *
   subst hR
   walk_at "r"
   refine⟨small_size (by decide),fun p3 hp3=>⟨_,_,(put_ne (ne_none f10 hp3)).trans f10,rfl,small_size (by decide),fun r3 hr3=>?_⟩⟩
   have e12:=(put_ne (o:=.lst [PV.str (Str.ofString "NoValue"),PV.str (Str.ofString "NoWorld")]) (ne_none e10 hp3)).trans e10
   have e13:=(put_ne (o:=.lst ([PV.str (Str.ofString "BadPaper"),PV.str (Str.ofString "BadStep"),PV.str (Str.ofString "NoAnswer"),PV.str (Str.ofString "NoBow"),PV.str (Str.ofString "NoCount"),PV.str (Str.ofString "NoDoor"),PV.str (Str.ofString "NoFormula"),PV.str (Str.ofString "NoFraction"),PV.str (Str.ofString "NoName")]++[PV.str (Str.ofString "NoNest"),PV.str (Str.ofString "NoQuestion"),PV.str (Str.ofString "NoRoad"),PV.str (Str.ofString "NoRule"),PV.str (Str.ofString "NoSets"),PV.str (Str.ofString "NoShare"),PV.str (Str.ofString "NoText"),PV.str (Str.ofString "NoThinning"),PV.str (Str.ofString "NoTie")]++[PV.str (Str.ofString "NoValue"),PV.str (Str.ofString "NoWorld")])) (ne_none e12 hr3)).trans e12
   have s12:=s10.put (o:=.lst [PV.str (Str.ofString "NoValue"),PV.str (Str.ofString "NoWorld")]) (s10.free hp3)
   have s13:=s12.put (o:=.lst ([PV.str (Str.ofString "BadPaper"),PV.str (Str.ofString "BadStep"),PV.str (Str.ofString "NoAnswer"),PV.str (Str.ofString "NoBow"),PV.str (Str.ofString "NoCount"),PV.str (Str.ofString "NoDoor"),PV.str (Str.ofString "NoFormula"),PV.str (Str.ofString "NoFraction"),PV.str (Str.ofString "NoName")]++[PV.str (Str.ofString "NoNest"),PV.str (Str.ofString "NoQuestion"),PV.str (Str.ofString "NoRoad"),PV.str (Str.ofString "NoRule"),PV.str (Str.ofString "NoSets"),PV.str (Str.ofString "NoShare"),PV.str (Str.ofString "NoText"),PV.str (Str.ofString "NoThinning"),PV.str (Str.ofString "NoTie")]++[PV.str (Str.ofString "NoValue"),PV.str (Str.ofString "NoWorld")])) (s12.free hr3)
   refine⟨⟨_,e13⟩,[false,false,false,false,false,false,false,false,true,false,false,false,false,false,false,false,false,false,false,false],e13,by decide,?_⟩
   exact(show ∃H3,U.Sub H3 _/\Q (.str (Str.ofString "NoName")) H3 from⟨H,s13,h⟩)
  ·
   refine b_first (l:=[uIsx K (.ref t.a_BadPaper) (uVar 0),uIsx K (.ref t.a_BadStep) (uVar 0),uIsx K (.ref t.a_NoAnswer) (uVar 0)]) (bs:=[false,false,false]) ⟨isv_isx ha T.x_NoSets T.k_NoSets_BadPaper,⟨isv_isx ha T.x_NoSets T.k_NoSets_BadStep,⟨isv_isx ha T.x_NoSets T.k_NoSets_NoAnswer,trivial⟩⟩⟩ (by decide) fun q0 H0 s0 e0=>?_
   refine b_more (l:=[uIsx K (.ref t.a_NoBow) (uVar 0),uIsx K (.ref t.a_NoCount) (uVar 0),uIsx K (.ref t.a_NoDoor) (uVar 0)]) (bs:=[false,false,false]) e0 ⟨isv_isx (s0 _ _ ha) T.x_NoSets T.k_NoSets_NoBow,⟨isv_isx (s0 _ _ ha) T.x_NoSets T.k_NoSets_NoCount,⟨isv_isx (s0 _ _ ha) T.x_NoSets T.k_NoSets_NoDoor,trivial⟩⟩⟩ ⟨by decide,by decide⟩ fun q1 H1 t1 e1=>?_
   have s1:=s0.trans t1
   refine b_more (l:=[uIsx K (.ref t.a_NoFormula) (uVar 0),uIsx K (.ref t.a_NoFraction) (uVar 0),uIsx K (.ref t.a_NoName) (uVar 0)]) (bs:=[false,false,false]) e1 ⟨isv_isx (s1 _ _ ha) T.x_NoSets T.k_NoSets_NoFormula,⟨isv_isx (s1 _ _ ha) T.x_NoSets T.k_NoSets_NoFraction,⟨isv_isx (s1 _ _ ha) T.x_NoSets T.k_NoSets_NoName,trivial⟩⟩⟩ ⟨by decide,by decide⟩ fun q2 H2 t2 e2=>?_
   have s2:=s1.trans t2
   refine b_more (l:=[uIsx K (.ref t.a_NoNest) (uVar 0),uIsx K (.ref t.a_NoQuestion) (uVar 0),uIsx K (.ref t.a_NoRoad) (uVar 0)]) (bs:=[false,false,false]) e2 ⟨isv_isx (s2 _ _ ha) T.x_NoSets T.k_NoSets_NoNest,⟨isv_isx (s2 _ _ ha) T.x_NoSets T.k_NoSets_NoQuestion,⟨isv_isx (s2 _ _ ha) T.x_NoSets T.k_NoSets_NoRoad,trivial⟩⟩⟩ ⟨by decide,by decide⟩ fun q3 H3 t3 e3=>?_
   have s3:=s2.trans t3
   refine b_more (l:=[uIsx K (.ref t.a_NoRule) (uVar 0),uIsx K (.ref t.a_NoSets) (uVar 0),uIsx K (.ref t.a_NoShare) (uVar 0)]) (bs:=[false,true,false]) e3 ⟨isv_isx (s3 _ _ ha) T.x_NoSets T.k_NoSets_NoRule,⟨isv_isx (s3 _ _ ha) T.x_NoSets T.k_NoSets_NoSets,⟨isv_isx (s3 _ _ ha) T.x_NoSets T.k_NoSets_NoShare,trivial⟩⟩⟩ ⟨by decide,by decide⟩ fun q4 H4 t4 e4=>?_
   have s4:=s3.trans t4
   refine b_more (l:=[uIsx K (.ref t.a_NoText) (uVar 0),uIsx K (.ref t.a_NoThinning) (uVar 0),uIsx K (.ref t.a_NoTie) (uVar 0)]) (bs:=[false,false,false]) e4 ⟨isv_isx (s4 _ _ ha) T.x_NoSets T.k_NoSets_NoText,⟨isv_isx (s4 _ _ ha) T.x_NoSets T.k_NoSets_NoThinning,⟨isv_isx (s4 _ _ ha) T.x_NoSets T.k_NoSets_NoTie,trivial⟩⟩⟩ ⟨by decide,by decide⟩ fun q5 H5 t5 e5=>?_
   have s5:=s4.trans t5
   refine b_more (l:=[uIsx K (.ref t.a_NoValue) (uVar 0),uIsx K (.ref t.a_NoWorld) (uVar 0)]) (bs:=[false,false]) e5 ⟨isv_isx (s5 _ _ ha) T.x_NoSets T.k_NoSets_NoValue,⟨isv_isx (s5 _ _ ha) T.x_NoSets T.k_NoSets_NoWorld,trivial⟩⟩ ⟨by decide,by decide⟩ fun q6 H6 t6 e6=>?_
   have s6:=s5.trans t6
   refine seq_abs fun R hR=>?_
   walk_at "r"
   refine isv_isx (s6 _ _ ha) T.x_NoSets T.k_NoSets_DoingError _ ?_
   walk_at "r"
   refine isv_isx (s6 _ _ ha) T.x_NoSets T.k_NoSets_ValueError _ ?_
   walk_at "r"
   refine⟨_,e6,fun acc hacc=>?_⟩
   have nq6:=ne_none e6 hacc
   refine comp_pure b01 (fun _=>true) (fun σ=>∃z,σ=[z]) (by decide) (fun _=>(put_ne nq6).trans e6) ?_ ?_ ⟨_,rfl⟩
   ·rintro y hy l σ R' ⟨z,rfl⟩ hl kT kF
    obtain⟨b,_,rfl⟩:=List.mem_map.mp hy
    walk_at "r"
    exact⟨hl,by rw[put_put];exact kT rfl _ ⟨_,rfl⟩⟩
   show ∃ns:List Int,_/\_
   refine⟨[0,0,0,0,0,0,0,0,0,0,0,0,0,1,0,0,0,0,0,0],put_same,?_⟩
   refine cif_neg (by decide) ?_
   have s7:=s6.put (o:=.lst (List.map PV.int [0,0,0,0,0,0,0,0,0,0,0,0,0,1,0,0,0,0,0,0])) (s6.free hacc)
   have e7:put H6 acc (.lst (List.map PV.int [0,0,0,0,0,0,0,0,0,0,0,0,0,1,0,0,0,0,0,0])) q6=some (.lst (List.map PV.bl [false,false,false,false,false,false,false,false,false,false,false,false,false,true,false,false,false,false,false,false])):=(put_ne nq6).trans e6
   show R _ _ (put H6 acc (.lst (List.map PV.int [0,0,0,0,0,0,0,0,0,0,0,0,0,1,0,0,0,0,0,0])))
   generalize put H6 acc (.lst (List.map PV.int [0,0,0,0,0,0,0,0,0,0,0,0,0,1,0,0,0,0,0,0]))=H7 at *
   subst hR
   refine seq_abs fun R hR=>?_
   walk_at "r"
   refine⟨small_size (by decide),fun r1 hr1=>?_⟩
   subst hR
   refine seq_abs fun R hR=>?_
   have s8:=s7.put (o:=.lst [PV.str (Str.ofString "BadPaper"),PV.str (Str.ofString "BadStep"),PV.str (Str.ofString "NoAnswer"),PV.str (Str.ofString "NoBow"),PV.str (Str.ofString "NoCount"),PV.str (Str.ofString "NoDoor"),PV.str (Str.ofString "NoFormula"),PV.str (Str.ofString "NoFraction"),PV.str (Str.ofString "NoName")]) (s7.free hr1)
   have e8:put H7 r1 (.lst [PV.str (Str.ofString "BadPaper"),PV.str (Str.ofString "BadStep"),PV.str (Str.ofString "NoAnswer"),PV.str (Str.ofString "NoBow"),PV.str (Str.ofString "NoCount"),PV.str (Str.ofString "NoDoor"),PV.str (Str.ofString "NoFormula"),PV.str (Str.ofString "NoFraction"),PV.str (Str.ofString "NoName")]) q6=some (.lst (List.map PV.bl [false,false,false,false,false,false,false,false,false,false,false,false,false,true,false,false,false,false,false,false])):=(put_ne (ne_none e7 hr1)).trans e7
   have f8:put H7 r1 (.lst [PV.str (Str.ofString "BadPaper"),PV.str (Str.ofString "BadStep"),PV.str (Str.ofString "NoAnswer"),PV.str (Str.ofString "NoBow"),PV.str (Str.ofString "NoCount"),PV.str (Str.ofString "NoDoor"),PV.str (Str.ofString "NoFormula"),PV.str (Str.ofString "NoFraction"),PV.str (Str.ofString "NoName")]) r1=some (.lst [PV.str (Str.ofString "BadPaper"),PV.str (Str.ofString "BadStep"),PV.str (Str.ofString "NoAnswer"),PV.str (Str.ofString "NoBow"),PV.str (Str.ofString "NoCount"),PV.str (Str.ofString "NoDoor"),PV.str (Str.ofString "NoFormula"),PV.str (Str.ofString "NoFraction"),PV.str (Str.ofString "NoName")]):=put_same
   generalize put H7 r1 (.lst [PV.str (Str.ofString "BadPaper"),PV.str (Str.ofString "BadStep"),PV.str (Str.ofString "NoAnswer"),PV.str (Str.ofString "NoBow"),PV.str (Str.ofString "NoCount"),PV.str (Str.ofString "NoDoor"),PV.str (Str.ofString "NoFormula"),PV.str (Str.ofString "NoFraction"),PV.str (Str.ofString "NoName")])=H8 at *
   walk_at "r"
   refine⟨small_size (by decide),fun p hp=>⟨_,_,(put_ne (ne_none f8 hp)).trans f8,rfl,small_size (by decide),fun r2 hr2=>?_⟩⟩
   have s9:=s8.put (o:=.lst [PV.str (Str.ofString "NoNest"),PV.str (Str.ofString "NoQuestion"),PV.str (Str.ofString "NoRoad"),PV.str (Str.ofString "NoRule"),PV.str (Str.ofString "NoSets"),PV.str (Str.ofString "NoShare"),PV.str (Str.ofString "NoText"),PV.str (Str.ofString "NoThinning"),PV.str (Str.ofString "NoTie")]) (s8.free hp)
   have s10:=s9.put (o:=.lst ([PV.str (Str.ofString "BadPaper"),PV.str (Str.ofString "BadStep"),PV.str (Str.ofString "NoAnswer"),PV.str (Str.ofString "NoBow"),PV.str (Str.ofString "NoCount"),PV.str (Str.ofString "NoDoor"),PV.str (Str.ofString "NoFormula"),PV.str (Str.ofString "NoFraction"),PV.str (Str.ofString "NoName")]++[PV.str (Str.ofString "NoNest"),PV.str (Str.ofString "NoQuestion"),PV.str (Str.ofString "NoRoad"),PV.str (Str.ofString "NoRule"),PV.str (Str.ofString "NoSets"),PV.str (Str.ofString "NoShare"),PV.str (Str.ofString "NoText"),PV.str (Str.ofString "NoThinning"),PV.str (Str.ofString "NoTie")])) (s9.free hr2)
   have e9:=(put_ne (o:=.lst [PV.str (Str.ofString "NoNest"),PV.str (Str.ofString "NoQuestion"),PV.str (Str.ofString "NoRoad"),PV.str (Str.ofString "NoRule"),PV.str (Str.ofString "NoSets"),PV.str (Str.ofString "NoShare"),PV.str (Str.ofString "NoText"),PV.str (Str.ofString "NoThinning"),PV.str (Str.ofString "NoTie")]) (ne_none e8 hp)).trans e8
   have e10:put (put H8 p (.lst [PV.str (Str.ofString "NoNest"),PV.str (Str.ofString "NoQuestion"),PV.str (Str.ofString "NoRoad"),PV.str (Str.ofString "NoRule"),PV.str (Str.ofString "NoSets"),PV.str (Str.ofString "NoShare"),PV.str (Str.ofString "NoText"),PV.str (Str.ofString "NoThinning"),PV.str (Str.ofString "NoTie")])) r2 (.lst ([PV.str (Str.ofString "BadPaper"),PV.str (Str.ofString "BadStep"),PV.str (Str.ofString "NoAnswer"),PV.str (Str.ofString "NoBow"),PV.str (Str.ofString "NoCount"),PV.str (Str.ofString "NoDoor"),PV.str (Str.ofString "NoFormula"),PV.str (Str.ofString "NoFraction"),PV.str (Str.ofString "NoName")]++[PV.str (Str.ofString "NoNest"),PV.str (Str.ofString "NoQuestion"),PV.str (Str.ofString "NoRoad"),PV.str (Str.ofString "NoRule"),PV.str (Str.ofString "NoSets"),PV.str (Str.ofString "NoShare"),PV.str (Str.ofString "NoText"),PV.str (Str.ofString "NoThinning"),PV.str (Str.ofString "NoTie")])) q6=some (.lst (List.map PV.bl [false,false,false,false,false,false,false,false,false,false,false,false,false,true,false,false,false,false,false,false])):=(put_ne (ne_none e9 hr2)).trans e9
   have f10:put (put H8 p (.lst [PV.str (Str.ofString "NoNest"),PV.str (Str.ofString "NoQuestion"),PV.str (Str.ofString "NoRoad"),PV.str (Str.ofString "NoRule"),PV.str (Str.ofString "NoSets"),PV.str (Str.ofString "NoShare"),PV.str (Str.ofString "NoText"),PV.str (Str.ofString "NoThinning"),PV.str (Str.ofString "NoTie")])) r2 (.lst ([PV.str (Str.ofString "BadPaper"),PV.str (Str.ofString "BadStep"),PV.str (Str.ofString "NoAnswer"),PV.str (Str.ofString "NoBow"),PV.str (Str.ofString "NoCount"),PV.str (Str.ofString "NoDoor"),PV.str (Str.ofString "NoFormula"),PV.str (Str.ofString "NoFraction"),PV.str (Str.ofString "NoName")]++[PV.str (Str.ofString "NoNest"),PV.str (Str.ofString "NoQuestion"),PV.str (Str.ofString "NoRoad"),PV.str (Str.ofString "NoRule"),PV.str (Str.ofString "NoSets"),PV.str (Str.ofString "NoShare"),PV.str (Str.ofString "NoText"),PV.str (Str.ofString "NoThinning"),PV.str (Str.ofString "NoTie")])) r2=some (.lst ([PV.str (Str.ofString "BadPaper"),PV.str (Str.ofString "BadStep"),PV.str (Str.ofString "NoAnswer"),PV.str (Str.ofString "NoBow"),PV.str (Str.ofString "NoCount"),PV.str (Str.ofString "NoDoor"),PV.str (Str.ofString "NoFormula"),PV.str (Str.ofString "NoFraction"),PV.str (Str.ofString "NoName")]++[PV.str (Str.ofString "NoNest"),PV.str (Str.ofString "NoQuestion"),PV.str (Str.ofString "NoRoad"),PV.str (Str.ofString "NoRule"),PV.str (Str.ofString "NoSets"),PV.str (Str.ofString "NoShare"),PV.str (Str.ofString "NoText"),PV.str (Str.ofString "NoThinning"),PV.str (Str.ofString "NoTie")])):=put_same
   generalize put (put H8 p (.lst [PV.str (Str.ofString "NoNest"),PV.str (Str.ofString "NoQuestion"),PV.str (Str.ofString "NoRoad"),PV.str (Str.ofString "NoRule"),PV.str (Str.ofString "NoSets"),PV.str (Str.ofString "NoShare"),PV.str (Str.ofString "NoText"),PV.str (Str.ofString "NoThinning"),PV.str (Str.ofString "NoTie")])) r2 (.lst ([PV.str (Str.ofString "BadPaper"),PV.str (Str.ofString "BadStep"),PV.str (Str.ofString "NoAnswer"),PV.str (Str.ofString "NoBow"),PV.str (Str.ofString "NoCount"),PV.str (Str.ofString "NoDoor"),PV.str (Str.ofString "NoFormula"),PV.str (Str.ofString "NoFraction"),PV.str (Str.ofString "NoName")]++[PV.str (Str.ofString "NoNest"),PV.str (Str.ofString "NoQuestion"),PV.str (Str.ofString "NoRoad"),PV.str (Str.ofString "NoRule"),PV.str (Str.ofString "NoSets"),PV.str (Str.ofString "NoShare"),PV.str (Str.ofString "NoText"),PV.str (Str.ofString "NoThinning"),PV.str (Str.ofString "NoTie")]))=H10 at *
   subst hR
   walk_at "r"
   refine⟨small_size (by decide),fun p3 hp3=>⟨_,_,(put_ne (ne_none f10 hp3)).trans f10,rfl,small_size (by decide),fun r3 hr3=>?_⟩⟩
   have e12:=(put_ne (o:=.lst [PV.str (Str.ofString "NoValue"),PV.str (Str.ofString "NoWorld")]) (ne_none e10 hp3)).trans e10
   have e13:=(put_ne (o:=.lst ([PV.str (Str.ofString "BadPaper"),PV.str (Str.ofString "BadStep"),PV.str (Str.ofString "NoAnswer"),PV.str (Str.ofString "NoBow"),PV.str (Str.ofString "NoCount"),PV.str (Str.ofString "NoDoor"),PV.str (Str.ofString "NoFormula"),PV.str (Str.ofString "NoFraction"),PV.str (Str.ofString "NoName")]++[PV.str (Str.ofString "NoNest"),PV.str (Str.ofString "NoQuestion"),PV.str (Str.ofString "NoRoad"),PV.str (Str.ofString "NoRule"),PV.str (Str.ofString "NoSets"),PV.str (Str.ofString "NoShare"),PV.str (Str.ofString "NoText"),PV.str (Str.ofString "NoThinning"),PV.str (Str.ofString "NoTie")]++[PV.str (Str.ofString "NoValue"),PV.str (Str.ofString "NoWorld")])) (ne_none e12 hr3)).trans e12
   have s12:=s10.put (o:=.lst [PV.str (Str.ofString "NoValue"),PV.str (Str.ofString "NoWorld")]) (s10.free hp3)
   have s13:=s12.put (o:=.lst ([PV.str (Str.ofString "BadPaper"),PV.str (Str.ofString "BadStep"),PV.str (Str.ofString "NoAnswer"),PV.str (Str.ofString "NoBow"),PV.str (Str.ofString "NoCount"),PV.str (Str.ofString "NoDoor"),PV.str (Str.ofString "NoFormula"),PV.str (Str.ofString "NoFraction"),PV.str (Str.ofString "NoName")]++[PV.str (Str.ofString "NoNest"),PV.str (Str.ofString "NoQuestion"),PV.str (Str.ofString "NoRoad"),PV.str (Str.ofString "NoRule"),PV.str (Str.ofString "NoSets"),PV.str (Str.ofString "NoShare"),PV.str (Str.ofString "NoText"),PV.str (Str.ofString "NoThinning"),PV.str (Str.ofString "NoTie")]++[PV.str (Str.ofString "NoValue"),PV.str (Str.ofString "NoWorld")])) (s12.free hr3)
   refine⟨⟨_,e13⟩,[false,false,false,false,false,false,false,false,false,false,false,false,false,true,false,false,false,false,false,false],e13,by decide,?_⟩
   exact(show ∃H3,U.Sub H3 _/\Q (.str (Str.ofString "NoSets")) H3 from⟨H,s13,h⟩)
 ·exact h.elim
theorem G_zK(T:Tx K mg t):FnOk' P w K mg base CX0 9 t.a_zK t.d_zK ["_law_script"] spL:=by
 refine okU (k:=8) T.F_zK sc_zK (fun vs H Q E h=>by
  unfold spL at h
  split at h
  ·rfl
  ·exact h.elim) (fun cdv A outer s H E B hr=>⟨_,(qss_cons (qs_set (i:=1) sc_zK.nd rfl (by walk_at "o") (qe_call (G_zH T) (hr.mono (by decide)) rfl T.g_zH T.F_zH.kp T.B_zH (qa_cons (qe_call (G_zq T) (hr.mono (by decide)) rfl T.g_zq T.F_zq.kp T.B_zq (qa_cons (qv 0) (qa_cons qe_int qa_nil))) (qa_cons qe_int qa_nil))))
  (qss_cons (qs_set (i:=2) sc_zK.nd rfl (by walk_at "o") (qe_call (G_zs T) (hr.mono (by decide)) rfl T.g_zs T.F_zs.kp T.B_zs (qa_cons (qe_call (G_zH T) (hr.mono (by decide)) rfl T.g_zH T.F_zH.kp T.B_zH (qa_cons (qe_call (G_zq T) (hr.mono (by decide)) rfl T.g_zq T.F_zq.kp T.B_zq (qa_cons (qv 0) (qa_cons qe_int qa_nil))) (qa_cons qe_int qa_nil))) (qa_cons qe_int (qa_cons qe_int qa_nil)))))
  (qss_cons (qs_set (i:=3) sc_zK.nd rfl (by walk_at "o") (qe_call (G_zo T) (hr.mono (by decide)) rfl T.g_zo T.F_zo.kp T.B_zo (qa_cons (qe_call (G_zH T) (hr.mono (by decide)) rfl T.g_zH T.F_zH.kp T.B_zH (qa_cons (qe_call (G_zq T) (hr.mono (by decide)) rfl T.g_zq T.F_zq.kp T.B_zq (qa_cons (qv 0) (qa_cons qe_int qa_nil))) (qa_cons qe_int qa_nil))) (qa_cons (qe_ix (qv 2) qe_int (fun _ _=>rfl)) qa_nil))))
  (qss_cons (qs_if (qt_cmp (op_eqU hr.units) vr_eq (qe_mod (qv 1) qe_int) qe_int (nomark _))
  (qss_one (qs_set (i:=3) sc_zK.nd rfl (by walk_at "o") (qe_call (G_zt T) (hr.mono (by decide)) rfl T.g_zt T.F_zt.kp T.B_zt (qa_cons (qv 3) (qa_cons (qe_fdiv (qv 1) qe_int) (qa_cons (qe_ix (qv 2) qe_int (fun _ _=>rfl)) qa_nil))))))
  qss_nil)
  (qss_cons (qs_set (i:=4) sc_zK.nd rfl (by walk_at "o") (qe_call (G_zE T) (hr.mono (by decide)) rfl T.g_zE T.F_zE.kp T.B_zE (qa_cons (qe_ix (qv 2) qe_int (fun _ _=>rfl)) (qa_cons (qv 3) qa_nil))))
  (qss_cons (qs_set (i:=5) sc_zK.nd rfl (by walk_at "o") (qe_make T.mk_Drawing (G_zm T) (hr.mono (by decide)) rfl T.g_Drawing T.B_zm (qa_cons (qe_ix (qv 2) qe_int (fun _ _=>rfl)) (qa_cons (qe_callTy call_list_of vc_list rfl T.b_list boot_list (qa_cons (qe_ix (qv 2) qe_int (fun _ _=>rfl)) qa_nil)) (qa_cons (qe_callTy call_list_of vc_list rfl T.b_list boot_list (qa_cons (qe_ix (qv 2) qe_int (fun _ _=>rfl)) qa_nil)) qa_nil)))))
  (qss_cons (qs_set (i:=6) sc_zK.nd rfl (by walk_at "o") qe_non)
  (qss_cons (qs_set (i:=7) sc_zK.nd rfl (by walk_at "o") qe_non)
  (qss_cons (qs_try (i:=8) (j:=7) ⟨rfl,rfl,rfl⟩ sc_zK.nd rfl rfl rfl rfl T.x_DoingError rfl T.g_DoingError
  (qxs_one (qx_set (i:=6) sc_zK.nd rfl (Or.inl rfl) (px_call ⟨rfl,rfl,rfl⟩ (G_zF T) (hr.mono (by decide)) rfl T.g_zJ T.F_zJ.kp T.B_zJ (qa_cons (qv 5) (qa_cons (qv 3) qa_nil))))))
  (qss_cons (qs_if (qt_cmp (op_neU hr.units) vr_eq (qv 4) qe_str (nomark _))
  (qss_one (qs_ret (qe_cmp (op_eqU hr.units) vr_eq (qe_call (G_zx T) (hr.mono (by decide)) rfl T.g_zx T.F_zx.kp T.B_zx (qa_cons (qv 7) qa_nil)) (qv 4) (nomark _))))
  qss_nil)
  (qss_cons (qs_set (i:=9) sc_zK.nd rfl (by walk_at "o") (qe_call (G_zu T) (hr.mono (by decide)) rfl T.g_zu T.F_zu.kp T.B_zu (qa_cons (qv 2) (qa_cons (qv 3) qa_nil))))
  (qss_cons (qs_if (qt_bool (qw_or (qt_cmp op_notN vr_notN (qv 7) qe_non (nomark _)) (qw_or (qt_not (qt_val (qe_callB (call_isiB .tuple) (vc_isi .tuple) rfl T.b_isinstance boot_isinstance (qa_cons (qv 6) (qa_cons (qe_bty rfl T.b_tuple boot_tuple) qa_nil))))) (qw_or1 (qt_cmp (op_neP hr.units) vr_eqP (qv 6) (qe_tup (qa_cons (qv 9) (qa_cons (qe_call (G_zy T) (hr.mono (by decide)) rfl T.g_zy T.F_zy.kp T.B_zy (qa_cons (qv 2) (qa_cons (qv 9) qa_nil))) qa_nil))) (nomark _))))))
  (qss_one (qs_ret qe_bl))
  qss_nil)
  (qss_cons (qs_expr (qe_bm0 PySem.F.slot_list_clear PySem.F.type_list_clear mt_clear vm_clear hl_clear (qe_ix (qv 6) qe_int (fun _ _=>rfl))))
  (qss_one (qs_ret (qe_cmp (op_eqP hr.units) vr_eqP (qe_call (G_zJ T) (hr.mono (by decide)) rfl T.g_zJ T.F_zJ.kp T.B_zJ (qa_cons (qv 5) (qa_cons (qv 3) qa_nil))) (qe_tup (qa_cons (qv 9) (qa_cons (qe_call (G_zy T) (hr.mono (by decide)) rfl T.g_zy T.F_zy.kp T.B_zy (qa_cons (qv 2) (qa_cons (qv 9) qa_nil))) qa_nil))) (nomark _))))))))))))))))),?_⟩)
 intro vs H Q E h
 unfold spL at h
 split at h
 ·rename_i l
  obtain⟨ns,rfl,hl,h⟩:=h
  refine seq_abs fun R hR=>?_
  walk_at "r"
  refine⟨⟨by decide,by decide⟩,ns,rfl,⟨by decide,by decide⟩,fun hd=>?_⟩
  subst hR
  refine seq_abs fun R hR=>?_
  walk_at "r"
  refine⟨⟨by decide,by decide⟩,ns,rfl,⟨by decide,by decide⟩,fun n1=>⟨⟨by decide,by decide⟩,fun c ts bs sh H1 ok _ sts sbs s1 hs=>?_⟩⟩
  subst hR
  have c1:=ok.c1
  have c6:=ok.c6
  obtain⟨q1,q2,e1,e2,e3⟩:=id hs
  refine seq_abs fun R hR=>?_
  walk_at "r"
  refine⟨⟨by decide,by decide⟩,ns,rfl,⟨by decide,by decide⟩,fun n2=>⟨_,e1,?_⟩⟩
  rw[at3_0]
  walk_at "r"
  refine⟨⟨by omega,by omega⟩,fun A0 B0 hq0=>?_⟩
  subst hR
  unfold qV at *
  refine seq_abs fun R hR=>?_
  have la0:=hq0.a.len c6
  have lb0:=hq0.b.len c6
  suffices key:∀A B:List Int,A.length≤20->B.length≤20->R { nx:=fun _ H=>∃H3,U.Sub H3 H/\Q .non H3,rt:=fun v H=>∃H3,U.Sub H3 H/\Q v H3 } [some (.fls (ns.map PV.int)),some (.int hd),some (.ref sh),some (.tup [.tup (A.map PV.int),.tup (B.map PV.int)]),none,none,none,none,none,none] H1 by
   walk_at "r"
   refine⟨by decide,cif_by (fun _=>?_) (fun _=>key A0 B0 (by omega) (by omega))⟩
   refine⟨cdvB (by decide) (by decide),_,e1,?_⟩
   rw[at3_0]
   walk_at "r"
   exact⟨A0,B0,rfl,⟨c1,c6⟩,la0,lb0,fun A2 B2 l2 l3=>key A2 B2 l2 l3⟩
  intro A B lA lB
  subst hR
  dsimp only
  refine seq_abs fun R hR=>?_
  walk_at "r"
  refine⟨_,e1,?_⟩
  rw[at3_0]
  walk_at "r"
  refine⟨A,B,rfl,lA,lB,fun nm du=>?_⟩
  subst hR
  have s0:=Sub.refl H1
  refine seq_abs fun R hR=>?_
  walk_at "r"
  refine⟨_,s0 _ _ e1,?_⟩
  rw[at3_0]
  walk_at "r"
  refine⟨_,s0 _ _ e1,?_⟩
  rw[at3_1]
  walk_at "r"
  refine⟨_,s0 _ _ e2,fun p5 hp5=>⟨_,(put_ne (ne_none (s0 _ _ e1) hp5)).trans (s0 _ _ e1),?_⟩⟩
  rw[at3_2]
  walk_at "r"
  refine⟨_,(put_ne (ne_none (s0 _ _ e3) hp5)).trans (s0 _ _ e3),fun p6 hp6 x dx hx hdx nd=>?_⟩
  have n56:p5≠p6:=fun e=>by subst e;rw[put_same]at hp6;cases hp6
  have sa:=s0.put (o:=.lst (ts.map prV)) (s0.free hp5)
  have sb:=sa.put (o:=.lst (bs.map prV)) (sa.free hp6)
  have i1:put (put H1 p5 (.lst (ts.map prV))) p6 (.lst (bs.map prV)) p5=some (.lst (ts.map prV)):=(put_ne n56).trans put_same
  have i2:put (put H1 p5 (.lst (ts.map prV))) p6 (.lst (bs.map prV)) p6=some (.lst (bs.map prV)):=put_same
  generalize put (put H1 p5 (.lst (ts.map prV))) p6 (.lst (bs.map prV))=H6 at *
  have sc:=(Sub.refl H6).put (o:=.ins t.a_Drawing dx []) hx
  refine⟨dx,_,_,ts,bs,rfl,sc _ _ i1,sc _ _ i2,rows_prV,rows_prV,ok.gt,ok.gb,⟨c1,c6,ok.b6⟩,fun T1 B1 pT sT pB sB=>?_⟩
  rw[put_put]
  have eT:=DM.perm_eq (List.Perm.refl _) sts pT sT
  have eB:=DM.perm_eq (List.Perm.refl _) sbs pB sB
  subst eT;subst eB
  have sd:=sb.put (o:=.ins t.a_Drawing dx (DF c ts bs)) (sb.free hx)
  have x3:put H6 x (.ins t.a_Drawing dx (DF c ts bs)) x=some (.ins t.a_Drawing dx (DF c ts bs)):=put_same
  generalize put H6 x (.ins t.a_Drawing dx (DF c ts bs))=H7 at *
  have okd:OkD c ts bs:=⟨c1,c6,ok.gt,ok.gb,sts,sbs,ok.b6⟩
  subst hR
  refine seq_abs fun R hR=>?_
  walk_at "r"
  subst hR
  refine seq_abs fun R hR=>?_
  walk_at "r"
  subst hR
  refine seq_abs fun R hR=>?_
  walk_at "r"
  refine⟨c,ts,bs,A,B,rfl,⟨dx,x3⟩,okd,fun hq W Ls r H8 hr7 s8 wn er l6=>?_,fun bad H8 s8=>?_,fun nA nB bad H8 s8=>?_⟩
  ·obtain rfl:nm="":=by
    rcases du with⟨z1,e⟩ |⟨z1,z2,e⟩ |⟨z1,e⟩
    ·exact absurd ⟨hq.a,hq.b⟩ z1
    ·exact absurd ⟨hq.ap,hq.ne⟩ z2
    ·exact e
   subst hR
   refine seq_abs fun R hR=>?_
   walk_at "r"
   refine cif_neg (by decide +kernel) ?_
   subst hR
   have s18:=sd.trans s8
   have okS:=ok
   refine seq_abs fun R hR=>?_
   walk_at "r"
   refine⟨c,ts,bs,A,B,hs.up s18,ok,rfl,hq,fun M mu mi=>?_⟩
   have eM:M=W:=My.rising_one mu wn.nms.up fun y=>(mi y).trans (wn.iff y).symm
   subst eM
   subst hR
   refine seq_abs fun R hR=>?_
   walk_at "r"
   refine⟨c,ts,bs,M,hs.up s18,ok,.inl rfl,wn.nms,fun r2 Ms H9 s9 er2 lm lm6=>?_⟩
   have eL:Ms=Ls:=lm.one wn.lm
   subst eL
   refine⟨small_size (by decide),_,s9 _ _ er,_,er2,⟨flat_ints7,flat_tups7,flat_ints7,flat_tups7⟩,?_⟩
   rw[deqs_ints,deqs_tups]
   refine cif_neg (by simp) ?_
   subst hR
   have t7:U.Sub H7 (put H9 r (.lst [])):=fun b o e=>(put_ne (fun z=>by subst z;rw[hr7]at e;cases e)).trans ((s8.trans s9) b o e)
   refine seq_abs fun R hR=>?_
   walk_at "r"
   refine⟨_,s9 _ _ er,?_⟩
   generalize put H9 r (.lst [])=H10 at *
   subst hR
   walk_at "r"
   refine⟨c,ts,bs,A,B,rfl,⟨dx,t7 _ _ x3⟩,okd,hq,fun W2 L2 r3 H11 t11 wn2 er3 l26=>?_⟩
   obtain⟨ew,el⟩:=wn.one wn2
   subst ew;subst el
   refine⟨c,ts,bs,M,hs.up ((sd.trans t7).trans t11),ok,.inl rfl,wn.nms,fun r4 L4 H12 t12 er4 lm4 _=>?_⟩
   have eL4:=lm4.one wn.lm
   subst eL4
   refine⟨small_size (by decide),_,t12 _ _ er3,_,er4,⟨flat_ints7,flat_tups7,flat_ints7,flat_tups7⟩,H,((((s1.trans sd).trans t7).trans t11).trans t12),?_⟩
   rw[deqs_ints,deqs_tups]
   simpa using h
  ·
   obtain rfl:nm="NoName":=by
    rcases du with⟨z1,e⟩ |⟨z1,z2,e⟩ |⟨z1,e⟩
    ·exact e
    ·exact absurd z1 bad
    ·exact absurd ⟨z1.a,z1.b⟩ bad
   refine⟨_,rfl,⟨T.x_NoName,T.s_NoName⟩,fun a ha=>?_⟩
   subst hR
   refine seq_abs fun R hR=>?_
   walk_at "r"
   have sx:=(s1.trans sd).trans s8
   refine cif_pos (by decide +kernel) ⟨_,"NoName",rfl,.inl ⟨rfl,rfl⟩,H,sx.put (sx.free ha),?_⟩
   rw[beq_self_eq_true]
   exact h
  ·
   obtain rfl:nm="NoSets":=by
    rcases du with⟨z1,e⟩ |⟨z1,z2,e⟩ |⟨z1,e⟩
    ·exact absurd ⟨nA,nB⟩ z1
    ·exact e
    ·exact absurd ⟨z1.ap,z1.ne⟩ bad
   refine⟨_,rfl,⟨T.x_NoSets,T.s_NoSets⟩,fun a ha=>?_⟩
   subst hR
   refine seq_abs fun R hR=>?_
   walk_at "r"
   have sx:=(s1.trans sd).trans s8
   refine cif_pos (by decide +kernel) ⟨_,"NoSets",rfl,.inr ⟨rfl,rfl⟩,H,sx.put (sx.free ha),?_⟩
   rw[beq_self_eq_true]
   exact h
 ·exact h.elim
end
theorem txt_mk{K:PySem.W.Frag}{h:Heap}{mg:Str->Option Value}{f_zG f_zz f_zI f_zr f_zD f_zm f_zb f_zc f_ze f_za f_zj f_zd f_zh f_zk f_zC f_zv f_zg f_zn f_zJ f_zq f_zH f_zs f_zo f_zA f_zy f_zu f_zx f_zl f_zt f_zE f_zK k_BadPaper k_BadStep k_DoingError k_Drawing k_NoAnswer k_NoBow k_NoCount k_NoDoor k_NoFormula k_NoFraction k_NoName k_NoNest k_NoQuestion k_NoRoad k_NoRule k_NoSets k_NoShare k_NoText k_NoThinning k_NoTie k_NoValue k_NoWorld:Addr}(X:K.In h)(G:h.Ns mainGlobals mg)
  {od_zG an_zG od_zz an_zz od_zI an_zI od_zr an_zr od_zD an_zD od_zm an_zm od_zb an_zb od_zc an_zc od_ze an_ze od_za an_za od_zj an_zj od_zd an_zd od_zh an_zh od_zk an_zk od_zC an_zC od_zv an_zv od_zg an_zg od_zn an_zn od_zJ an_zJ od_zq an_zq od_zH an_zH od_zs an_zs od_zo an_zo od_zA an_zA od_zy an_zy od_zu an_zu od_zx an_zx od_zl an_zl od_zt an_zt od_zE an_zE od_zK an_zK:Option Addr} {sl_zG sl_zz sl_zI sl_zr sl_zD sl_zm sl_zb sl_zc sl_ze sl_za sl_zj sl_zd sl_zh sl_zk sl_zC sl_zv sl_zg sl_zn sl_zJ sl_zq sl_zH sl_zs sl_zo sl_zA sl_zy sl_zu sl_zx sl_zl sl_zt sl_zE sl_zK:Array (Option Value)} {oc_zG kV_zG dc_zG pm_zG cd_zG ct_zG oc_zz kV_zz dc_zz pm_zz cd_zz ct_zz oc_zI kV_zI dc_zI pm_zI cd_zI ct_zI oc_zr kV_zr dc_zr pm_zr cd_zr ct_zr oc_zD kV_zD dc_zD pm_zD cd_zD ct_zD oc_zm kV_zm dc_zm pm_zm cd_zm ct_zm oc_zb kV_zb dc_zb pm_zb cd_zb ct_zb oc_zc kV_zc dc_zc pm_zc cd_zc ct_zc oc_ze kV_ze dc_ze pm_ze cd_ze ct_ze oc_za kV_za dc_za pm_za cd_za ct_za oc_zj kV_zj dc_zj pm_zj cd_zj ct_zj oc_zd kV_zd dc_zd pm_zd cd_zd ct_zd oc_zh kV_zh dc_zh pm_zh cd_zh ct_zh oc_zk kV_zk dc_zk pm_zk cd_zk ct_zk oc_zC kV_zC dc_zC pm_zC cd_zC ct_zC oc_zv kV_zv dc_zv pm_zv cd_zv ct_zv oc_zg kV_zg dc_zg pm_zg cd_zg ct_zg oc_zn kV_zn dc_zn pm_zn cd_zn ct_zn oc_zJ kV_zJ dc_zJ pm_zJ cd_zJ ct_zJ oc_zq kV_zq dc_zq pm_zq cd_zq ct_zq oc_zH kV_zH dc_zH pm_zH cd_zH ct_zH oc_zs kV_zs dc_zs pm_zs cd_zs ct_zs oc_zo kV_zo dc_zo pm_zo cd_zo ct_zo oc_zA kV_zA dc_zA pm_zA cd_zA ct_zA oc_zy kV_zy dc_zy pm_zy cd_zy ct_zy oc_zu kV_zu dc_zu pm_zu cd_zu ct_zu oc_zx kV_zx dc_zx pm_zx cd_zx ct_zx oc_zl kV_zl dc_zl pm_zl cd_zl ct_zl oc_zt kV_zt dc_zt pm_zt cd_zt ct_zt oc_zE kV_zE dc_zE pm_zE cd_zE ct_zE oc_zK kV_zK dc_zK pm_zK cd_zK ct_zK:Value}
  {tk_MOST_BOWS tk_MOST_NAMES:Tok}
  (C_BadPaper:PySem.W.nsIn K mainGlobals "BadPaper"=some (some (.ref k_BadPaper)))
  (C_BadStep:PySem.W.nsIn K mainGlobals "BadStep"=some (some (.ref k_BadStep)))
  (C_DoingError:PySem.W.nsIn K mainGlobals "DoingError"=some (some (.ref k_DoingError)))
  (C_Drawing:PySem.W.nsIn K mainGlobals "Drawing"=some (some (.ref k_Drawing)))
  (C_NoAnswer:PySem.W.nsIn K mainGlobals "NoAnswer"=some (some (.ref k_NoAnswer)))
  (C_NoBow:PySem.W.nsIn K mainGlobals "NoBow"=some (some (.ref k_NoBow)))
  (C_NoCount:PySem.W.nsIn K mainGlobals "NoCount"=some (some (.ref k_NoCount)))
  (C_NoDoor:PySem.W.nsIn K mainGlobals "NoDoor"=some (some (.ref k_NoDoor)))
  (C_NoFormula:PySem.W.nsIn K mainGlobals "NoFormula"=some (some (.ref k_NoFormula)))
  (C_NoFraction:PySem.W.nsIn K mainGlobals "NoFraction"=some (some (.ref k_NoFraction)))
  (C_NoName:PySem.W.nsIn K mainGlobals "NoName"=some (some (.ref k_NoName)))
  (C_NoNest:PySem.W.nsIn K mainGlobals "NoNest"=some (some (.ref k_NoNest)))
  (C_NoQuestion:PySem.W.nsIn K mainGlobals "NoQuestion"=some (some (.ref k_NoQuestion)))
  (C_NoRoad:PySem.W.nsIn K mainGlobals "NoRoad"=some (some (.ref k_NoRoad)))
  (C_NoRule:PySem.W.nsIn K mainGlobals "NoRule"=some (some (.ref k_NoRule)))
  (C_NoSets:PySem.W.nsIn K mainGlobals "NoSets"=some (some (.ref k_NoSets)))
  (C_NoShare:PySem.W.nsIn K mainGlobals "NoShare"=some (some (.ref k_NoShare)))
  (C_NoText:PySem.W.nsIn K mainGlobals "NoText"=some (some (.ref k_NoText)))
  (C_NoThinning:PySem.W.nsIn K mainGlobals "NoThinning"=some (some (.ref k_NoThinning)))
  (C_NoTie:PySem.W.nsIn K mainGlobals "NoTie"=some (some (.ref k_NoTie)))
  (C_NoValue:PySem.W.nsIn K mainGlobals "NoValue"=some (some (.ref k_NoValue)))
  (C_NoWorld:PySem.W.nsIn K mainGlobals "NoWorld"=some (some (.ref k_NoWorld)))
  (a_zG:PySem.W.nsIn K mainGlobals "is_pair"=some (some (.ref f_zG)))
  (l_zG:K.lookup f_zG=some ⟨oc_zG,od_zG,.func (PySem.W.fnOf "is_pair" "is_pair" (defArgs s_zG) (defBody s_zG) (defScope s_zG) .none kV_zG dc_zG pm_zG an_zG cd_zG ct_zG),sl_zG⟩)
  (c_zG:PySem.W.codeIn K cd_zG "is_pair"=true)
  (k_zG:PySem.W.keepIn K (.ref f_zG)=true)
  (a_zz:PySem.W.nsIn K mainGlobals "are_pairs"=some (some (.ref f_zz)))
  (l_zz:K.lookup f_zz=some ⟨oc_zz,od_zz,.func (PySem.W.fnOf "are_pairs" "are_pairs" (defArgs s_zz) (defBody s_zz) (defScope s_zz) .none kV_zz dc_zz pm_zz an_zz cd_zz ct_zz),sl_zz⟩)
  (c_zz:PySem.W.codeIn K cd_zz "are_pairs"=true)
  (k_zz:PySem.W.keepIn K (.ref f_zz)=true)
  (a_zI:PySem.W.nsIn K mainGlobals "is_set"=some (some (.ref f_zI)))
  (l_zI:K.lookup f_zI=some ⟨oc_zI,od_zI,.func (PySem.W.fnOf "is_set" "is_set" (defArgs s_zI) (defBody s_zI) (defScope s_zI) .none kV_zI dc_zI pm_zI an_zI cd_zI ct_zI),sl_zI⟩)
  (c_zI:PySem.W.codeIn K cd_zI "is_set"=true)
  (k_zI:PySem.W.keepIn K (.ref f_zI)=true)
  (a_zr:PySem.W.nsIn K mainGlobals "names_up_to"=some (some (.ref f_zr)))
  (l_zr:K.lookup f_zr=some ⟨oc_zr,od_zr,.func (PySem.W.fnOf "names_up_to" "names_up_to" (defArgs s_zr) (defBody s_zr) (defScope s_zr) .none kV_zr dc_zr pm_zr an_zr cd_zr ct_zr),sl_zr⟩)
  (c_zr:PySem.W.codeIn K cd_zr "names_up_to"=true)
  (k_zr:PySem.W.keepIn K (.ref f_zr)=true)
  (a_zD:PySem.W.nsIn K mainGlobals "without"=some (some (.ref f_zD)))
  (l_zD:K.lookup f_zD=some ⟨oc_zD,od_zD,.func (PySem.W.fnOf "without" "without" (defArgs s_zD) (defBody s_zD) (defScope s_zD) .none kV_zD dc_zD pm_zD an_zD cd_zD ct_zD),sl_zD⟩)
  (c_zD:PySem.W.codeIn K cd_zD "without"=true)
  (k_zD:PySem.W.keepIn K (.ref f_zD)=true)
  (a_zm:PySem.W.findIn K (.ref k_Drawing) "__init__"=some (some (.ref f_zm)))
  (i_zm:PySem.W.isFn K (.ref f_zm)=true)
  (l_zm:K.lookup f_zm=some ⟨oc_zm,od_zm,.func (PySem.W.fnOf "__init__" "Drawing.__init__" (defArgs s_zm) (defBody s_zm) (defScope s_zm) .none kV_zm dc_zm pm_zm an_zm cd_zm ct_zm),sl_zm⟩)
  (c_zm:PySem.W.codeIn K cd_zm "Drawing.__init__"=true)
  (k_zm:PySem.W.keepIn K (.ref f_zm)=true)
  (a_zb:PySem.W.findIn K (.ref k_Drawing) "need_name"=some (some (.ref f_zb)))
  (i_zb:PySem.W.isFn K (.ref f_zb)=true)
  (l_zb:K.lookup f_zb=some ⟨oc_zb,od_zb,.func (PySem.W.fnOf "need_name" "Drawing.need_name" (defArgs s_zb) (defBody s_zb) (defScope s_zb) .none kV_zb dc_zb pm_zb an_zb cd_zb ct_zb),sl_zb⟩)
  (c_zb:PySem.W.codeIn K cd_zb "Drawing.need_name"=true)
  (k_zb:PySem.W.keepIn K (.ref f_zb)=true)
  (a_zc:PySem.W.findIn K (.ref k_Drawing) "need_set"=some (some (.ref f_zc)))
  (i_zc:PySem.W.isFn K (.ref f_zc)=true)
  (l_zc:K.lookup f_zc=some ⟨oc_zc,od_zc,.func (PySem.W.fnOf "need_set" "Drawing.need_set" (defArgs s_zc) (defBody s_zc) (defScope s_zc) .none kV_zc dc_zc pm_zc an_zc cd_zc ct_zc),sl_zc⟩)
  (c_zc:PySem.W.codeIn K cd_zc "Drawing.need_set"=true)
  (k_zc:PySem.W.keepIn K (.ref f_zc)=true)
  (a_ze:PySem.W.findIn K (.ref k_Drawing) "sources"=some (some (.ref f_ze)))
  (i_ze:PySem.W.isFn K (.ref f_ze)=true)
  (l_ze:K.lookup f_ze=some ⟨oc_ze,od_ze,.func (PySem.W.fnOf "sources" "Drawing.sources" (defArgs s_ze) (defBody s_ze) (defScope s_ze) .none kV_ze dc_ze pm_ze an_ze cd_ze ct_ze),sl_ze⟩)
  (c_ze:PySem.W.codeIn K cd_ze "Drawing.sources"=true)
  (k_ze:PySem.W.keepIn K (.ref f_ze)=true)
  (a_za:PySem.W.findIn K (.ref k_Drawing) "ancestors"=some (some (.ref f_za)))
  (i_za:PySem.W.isFn K (.ref f_za)=true)
  (l_za:K.lookup f_za=some ⟨oc_za,od_za,.func (PySem.W.fnOf "ancestors" "Drawing.ancestors" (defArgs s_za) (defBody s_za) (defScope s_za) .none kV_za dc_za pm_za an_za cd_za ct_za),sl_za⟩)
  (c_za:PySem.W.codeIn K cd_za "Drawing.ancestors"=true)
  (k_za:PySem.W.keepIn K (.ref f_za)=true)
  (a_zj:PySem.W.findIn K (.ref k_Drawing) "bowed"=some (some (.ref f_zj)))
  (i_zj:PySem.W.isFn K (.ref f_zj)=true)
  (l_zj:K.lookup f_zj=some ⟨oc_zj,od_zj,.func (PySem.W.fnOf "bowed" "Drawing.bowed" (defArgs s_zj) (defBody s_zj) (defScope s_zj) .none kV_zj dc_zj pm_zj an_zj cd_zj ct_zj),sl_zj⟩)
  (c_zj:PySem.W.codeIn K cd_zj "Drawing.bowed"=true)
  (k_zj:PySem.W.keepIn K (.ref f_zj)=true)
  (a_zd:PySem.W.findIn K (.ref k_Drawing) "lump_of"=some (some (.ref f_zd)))
  (i_zd:PySem.W.isFn K (.ref f_zd)=true)
  (l_zd:K.lookup f_zd=some ⟨oc_zd,od_zd,.func (PySem.W.fnOf "lump_of" "Drawing.lump_of" (defArgs s_zd) (defBody s_zd) (defScope s_zd) .none kV_zd dc_zd pm_zd an_zd cd_zd ct_zd),sl_zd⟩)
  (c_zd:PySem.W.codeIn K cd_zd "Drawing.lump_of"=true)
  (k_zd:PySem.W.keepIn K (.ref f_zd)=true)
  (a_zh:PySem.W.findIn K (.ref k_Drawing) "lumps"=some (some (.ref f_zh)))
  (i_zh:PySem.W.isFn K (.ref f_zh)=true)
  (l_zh:K.lookup f_zh=some ⟨oc_zh,od_zh,.func (PySem.W.fnOf "lumps" "Drawing.lumps" (defArgs s_zh) (defBody s_zh) (defScope s_zh) .none kV_zh dc_zh pm_zh an_zh cd_zh ct_zh),sl_zh⟩)
  (c_zh:PySem.W.codeIn K cd_zh "Drawing.lumps"=true)
  (k_zh:PySem.W.keepIn K (.ref f_zh)=true)
  (a_zk:PySem.W.findIn K (.ref k_Drawing) "part"=some (some (.ref f_zk)))
  (i_zk:PySem.W.isFn K (.ref f_zk)=true)
  (l_zk:K.lookup f_zk=some ⟨oc_zk,od_zk,.func (PySem.W.fnOf "part" "Drawing.part" (defArgs s_zk) (defBody s_zk) (defScope s_zk) .none kV_zk dc_zk pm_zk an_zk cd_zk ct_zk),sl_zk⟩)
  (c_zk:PySem.W.codeIn K cd_zk "Drawing.part"=true)
  (k_zk:PySem.W.keepIn K (.ref f_zk)=true)
  (a_zC:PySem.W.nsIn K mainGlobals "need_sets"=some (some (.ref f_zC)))
  (l_zC:K.lookup f_zC=some ⟨oc_zC,od_zC,.func (PySem.W.fnOf "need_sets" "need_sets" (defArgs s_zC) (defBody s_zC) (defScope s_zC) .none kV_zC dc_zC pm_zC an_zC cd_zC ct_zC),sl_zC⟩)
  (c_zC:PySem.W.codeIn K cd_zC "need_sets"=true)
  (k_zC:PySem.W.keepIn K (.ref f_zC)=true)
  (a_zv:PySem.W.nsIn K mainGlobals "need_apart"=some (some (.ref f_zv)))
  (l_zv:K.lookup f_zv=some ⟨oc_zv,od_zv,.func (PySem.W.fnOf "need_apart" "need_apart" (defArgs s_zv) (defBody s_zv) (defScope s_zv) .none kV_zv dc_zv pm_zv an_zv cd_zv ct_zv),sl_zv⟩)
  (c_zv:PySem.W.codeIn K cd_zv "need_apart"=true)
  (k_zv:PySem.W.keepIn K (.ref f_zv)=true)
  (a_zg:PySem.W.nsIn K mainGlobals "need_question"=some (some (.ref f_zg)))
  (l_zg:K.lookup f_zg=some ⟨oc_zg,od_zg,.func (PySem.W.fnOf "need_question" "need_question" (defArgs s_zg) (defBody s_zg) (defScope s_zg) .none kV_zg dc_zg pm_zg an_zg cd_zg ct_zg),sl_zg⟩)
  (c_zg:PySem.W.codeIn K cd_zg "need_question"=true)
  (k_zg:PySem.W.keepIn K (.ref f_zg)=true)
  (a_zn:PySem.W.nsIn K mainGlobals "wanted_names"=some (some (.ref f_zn)))
  (l_zn:K.lookup f_zn=some ⟨oc_zn,od_zn,.func (PySem.W.fnOf "wanted_names" "wanted_names" (defArgs s_zn) (defBody s_zn) (defScope s_zn) .none kV_zn dc_zn pm_zn an_zn cd_zn ct_zn),sl_zn⟩)
  (c_zn:PySem.W.codeIn K cd_zn "wanted_names"=true)
  (k_zn:PySem.W.keepIn K (.ref f_zn)=true)
  (a_zJ:PySem.W.nsIn K mainGlobals "wanted"=some (some (.ref f_zJ)))
  (l_zJ:K.lookup f_zJ=some ⟨oc_zJ,od_zJ,.func (PySem.W.fnOf "wanted" "wanted" (defArgs s_zJ) (defBody s_zJ) (defScope s_zJ) .none kV_zJ dc_zJ pm_zJ an_zJ cd_zJ ct_zJ),sl_zJ⟩)
  (c_zJ:PySem.W.codeIn K cd_zJ "wanted"=true)
  (k_zJ:PySem.W.keepIn K (.ref f_zJ)=true)
  (a_zq:PySem.W.nsIn K mainGlobals "_law_cell_at"=some (some (.ref f_zq)))
  (l_zq:K.lookup f_zq=some ⟨oc_zq,od_zq,.func (PySem.W.fnOf "_law_cell_at" "_law_cell_at" (defArgs s_zq) (defBody s_zq) (defScope s_zq) .none kV_zq dc_zq pm_zq an_zq cd_zq ct_zq),sl_zq⟩)
  (c_zq:PySem.W.codeIn K cd_zq "_law_cell_at"=true)
  (k_zq:PySem.W.keepIn K (.ref f_zq)=true)
  (a_zH:PySem.W.nsIn K mainGlobals "_law_mix"=some (some (.ref f_zH)))
  (l_zH:K.lookup f_zH=some ⟨oc_zH,od_zH,.func (PySem.W.fnOf "_law_mix" "_law_mix" (defArgs s_zH) (defBody s_zH) (defScope s_zH) .none kV_zH dc_zH pm_zH an_zH cd_zH ct_zH),sl_zH⟩)
  (c_zH:PySem.W.codeIn K cd_zH "_law_mix"=true)
  (k_zH:PySem.W.keepIn K (.ref f_zH)=true)
  (a_zs:PySem.W.nsIn K mainGlobals "_law_drawing"=some (some (.ref f_zs)))
  (l_zs:K.lookup f_zs=some ⟨oc_zs,od_zs,.func (PySem.W.fnOf "_law_drawing" "_law_drawing" (defArgs s_zs) (defBody s_zs) (defScope s_zs) .none kV_zs dc_zs pm_zs an_zs cd_zs ct_zs),sl_zs⟩)
  (c_zs:PySem.W.codeIn K cd_zs "_law_drawing"=true)
  (k_zs:PySem.W.keepIn K (.ref f_zs)=true)
  (a_zo:PySem.W.nsIn K mainGlobals "_law_question"=some (some (.ref f_zo)))
  (l_zo:K.lookup f_zo=some ⟨oc_zo,od_zo,.func (PySem.W.fnOf "_law_question" "_law_question" (defArgs s_zo) (defBody s_zo) (defScope s_zo) .none kV_zo dc_zo pm_zo an_zo cd_zo ct_zo),sl_zo⟩)
  (c_zo:PySem.W.codeIn K cd_zo "_law_question"=true)
  (k_zo:PySem.W.keepIn K (.ref f_zo)=true)
  (a_zA:PySem.W.nsIn K mainGlobals "_law_upper"=some (some (.ref f_zA)))
  (l_zA:K.lookup f_zA=some ⟨oc_zA,od_zA,.func (PySem.W.fnOf "_law_upper" "_law_upper" (defArgs s_zA) (defBody s_zA) (defScope s_zA) .none kV_zA dc_zA pm_zA an_zA cd_zA ct_zA),sl_zA⟩)
  (c_zA:PySem.W.codeIn K cd_zA "_law_upper"=true)
  (k_zA:PySem.W.keepIn K (.ref f_zA)=true)
  (a_zy:PySem.W.nsIn K mainGlobals "_law_lumps"=some (some (.ref f_zy)))
  (l_zy:K.lookup f_zy=some ⟨oc_zy,od_zy,.func (PySem.W.fnOf "_law_lumps" "_law_lumps" (defArgs s_zy) (defBody s_zy) (defScope s_zy) .none kV_zy dc_zy pm_zy an_zy cd_zy ct_zy),sl_zy⟩)
  (c_zy:PySem.W.codeIn K cd_zy "_law_lumps"=true)
  (k_zy:PySem.W.keepIn K (.ref f_zy)=true)
  (a_zu:PySem.W.nsIn K mainGlobals "_law_wanted"=some (some (.ref f_zu)))
  (l_zu:K.lookup f_zu=some ⟨oc_zu,od_zu,.func (PySem.W.fnOf "_law_wanted" "_law_wanted" (defArgs s_zu) (defBody s_zu) (defScope s_zu) .none kV_zu dc_zu pm_zu an_zu cd_zu ct_zu),sl_zu⟩)
  (c_zu:PySem.W.codeIn K cd_zu "_law_wanted"=true)
  (k_zu:PySem.W.keepIn K (.ref f_zu)=true)
  (a_zx:PySem.W.nsIn K mainGlobals "_law_class"=some (some (.ref f_zx)))
  (l_zx:K.lookup f_zx=some ⟨oc_zx,od_zx,.func (PySem.W.fnOf "_law_class" "_law_class" (defArgs s_zx) (defBody s_zx) (defScope s_zx) .none kV_zx dc_zx pm_zx an_zx cd_zx ct_zx),sl_zx⟩)
  (c_zx:PySem.W.codeIn K cd_zx "_law_class"=true)
  (k_zx:PySem.W.keepIn K (.ref f_zx)=true)
  (a_zl:PySem.W.nsIn K mainGlobals "_law_is_names"=some (some (.ref f_zl)))
  (l_zl:K.lookup f_zl=some ⟨oc_zl,od_zl,.func (PySem.W.fnOf "_law_is_names" "_law_is_names" (defArgs s_zl) (defBody s_zl) (defScope s_zl) .none kV_zl dc_zl pm_zl an_zl cd_zl ct_zl),sl_zl⟩)
  (c_zl:PySem.W.codeIn K cd_zl "_law_is_names"=true)
  (k_zl:PySem.W.keepIn K (.ref f_zl)=true)
  (a_zt:PySem.W.nsIn K mainGlobals "_law_spoilt"=some (some (.ref f_zt)))
  (l_zt:K.lookup f_zt=some ⟨oc_zt,od_zt,.func (PySem.W.fnOf "_law_spoilt" "_law_spoilt" (defArgs s_zt) (defBody s_zt) (defScope s_zt) .none kV_zt dc_zt pm_zt an_zt cd_zt ct_zt),sl_zt⟩)
  (c_zt:PySem.W.codeIn K cd_zt "_law_spoilt"=true)
  (k_zt:PySem.W.keepIn K (.ref f_zt)=true)
  (a_zE:PySem.W.nsIn K mainGlobals "_law_due"=some (some (.ref f_zE)))
  (l_zE:K.lookup f_zE=some ⟨oc_zE,od_zE,.func (PySem.W.fnOf "_law_due" "_law_due" (defArgs s_zE) (defBody s_zE) (defScope s_zE) .none kV_zE dc_zE pm_zE an_zE cd_zE ct_zE),sl_zE⟩)
  (c_zE:PySem.W.codeIn K cd_zE "_law_due"=true)
  (k_zE:PySem.W.keepIn K (.ref f_zE)=true)
  (a_zK:PySem.W.nsIn K mainGlobals "law"=some (some (.ref f_zK)))
  (l_zK:K.lookup f_zK=some ⟨oc_zK,od_zK,.func (PySem.W.fnOf "law" "law" (defArgs s_zK) (defBody s_zK) (defScope s_zK) .none kV_zK dc_zK pm_zK an_zK cd_zK ct_zK),sl_zK⟩)
  (c_zK:PySem.W.codeIn K cd_zK "law"=true)
  (k_zK:PySem.W.keepIn K (.ref f_zK)=true)
  (pg_Drawing:PySem.W.plainGet K k_Drawing Str.empty=true)
  (hd_Drawing:PySem.W.hasDictIn K k_Drawing=true)
  (po_Drawing:PySem.W.plainOver K k_Drawing=true)
  (sa_Drawing:PySem.W.findIn K (.ref k_Drawing) "__setattr__"=some (some (.builtin "object.__setattr__")))
  (mk_Drawing:PySem.W.makesIn K k_Drawing=true)
  (kc_Drawing:PySem.W.keepIn K (.ref k_Drawing)=true)
  (xe_DoingError:PySem.W.excIn K k_DoingError [.type "ValueError",.type "Exception",.type "BaseException",.type "object"] "ValueError.__new__"=true)
  (xo_DoingError:PySem.W.mroIn K k_DoingError (.type "object")=some true)
  (xb_DoingError:PySem.W.mroIn K k_DoingError (.type "BaseException")=some true)
  (xg_DoingError:PySem.W.findIn K (.ref k_DoingError) "__getattribute__"=some (some (.builtin "BaseException.__getattribute__")))
  (xt_DoingError:PySem.W.findIn K (.ref k_DoingError) "__getattr__"=some none)
  (xc_DoingError:PySem.W.findIn K (.ref k_DoingError) "__class__"=some (some (.builtin "object.__class__")))
  (xe_NoName:PySem.W.excIn K k_NoName [.type "ValueError",.type "Exception",.type "BaseException",.type "object"] "ValueError.__new__"=true)
  (xo_NoName:PySem.W.mroIn K k_NoName (.type "object")=some true)
  (xb_NoName:PySem.W.mroIn K k_NoName (.type "BaseException")=some true)
  (xg_NoName:PySem.W.findIn K (.ref k_NoName) "__getattribute__"=some (some (.builtin "BaseException.__getattribute__")))
  (xt_NoName:PySem.W.findIn K (.ref k_NoName) "__getattr__"=some none)
  (xc_NoName:PySem.W.findIn K (.ref k_NoName) "__class__"=some (some (.builtin "object.__class__")))
  (xe_NoSets:PySem.W.excIn K k_NoSets [.type "ValueError",.type "Exception",.type "BaseException",.type "object"] "ValueError.__new__"=true)
  (xo_NoSets:PySem.W.mroIn K k_NoSets (.type "object")=some true)
  (xb_NoSets:PySem.W.mroIn K k_NoSets (.type "BaseException")=some true)
  (xg_NoSets:PySem.W.findIn K (.ref k_NoSets) "__getattribute__"=some (some (.builtin "BaseException.__getattribute__")))
  (xt_NoSets:PySem.W.findIn K (.ref k_NoSets) "__getattr__"=some none)
  (xc_NoSets:PySem.W.findIn K (.ref k_NoSets) "__class__"=some (some (.builtin "object.__class__")))
  (s_NoName:PySem.W.mroIn K k_NoName (.ref k_DoingError)=some true)
  (s_NoSets:PySem.W.mroIn K k_NoSets (.ref k_DoingError)=some true)
  (kk_NoName_ValueError:PySem.W.kitOne K (.ref k_NoName) (.type "ValueError")=some true)
  (kk_NoName_DoingError:PySem.W.kitOne K (.ref k_NoName) (.ref k_DoingError)=some true)
  (kk_NoName_NoWorld:PySem.W.kitOne K (.ref k_NoName) (.ref k_NoWorld)=some false)
  (kk_NoName_NoValue:PySem.W.kitOne K (.ref k_NoName) (.ref k_NoValue)=some false)
  (kk_NoName_NoTie:PySem.W.kitOne K (.ref k_NoName) (.ref k_NoTie)=some false)
  (kk_NoName_NoThinning:PySem.W.kitOne K (.ref k_NoName) (.ref k_NoThinning)=some false)
  (kk_NoName_NoText:PySem.W.kitOne K (.ref k_NoName) (.ref k_NoText)=some false)
  (kk_NoName_NoShare:PySem.W.kitOne K (.ref k_NoName) (.ref k_NoShare)=some false)
  (kk_NoName_NoSets:PySem.W.kitOne K (.ref k_NoName) (.ref k_NoSets)=some false)
  (kk_NoName_NoRule:PySem.W.kitOne K (.ref k_NoName) (.ref k_NoRule)=some false)
  (kk_NoName_NoRoad:PySem.W.kitOne K (.ref k_NoName) (.ref k_NoRoad)=some false)
  (kk_NoName_NoQuestion:PySem.W.kitOne K (.ref k_NoName) (.ref k_NoQuestion)=some false)
  (kk_NoName_NoNest:PySem.W.kitOne K (.ref k_NoName) (.ref k_NoNest)=some false)
  (kk_NoName_NoName:PySem.W.kitOne K (.ref k_NoName) (.ref k_NoName)=some true)
  (kk_NoName_NoFraction:PySem.W.kitOne K (.ref k_NoName) (.ref k_NoFraction)=some false)
  (kk_NoName_NoFormula:PySem.W.kitOne K (.ref k_NoName) (.ref k_NoFormula)=some false)
  (kk_NoName_NoDoor:PySem.W.kitOne K (.ref k_NoName) (.ref k_NoDoor)=some false)
  (kk_NoName_NoCount:PySem.W.kitOne K (.ref k_NoName) (.ref k_NoCount)=some false)
  (kk_NoName_NoBow:PySem.W.kitOne K (.ref k_NoName) (.ref k_NoBow)=some false)
  (kk_NoName_NoAnswer:PySem.W.kitOne K (.ref k_NoName) (.ref k_NoAnswer)=some false)
  (kk_NoName_BadStep:PySem.W.kitOne K (.ref k_NoName) (.ref k_BadStep)=some false)
  (kk_NoName_BadPaper:PySem.W.kitOne K (.ref k_NoName) (.ref k_BadPaper)=some false)
  (kk_NoSets_ValueError:PySem.W.kitOne K (.ref k_NoSets) (.type "ValueError")=some true)
  (kk_NoSets_DoingError:PySem.W.kitOne K (.ref k_NoSets) (.ref k_DoingError)=some true)
  (kk_NoSets_NoWorld:PySem.W.kitOne K (.ref k_NoSets) (.ref k_NoWorld)=some false)
  (kk_NoSets_NoValue:PySem.W.kitOne K (.ref k_NoSets) (.ref k_NoValue)=some false)
  (kk_NoSets_NoTie:PySem.W.kitOne K (.ref k_NoSets) (.ref k_NoTie)=some false)
  (kk_NoSets_NoThinning:PySem.W.kitOne K (.ref k_NoSets) (.ref k_NoThinning)=some false)
  (kk_NoSets_NoText:PySem.W.kitOne K (.ref k_NoSets) (.ref k_NoText)=some false)
  (kk_NoSets_NoShare:PySem.W.kitOne K (.ref k_NoSets) (.ref k_NoShare)=some false)
  (kk_NoSets_NoSets:PySem.W.kitOne K (.ref k_NoSets) (.ref k_NoSets)=some true)
  (kk_NoSets_NoRule:PySem.W.kitOne K (.ref k_NoSets) (.ref k_NoRule)=some false)
  (kk_NoSets_NoRoad:PySem.W.kitOne K (.ref k_NoSets) (.ref k_NoRoad)=some false)
  (kk_NoSets_NoQuestion:PySem.W.kitOne K (.ref k_NoSets) (.ref k_NoQuestion)=some false)
  (kk_NoSets_NoNest:PySem.W.kitOne K (.ref k_NoSets) (.ref k_NoNest)=some false)
  (kk_NoSets_NoName:PySem.W.kitOne K (.ref k_NoSets) (.ref k_NoName)=some false)
  (kk_NoSets_NoFraction:PySem.W.kitOne K (.ref k_NoSets) (.ref k_NoFraction)=some false)
  (kk_NoSets_NoFormula:PySem.W.kitOne K (.ref k_NoSets) (.ref k_NoFormula)=some false)
  (kk_NoSets_NoDoor:PySem.W.kitOne K (.ref k_NoSets) (.ref k_NoDoor)=some false)
  (kk_NoSets_NoCount:PySem.W.kitOne K (.ref k_NoSets) (.ref k_NoCount)=some false)
  (kk_NoSets_NoBow:PySem.W.kitOne K (.ref k_NoSets) (.ref k_NoBow)=some false)
  (kk_NoSets_NoAnswer:PySem.W.kitOne K (.ref k_NoSets) (.ref k_NoAnswer)=some false)
  (kk_NoSets_BadStep:PySem.W.kitOne K (.ref k_NoSets) (.ref k_BadStep)=some false)
  (kk_NoSets_BadPaper:PySem.W.kitOne K (.ref k_NoSets) (.ref k_BadPaper)=some false)
  (z_ValueError:PySem.W.nsIn K mainGlobals "ValueError"=some none)
  (z_all:PySem.W.nsIn K mainGlobals "all"=some none)
  (z_int:PySem.W.nsIn K mainGlobals "int"=some none)
  (z_isinstance:PySem.W.nsIn K mainGlobals "isinstance"=some none)
  (z_len:PySem.W.nsIn K mainGlobals "len"=some none)
  (z_list:PySem.W.nsIn K mainGlobals "list"=some none)
  (z_range:PySem.W.nsIn K mainGlobals "range"=some none)
  (z_reversed:PySem.W.nsIn K mainGlobals "reversed"=some none)
  (z_set:PySem.W.nsIn K mainGlobals "set"=some none)
  (z_sorted:PySem.W.nsIn K mainGlobals "sorted"=some none)
  (z_sum:PySem.W.nsIn K mainGlobals "sum"=some none)
  (z_tuple:PySem.W.nsIn K mainGlobals "tuple"=some none)
  (v_MOST_BOWS:PySem.W.nsIn K mainGlobals "MOST_BOWS"=some (some (.int 6 tk_MOST_BOWS)))
  (v_MOST_NAMES:PySem.W.nsIn K mainGlobals "MOST_NAMES"=some (some (.int 6 tk_MOST_NAMES)))
  (n_Drawing_bows:PySem.W.findIn K (.ref k_Drawing) "bows"=some none)
  (n_Drawing_count:PySem.W.findIn K (.ref k_Drawing) "count"=some none)
  (n_Drawing_ties:PySem.W.findIn K (.ref k_Drawing) "ties"=some none) :
  ∃t:Ad,Tx K mg t/\t.a_zK=f_zK/\∀(s:Shared) (v:Value),BindsTo s t.d_zK ⟨[v],[]⟩ [("_law_script",v)]:=by
 have F_zG:=fun_mk (st:=s_zG) l_zG c_zG k_zG
 have B_zG:=F_zG.binds (ps:=["count","pair"]) fun _ _ _ _ _ _ us hl=>len2 (P:=fun us=>bindArgs _ ⟨us,[]⟩=pure (List.zip _ us)) (fun _ _=>rfl) us hl
 have F_zz:=fun_mk (st:=s_zz) l_zz c_zz k_zz
 have B_zz:=F_zz.binds (ps:=["count","pairs"]) fun _ _ _ _ _ _ us hl=>len2 (P:=fun us=>bindArgs _ ⟨us,[]⟩=pure (List.zip _ us)) (fun _ _=>rfl) us hl
 have F_zI:=fun_mk (st:=s_zI) l_zI c_zI k_zI
 have B_zI:=F_zI.binds (ps:=["count","names"]) fun _ _ _ _ _ _ us hl=>len2 (P:=fun us=>bindArgs _ ⟨us,[]⟩=pure (List.zip _ us)) (fun _ _=>rfl) us hl
 have F_zr:=fun_mk (st:=s_zr) l_zr c_zr k_zr
 have B_zr:=F_zr.binds (ps:=["count"]) fun _ _ _ _ _ _ us hl=>len1 (P:=fun us=>bindArgs _ ⟨us,[]⟩=pure (List.zip _ us)) (fun _=>rfl) us hl
 have F_zD:=fun_mk (st:=s_zD) l_zD c_zD k_zD
 have B_zD:=F_zD.binds (ps:=["names","others"]) fun _ _ _ _ _ _ us hl=>len2 (P:=fun us=>bindArgs _ ⟨us,[]⟩=pure (List.zip _ us)) (fun _ _=>rfl) us hl
 have F_zm:=fun_mk (st:=s_zm) l_zm c_zm k_zm
 have B_zm:=F_zm.binds (ps:=["self","count","ties","bows"]) fun _ _ _ _ _ _ us hl=>len4 (P:=fun us=>bindArgs _ ⟨us,[]⟩=pure (List.zip _ us)) (fun _ _ _ _=>rfl) us hl
 have F_zb:=fun_mk (st:=s_zb) l_zb c_zb k_zb
 have B_zb:=F_zb.binds (ps:=["self","name"]) fun _ _ _ _ _ _ us hl=>len2 (P:=fun us=>bindArgs _ ⟨us,[]⟩=pure (List.zip _ us)) (fun _ _=>rfl) us hl
 have F_zc:=fun_mk (st:=s_zc) l_zc c_zc k_zc
 have B_zc:=F_zc.binds (ps:=["self","names"]) fun _ _ _ _ _ _ us hl=>len2 (P:=fun us=>bindArgs _ ⟨us,[]⟩=pure (List.zip _ us)) (fun _ _=>rfl) us hl
 have F_ze:=fun_mk (st:=s_ze) l_ze c_ze k_ze
 have B_ze:=F_ze.binds (ps:=["self","name"]) fun _ _ _ _ _ _ us hl=>len2 (P:=fun us=>bindArgs _ ⟨us,[]⟩=pure (List.zip _ us)) (fun _ _=>rfl) us hl
 have F_za:=fun_mk (st:=s_za) l_za c_za k_za
 have B_za:=F_za.binds (ps:=["self","names"]) fun _ _ _ _ _ _ us hl=>len2 (P:=fun us=>bindArgs _ ⟨us,[]⟩=pure (List.zip _ us)) (fun _ _=>rfl) us hl
 have F_zj:=fun_mk (st:=s_zj) l_zj c_zj k_zj
 have B_zj:=F_zj.binds (ps:=["self","name"]) fun _ _ _ _ _ _ us hl=>len2 (P:=fun us=>bindArgs _ ⟨us,[]⟩=pure (List.zip _ us)) (fun _ _=>rfl) us hl
 have F_zd:=fun_mk (st:=s_zd) l_zd c_zd k_zd
 have B_zd:=F_zd.binds (ps:=["self","start","names"]) fun _ _ _ _ _ _ us hl=>len3 (P:=fun us=>bindArgs _ ⟨us,[]⟩=pure (List.zip _ us)) (fun _ _ _=>rfl) us hl
 have F_zh:=fun_mk (st:=s_zh) l_zh c_zh k_zh
 have B_zh:=F_zh.binds (ps:=["self","names"]) fun _ _ _ _ _ _ us hl=>len2 (P:=fun us=>bindArgs _ ⟨us,[]⟩=pure (List.zip _ us)) (fun _ _=>rfl) us hl
 have F_zk:=fun_mk (st:=s_zk) l_zk c_zk k_zk
 have B_zk:=F_zk.binds (ps:=["self","names"]) fun _ _ _ _ _ _ us hl=>len2 (P:=fun us=>bindArgs _ ⟨us,[]⟩=pure (List.zip _ us)) (fun _ _=>rfl) us hl
 have F_zC:=fun_mk (st:=s_zC) l_zC c_zC k_zC
 have B_zC:=F_zC.binds (ps:=["drawing","sets"]) fun _ _ _ _ _ _ us hl=>len2 (P:=fun us=>bindArgs _ ⟨us,[]⟩=pure (List.zip _ us)) (fun _ _=>rfl) us hl
 have F_zv:=fun_mk (st:=s_zv) l_zv c_zv k_zv
 have B_zv:=F_zv.binds (ps:=["sets"]) fun _ _ _ _ _ _ us hl=>len1 (P:=fun us=>bindArgs _ ⟨us,[]⟩=pure (List.zip _ us)) (fun _=>rfl) us hl
 have F_zg:=fun_mk (st:=s_zg) l_zg c_zg k_zg
 have B_zg:=F_zg.binds (ps:=["drawing","question"]) fun _ _ _ _ _ _ us hl=>len2 (P:=fun us=>bindArgs _ ⟨us,[]⟩=pure (List.zip _ us)) (fun _ _=>rfl) us hl
 have F_zn:=fun_mk (st:=s_zn) l_zn c_zn k_zn
 have B_zn:=F_zn.binds (ps:=["drawing","question"]) fun _ _ _ _ _ _ us hl=>len2 (P:=fun us=>bindArgs _ ⟨us,[]⟩=pure (List.zip _ us)) (fun _ _=>rfl) us hl
 have F_zJ:=fun_mk (st:=s_zJ) l_zJ c_zJ k_zJ
 have B_zJ:=F_zJ.binds (ps:=["drawing","question"]) fun _ _ _ _ _ _ us hl=>len2 (P:=fun us=>bindArgs _ ⟨us,[]⟩=pure (List.zip _ us)) (fun _ _=>rfl) us hl
 have F_zq:=fun_mk (st:=s_zq) l_zq c_zq k_zq
 have B_zq:=F_zq.binds (ps:=["_law_script","_law_k"]) fun _ _ _ _ _ _ us hl=>len2 (P:=fun us=>bindArgs _ ⟨us,[]⟩=pure (List.zip _ us)) (fun _ _=>rfl) us hl
 have F_zH:=fun_mk (st:=s_zH) l_zH c_zH k_zH
 have B_zH:=F_zH.binds (ps:=["_law_unit","_law_k"]) fun _ _ _ _ _ _ us hl=>len2 (P:=fun us=>bindArgs _ ⟨us,[]⟩=pure (List.zip _ us)) (fun _ _=>rfl) us hl
 have F_zs:=fun_mk (st:=s_zs) l_zs c_zs k_zs
 have B_zs:=F_zs.binds (ps:=["_law_number","_law_least","_law_most"]) fun _ _ _ _ _ _ us hl=>len3 (P:=fun us=>bindArgs _ ⟨us,[]⟩=pure (List.zip _ us)) (fun _ _ _=>rfl) us hl
 have F_zo:=fun_mk (st:=s_zo) l_zo c_zo k_zo
 have B_zo:=F_zo.binds (ps:=["_law_number","_law_count"]) fun _ _ _ _ _ _ us hl=>len2 (P:=fun us=>bindArgs _ ⟨us,[]⟩=pure (List.zip _ us)) (fun _ _=>rfl) us hl
 have F_zA:=fun_mk (st:=s_zA) l_zA c_zA k_zA
 have B_zA:=F_zA.binds (ps:=["_law_shape","_law_names","_law_ends"]) fun _ _ _ _ _ _ us hl=>len3 (P:=fun us=>bindArgs _ ⟨us,[]⟩=pure (List.zip _ us)) (fun _ _ _=>rfl) us hl
 have F_zy:=fun_mk (st:=s_zy) l_zy c_zy k_zy
 have B_zy:=F_zy.binds (ps:=["_law_shape","_law_names"]) fun _ _ _ _ _ _ us hl=>len2 (P:=fun us=>bindArgs _ ⟨us,[]⟩=pure (List.zip _ us)) (fun _ _=>rfl) us hl
 have F_zu:=fun_mk (st:=s_zu) l_zu c_zu k_zu
 have B_zu:=F_zu.binds (ps:=["_law_shape","_law_question_here"]) fun _ _ _ _ _ _ us hl=>len2 (P:=fun us=>bindArgs _ ⟨us,[]⟩=pure (List.zip _ us)) (fun _ _=>rfl) us hl
 have F_zx:=fun_mk (st:=s_zx) l_zx c_zx k_zx
 have B_zx:=F_zx.binds (ps:=["_law_kept"]) fun _ _ _ _ _ _ us hl=>len1 (P:=fun us=>bindArgs _ ⟨us,[]⟩=pure (List.zip _ us)) (fun _=>rfl) us hl
 have F_zl:=fun_mk (st:=s_zl) l_zl c_zl k_zl
 have B_zl:=F_zl.binds (ps:=["_law_count","_law_names"]) fun _ _ _ _ _ _ us hl=>len2 (P:=fun us=>bindArgs _ ⟨us,[]⟩=pure (List.zip _ us)) (fun _ _=>rfl) us hl
 have F_zt:=fun_mk (st:=s_zt) l_zt c_zt k_zt
 have B_zt:=F_zt.binds (ps:=["_law_question_here","_law_number","_law_count"]) fun _ _ _ _ _ _ us hl=>len3 (P:=fun us=>bindArgs _ ⟨us,[]⟩=pure (List.zip _ us)) (fun _ _ _=>rfl) us hl
 have F_zE:=fun_mk (st:=s_zE) l_zE c_zE k_zE
 have B_zE:=F_zE.binds (ps:=["_law_count","_law_question_here"]) fun _ _ _ _ _ _ us hl=>len2 (P:=fun us=>bindArgs _ ⟨us,[]⟩=pure (List.zip _ us)) (fun _ _=>rfl) us hl
 have F_zK:=fun_mk (st:=s_zK) l_zK c_zK k_zK
 have B_zK:=F_zK.binds (ps:=["_law_script"]) fun _ _ _ _ _ _ us hl=>len1 (P:=fun us=>bindArgs _ ⟨us,[]⟩=pure (List.zip _ us)) (fun _=>rfl) us hl
 exact⟨⟨f_zG,_,f_zz,_,f_zI,_,f_zr,_,f_zD,_,f_zm,_,f_zb,_,f_zc,_,f_ze,_,f_za,_,f_zj,_,f_zd,_,f_zh,_,f_zk,_,f_zC,_,f_zv,_,f_zg,_,f_zn,_,f_zJ,_,f_zq,_,f_zH,_,f_zs,_,f_zo,_,f_zA,_,f_zy,_,f_zu,_,f_zx,_,f_zl,_,f_zt,_,f_zE,_,f_zK,_,k_BadPaper,k_BadStep,k_DoingError,k_Drawing,k_NoAnswer,k_NoBow,k_NoCount,k_NoDoor,k_NoFormula,k_NoFraction,k_NoName,k_NoNest,k_NoQuestion,k_NoRoad,k_NoRule,k_NoSets,k_NoShare,k_NoText,k_NoThinning,k_NoTie,k_NoValue,k_NoWorld⟩,⟨F_zG,
  B_zG,
  PySem.W.mg_of X G a_zG,
  F_zz,
  B_zz,
  PySem.W.mg_of X G a_zz,
  F_zI,
  B_zI,
  PySem.W.mg_of X G a_zI,
  F_zr,
  B_zr,
  PySem.W.mg_of X G a_zr,
  F_zD,
  B_zD,
  PySem.W.mg_of X G a_zD,
  F_zm,
  B_zm,
  F_zb,
  B_zb,
  ⟨a_zb,i_zb,k_zb⟩,
  F_zc,
  B_zc,
  ⟨a_zc,i_zc,k_zc⟩,
  F_ze,
  B_ze,
  ⟨a_ze,i_ze,k_ze⟩,
  F_za,
  B_za,
  ⟨a_za,i_za,k_za⟩,
  F_zj,
  B_zj,
  ⟨a_zj,i_zj,k_zj⟩,
  F_zd,
  B_zd,
  ⟨a_zd,i_zd,k_zd⟩,
  F_zh,
  B_zh,
  ⟨a_zh,i_zh,k_zh⟩,
  F_zk,
  B_zk,
  ⟨a_zk,i_zk,k_zk⟩,
  F_zC,
  B_zC,
  PySem.W.mg_of X G a_zC,
  F_zv,
  B_zv,
  PySem.W.mg_of X G a_zv,
  F_zg,
  B_zg,
  PySem.W.mg_of X G a_zg,
  F_zn,
  B_zn,
  PySem.W.mg_of X G a_zn,
  F_zJ,
  B_zJ,
  PySem.W.mg_of X G a_zJ,
  F_zq,
  B_zq,
  PySem.W.mg_of X G a_zq,
  F_zH,
  B_zH,
  PySem.W.mg_of X G a_zH,
  F_zs,
  B_zs,
  PySem.W.mg_of X G a_zs,
  F_zo,
  B_zo,
  PySem.W.mg_of X G a_zo,
  F_zA,
  B_zA,
  PySem.W.mg_of X G a_zA,
  F_zy,
  B_zy,
  PySem.W.mg_of X G a_zy,
  F_zu,
  B_zu,
  PySem.W.mg_of X G a_zu,
  F_zx,
  B_zx,
  PySem.W.mg_of X G a_zx,
  F_zl,
  B_zl,
  PySem.W.mg_of X G a_zl,
  F_zt,
  B_zt,
  PySem.W.mg_of X G a_zt,
  F_zE,
  B_zE,
  PySem.W.mg_of X G a_zE,
  F_zK,
  B_zK,
  PySem.W.mg_of X G a_zK,
  PySem.W.mg_of X G C_BadPaper,
  PySem.W.mg_of X G C_BadStep,
  PySem.W.mg_of X G C_DoingError,
  PySem.W.mg_of X G C_Drawing,
  ⟨pg_Drawing,hd_Drawing,po_Drawing,sa_Drawing⟩,
  ⟨mk_Drawing,a_zm,i_zm,kc_Drawing⟩,
  PySem.W.mg_of X G C_NoAnswer,
  PySem.W.mg_of X G C_NoBow,
  PySem.W.mg_of X G C_NoCount,
  PySem.W.mg_of X G C_NoDoor,
  PySem.W.mg_of X G C_NoFormula,
  PySem.W.mg_of X G C_NoFraction,
  PySem.W.mg_of X G C_NoName,
  PySem.W.mg_of X G C_NoNest,
  PySem.W.mg_of X G C_NoQuestion,
  PySem.W.mg_of X G C_NoRoad,
  PySem.W.mg_of X G C_NoRule,
  PySem.W.mg_of X G C_NoSets,
  PySem.W.mg_of X G C_NoShare,
  PySem.W.mg_of X G C_NoText,
  PySem.W.mg_of X G C_NoThinning,
  PySem.W.mg_of X G C_NoTie,
  PySem.W.mg_of X G C_NoValue,
  PySem.W.mg_of X G C_NoWorld,
  ⟨xe_DoingError,xo_DoingError,xb_DoingError,xg_DoingError,xt_DoingError,xc_DoingError⟩,
  ⟨xe_NoName,xo_NoName,xb_NoName,xg_NoName,xt_NoName,xc_NoName⟩,
  ⟨xe_NoSets,xo_NoSets,xb_NoSets,xg_NoSets,xt_NoSets,xc_NoSets⟩,
  s_NoName,
  kk_NoName_ValueError,
  kk_NoName_DoingError,
  kk_NoName_NoWorld,
  kk_NoName_NoValue,
  kk_NoName_NoTie,
  kk_NoName_NoThinning,
  kk_NoName_NoText,
  kk_NoName_NoShare,
  kk_NoName_NoSets,
  kk_NoName_NoRule,
  kk_NoName_NoRoad,
  kk_NoName_NoQuestion,
  kk_NoName_NoNest,
  kk_NoName_NoName,
  kk_NoName_NoFraction,
  kk_NoName_NoFormula,
  kk_NoName_NoDoor,
  kk_NoName_NoCount,
  kk_NoName_NoBow,
  kk_NoName_NoAnswer,
  kk_NoName_BadStep,
  kk_NoName_BadPaper,
  s_NoSets,
  kk_NoSets_ValueError,
  kk_NoSets_DoingError,
  kk_NoSets_NoWorld,
  kk_NoSets_NoValue,
  kk_NoSets_NoTie,
  kk_NoSets_NoThinning,
  kk_NoSets_NoText,
  kk_NoSets_NoShare,
  kk_NoSets_NoSets,
  kk_NoSets_NoRule,
  kk_NoSets_NoRoad,
  kk_NoSets_NoQuestion,
  kk_NoSets_NoNest,
  kk_NoSets_NoName,
  kk_NoSets_NoFraction,
  kk_NoSets_NoFormula,
  kk_NoSets_NoDoor,
  kk_NoSets_NoCount,
  kk_NoSets_NoBow,
  kk_NoSets_NoAnswer,
  kk_NoSets_BadStep,
  kk_NoSets_BadPaper,
  PySem.W.mg_none_of X G z_ValueError,
  PySem.W.mg_none_of X G z_all,
  PySem.W.mg_none_of X G z_int,
  PySem.W.mg_none_of X G z_isinstance,
  PySem.W.mg_none_of X G z_len,
  PySem.W.mg_none_of X G z_list,
  PySem.W.mg_none_of X G z_range,
  PySem.W.mg_none_of X G z_reversed,
  PySem.W.mg_none_of X G z_set,
  PySem.W.mg_none_of X G z_sorted,
  PySem.W.mg_none_of X G z_sum,
  PySem.W.mg_none_of X G z_tuple,
  ⟨_,PySem.W.mg_of X G v_MOST_BOWS,⟨_,rfl⟩⟩,
  ⟨_,PySem.W.mg_of X G v_MOST_NAMES,⟨_,rfl⟩⟩,
  n_Drawing_bows,
  n_Drawing_count,
  n_Drawing_ties⟩,rfl,fun s v=>.of_eq rfl⟩
theorem tx_of{K:PySem.W.Frag}{mg:Str->Option Value}{f:Addr}{x:Str}(h:∃t:Ad,Tx K mg t/\t.a_zK=f/\∀(s:Shared) (v:Value),BindsTo s t.d_zK ⟨[v],[]⟩ [(x,v)])(e:mg "law"=some (.ref f)) :
  ∃t:Ad,Tx K mg t/\mg "law"=some (.ref t.a_zK)/\∀(s:Shared) (v:Value),BindsTo s t.d_zK ⟨[v],[]⟩ [(x,v)]:=by
 obtain⟨t,T,rfl,b⟩:=h
 exact⟨t,T,e,b⟩
end Lw
open PySem PySem.W PyProof.Rows
set_option maxRecDepth 100000 in
set_option maxHeartbeats 0 in
theorem PySem.Challenge.cw_doingbook_k41_wanted_holds : PySem.Challenge.rw_doingbook_k41_wanted.Holds := by
 w_on;o_law;k_head;(case hw=>w_witness2)
 k_fill
 refine L2.walk_ofK (l:=PySem.Challenge.rw_doingbook_k41_wanted) (n:=63) (k:=9) (x:="_law_script") (CX:=L2.CX0) (sp:=fun K=>U.lowSp K U.spL) rfl (by decide) rfl ⟨rfl,by decide,by decide⟩ (fun w h Y=>PySem.W.kIn_of Y) ?F (fun K H a ns hl hO hS=>U.spL_start hl hO hS) (fun _ _ _ _ z=>z)
 case F =>
  intro w mg fa h KX G hmg
  have T:∃t:Lw.Ad,Lw.Tx (L2.KOf KX) mg t/\mg "law"=some (.ref t.a_zK)/\∀(s:Shared) (v:Value),BindsTo s t.d_zK ⟨[v],[]⟩ [("_law_script",v)]:=by
   dsimp only[L2.KOf]
   refine' Lw.tx_of (Lw.txt_mk KX G ?C_BadPaper ?C_BadStep ?C_DoingError ?C_Drawing ?C_NoAnswer ?C_NoBow ?C_NoCount ?C_NoDoor ?C_NoFormula ?C_NoFraction ?C_NoName ?C_NoNest ?C_NoQuestion ?C_NoRoad ?C_NoRule ?C_NoSets ?C_NoShare ?C_NoText ?C_NoThinning ?C_NoTie ?C_NoValue ?C_NoWorld ?a_zG ?l_zG ?c_zG ?k_zG ?a_zz ?l_zz ?c_zz ?k_zz ?a_zI ?l_zI ?c_zI ?k_zI ?a_zr ?l_zr ?c_zr ?k_zr ?a_zD ?l_zD ?c_zD ?k_zD ?a_zm ?i_zm ?l_zm ?c_zm ?k_zm ?a_zb ?i_zb ?l_zb ?c_zb ?k_zb ?a_zc ?i_zc ?l_zc ?c_zc ?k_zc ?a_ze ?i_ze ?l_ze ?c_ze ?k_ze ?a_za ?i_za ?l_za ?c_za ?k_za ?a_zj ?i_zj ?l_zj ?c_zj ?k_zj ?a_zd ?i_zd ?l_zd ?c_zd ?k_zd ?a_zh ?i_zh ?l_zh ?c_zh ?k_zh ?a_zk ?i_zk ?l_zk ?c_zk ?k_zk ?a_zC ?l_zC ?c_zC ?k_zC ?a_zv ?l_zv ?c_zv ?k_zv ?a_zg ?l_zg ?c_zg ?k_zg ?a_zn ?l_zn ?c_zn ?k_zn ?a_zJ ?l_zJ ?c_zJ ?k_zJ ?a_zq ?l_zq ?c_zq ?k_zq ?a_zH ?l_zH ?c_zH ?k_zH ?a_zs ?l_zs ?c_zs ?k_zs ?a_zo ?l_zo ?c_zo ?k_zo ?a_zA ?l_zA ?c_zA ?k_zA ?a_zy ?l_zy ?c_zy ?k_zy ?a_zu ?l_zu ?c_zu ?k_zu ?a_zx ?l_zx ?c_zx ?k_zx ?a_zl ?l_zl ?c_zl ?k_zl ?a_zt ?l_zt ?c_zt ?k_zt ?a_zE ?l_zE ?c_zE ?k_zE ?a_zK ?l_zK ?c_zK ?k_zK ?pg_Drawing ?hd_Drawing ?po_Drawing ?sa_Drawing ?mk_Drawing ?kc_Drawing ?xe_DoingError ?xo_DoingError ?xb_DoingError ?xg_DoingError ?xt_DoingError ?xc_DoingError ?xe_NoName ?xo_NoName ?xb_NoName ?xg_NoName ?xt_NoName ?xc_NoName ?xe_NoSets ?xo_NoSets ?xb_NoSets ?xg_NoSets ?xt_NoSets ?xc_NoSets ?s_NoName ?s_NoSets ?kk_NoName_ValueError ?kk_NoName_DoingError ?kk_NoName_NoWorld ?kk_NoName_NoValue ?kk_NoName_NoTie ?kk_NoName_NoThinning ?kk_NoName_NoText ?kk_NoName_NoShare ?kk_NoName_NoSets ?kk_NoName_NoRule ?kk_NoName_NoRoad ?kk_NoName_NoQuestion ?kk_NoName_NoNest ?kk_NoName_NoName ?kk_NoName_NoFraction ?kk_NoName_NoFormula ?kk_NoName_NoDoor ?kk_NoName_NoCount ?kk_NoName_NoBow ?kk_NoName_NoAnswer ?kk_NoName_BadStep ?kk_NoName_BadPaper ?kk_NoSets_ValueError ?kk_NoSets_DoingError ?kk_NoSets_NoWorld ?kk_NoSets_NoValue ?kk_NoSets_NoTie ?kk_NoSets_NoThinning ?kk_NoSets_NoText ?kk_NoSets_NoShare ?kk_NoSets_NoSets ?kk_NoSets_NoRule ?kk_NoSets_NoRoad ?kk_NoSets_NoQuestion ?kk_NoSets_NoNest ?kk_NoSets_NoName ?kk_NoSets_NoFraction ?kk_NoSets_NoFormula ?kk_NoSets_NoDoor ?kk_NoSets_NoCount ?kk_NoSets_NoBow ?kk_NoSets_NoAnswer ?kk_NoSets_BadStep ?kk_NoSets_BadPaper ?z_ValueError ?z_all ?z_int ?z_isinstance ?z_len ?z_list ?z_range ?z_reversed ?z_set ?z_sorted ?z_sum ?z_tuple ?v_MOST_BOWS ?v_MOST_NAMES ?n_Drawing_bows ?n_Drawing_count ?n_Drawing_ties) ?tl
   (case C_BadPaper=>k_is)
   (case C_BadStep=>k_is)
   (case C_DoingError=>k_is)
   (case C_Drawing=>k_is)
   (case C_NoAnswer=>k_is)
   (case C_NoBow=>k_is)
   (case C_NoCount=>k_is)
   (case C_NoDoor=>k_is)
   (case C_NoFormula=>k_is)
   (case C_NoFraction=>k_is)
   (case C_NoName=>k_is)
   (case C_NoNest=>k_is)
   (case C_NoQuestion=>k_is)
   (case C_NoRoad=>k_is)
   (case C_NoRule=>k_is)
   (case C_NoSets=>k_is)
   (case C_NoShare=>k_is)
   (case C_NoText=>k_is)
   (case C_NoThinning=>k_is)
   (case C_NoTie=>k_is)
   (case C_NoValue=>k_is)
   (case C_NoWorld=>k_is)
   (case a_zG=>k_is)
   (case l_zG=>k_is)
   (case c_zG=>k_is)
   (case k_zG=>k_is)
   (case a_zz=>k_is)
   (case l_zz=>k_is)
   (case c_zz=>k_is)
   (case k_zz=>k_is)
   (case a_zI=>k_is)
   (case l_zI=>k_is)
   (case c_zI=>k_is)
   (case k_zI=>k_is)
   (case a_zr=>k_is)
   (case l_zr=>k_is)
   (case c_zr=>k_is)
   (case k_zr=>k_is)
   (case a_zD=>k_is)
   (case l_zD=>k_is)
   (case c_zD=>k_is)
   (case k_zD=>k_is)
   (case a_zm=>k_is)
   (case i_zm=>k_is)
   (case l_zm=>k_is)
   (case c_zm=>k_is)
   (case k_zm=>k_is)
   (case a_zb=>k_is)
   (case i_zb=>k_is)
   (case l_zb=>k_is)
   (case c_zb=>k_is)
   (case k_zb=>k_is)
   (case a_zc=>k_is)
   (case i_zc=>k_is)
   (case l_zc=>k_is)
   (case c_zc=>k_is)
   (case k_zc=>k_is)
   (case a_ze=>k_is)
   (case i_ze=>k_is)
   (case l_ze=>k_is)
   (case c_ze=>k_is)
   (case k_ze=>k_is)
   (case a_za=>k_is)
   (case i_za=>k_is)
   (case l_za=>k_is)
   (case c_za=>k_is)
   (case k_za=>k_is)
   (case a_zj=>k_is)
   (case i_zj=>k_is)
   (case l_zj=>k_is)
   (case c_zj=>k_is)
   (case k_zj=>k_is)
   (case a_zd=>k_is)
   (case i_zd=>k_is)
   (case l_zd=>k_is)
   (case c_zd=>k_is)
   (case k_zd=>k_is)
   (case a_zh=>k_is)
   (case i_zh=>k_is)
   (case l_zh=>k_is)
   (case c_zh=>k_is)
   (case k_zh=>k_is)
   (case a_zk=>k_is)
   (case i_zk=>k_is)
   (case l_zk=>k_is)
   (case c_zk=>k_is)
   (case k_zk=>k_is)
   (case a_zC=>k_is)
   (case l_zC=>k_is)
   (case c_zC=>k_is)
   (case k_zC=>k_is)
   (case a_zv=>k_is)
   (case l_zv=>k_is)
   (case c_zv=>k_is)
   (case k_zv=>k_is)
   (case a_zg=>k_is)
   (case l_zg=>k_is)
   (case c_zg=>k_is)
   (case k_zg=>k_is)
   (case a_zn=>k_is)
   (case l_zn=>k_is)
   (case c_zn=>k_is)
   (case k_zn=>k_is)
   (case a_zJ=>k_is)
   (case l_zJ=>k_is)
   (case c_zJ=>k_is)
   (case k_zJ=>k_is)
   (case a_zq=>k_is)
   (case l_zq=>k_is)
   (case c_zq=>k_is)
   (case k_zq=>k_is)
   (case a_zH=>k_is)
   (case l_zH=>k_is)
   (case c_zH=>k_is)
   (case k_zH=>k_is)
   (case a_zs=>k_is)
   (case l_zs=>k_is)
   (case c_zs=>k_is)
   (case k_zs=>k_is)
   (case a_zo=>k_is)
   (case l_zo=>k_is)
   (case c_zo=>k_is)
   (case k_zo=>k_is)
   (case a_zA=>k_is)
   (case l_zA=>k_is)
   (case c_zA=>k_is)
   (case k_zA=>k_is)
   (case a_zy=>k_is)
   (case l_zy=>k_is)
   (case c_zy=>k_is)
   (case k_zy=>k_is)
   (case a_zu=>k_is)
   (case l_zu=>k_is)
   (case c_zu=>k_is)
   (case k_zu=>k_is)
   (case a_zx=>k_is)
   (case l_zx=>k_is)
   (case c_zx=>k_is)
   (case k_zx=>k_is)
   (case a_zl=>k_is)
   (case l_zl=>k_is)
   (case c_zl=>k_is)
   (case k_zl=>k_is)
   (case a_zt=>k_is)
   (case l_zt=>k_is)
   (case c_zt=>k_is)
   (case k_zt=>k_is)
   (case a_zE=>k_is)
   (case l_zE=>k_is)
   (case c_zE=>k_is)
   (case k_zE=>k_is)
   (case a_zK=>k_is)
   (case l_zK=>k_is)
   (case c_zK=>k_is)
   (case k_zK=>k_is)
   (case pg_Drawing=>k_is)
   (case hd_Drawing=>k_is)
   (case po_Drawing=>k_is)
   (case sa_Drawing=>k_is)
   (case mk_Drawing=>k_is)
   (case kc_Drawing=>k_is)
   (case xe_DoingError=>kernel_rfl)
   (case xo_DoingError=>k_is)
   (case xb_DoingError=>k_is)
   (case xg_DoingError=>k_is)
   (case xt_DoingError=>k_is)
   (case xc_DoingError=>k_is)
   (case xe_NoName=>kernel_rfl)
   (case xo_NoName=>k_is)
   (case xb_NoName=>k_is)
   (case xg_NoName=>k_is)
   (case xt_NoName=>k_is)
   (case xc_NoName=>k_is)
   (case xe_NoSets=>kernel_rfl)
   (case xo_NoSets=>k_is)
   (case xb_NoSets=>k_is)
   (case xg_NoSets=>k_is)
   (case xt_NoSets=>k_is)
   (case xc_NoSets=>k_is)
   (case s_NoName=>k_is)
   (case s_NoSets=>k_is)
   (case kk_NoName_ValueError=>kit_is)
   (case kk_NoName_DoingError=>kit_is)
   (case kk_NoName_NoWorld=>kit_is)
   (case kk_NoName_NoValue=>kit_is)
   (case kk_NoName_NoTie=>kit_is)
   (case kk_NoName_NoThinning=>kit_is)
   (case kk_NoName_NoText=>kit_is)
   (case kk_NoName_NoShare=>kit_is)
   (case kk_NoName_NoSets=>kit_is)
   (case kk_NoName_NoRule=>kit_is)
   (case kk_NoName_NoRoad=>kit_is)
   (case kk_NoName_NoQuestion=>kit_is)
   (case kk_NoName_NoNest=>kit_is)
   (case kk_NoName_NoName=>kit_is)
   (case kk_NoName_NoFraction=>kit_is)
   (case kk_NoName_NoFormula=>kit_is)
   (case kk_NoName_NoDoor=>kit_is)
   (case kk_NoName_NoCount=>kit_is)
   (case kk_NoName_NoBow=>kit_is)
   (case kk_NoName_NoAnswer=>kit_is)
   (case kk_NoName_BadStep=>kit_is)
   (case kk_NoName_BadPaper=>kit_is)
   (case kk_NoSets_ValueError=>kit_is)
   (case kk_NoSets_DoingError=>kit_is)
   (case kk_NoSets_NoWorld=>kit_is)
   (case kk_NoSets_NoValue=>kit_is)
   (case kk_NoSets_NoTie=>kit_is)
   (case kk_NoSets_NoThinning=>kit_is)
   (case kk_NoSets_NoText=>kit_is)
   (case kk_NoSets_NoShare=>kit_is)
   (case kk_NoSets_NoSets=>kit_is)
   (case kk_NoSets_NoRule=>kit_is)
   (case kk_NoSets_NoRoad=>kit_is)
   (case kk_NoSets_NoQuestion=>kit_is)
   (case kk_NoSets_NoNest=>kit_is)
   (case kk_NoSets_NoName=>kit_is)
   (case kk_NoSets_NoFraction=>kit_is)
   (case kk_NoSets_NoFormula=>kit_is)
   (case kk_NoSets_NoDoor=>kit_is)
   (case kk_NoSets_NoCount=>kit_is)
   (case kk_NoSets_NoBow=>kit_is)
   (case kk_NoSets_NoAnswer=>kit_is)
   (case kk_NoSets_BadStep=>kit_is)
   (case kk_NoSets_BadPaper=>kit_is)
   (case z_ValueError=>k_is)
   (case z_all=>k_is)
   (case z_int=>k_is)
   (case z_isinstance=>k_is)
   (case z_len=>k_is)
   (case z_list=>k_is)
   (case z_range=>k_is)
   (case z_reversed=>k_is)
   (case z_set=>k_is)
   (case z_sorted=>k_is)
   (case z_sum=>k_is)
   (case z_tuple=>k_is)
   (case v_MOST_BOWS=>k_is)
   (case v_MOST_NAMES=>k_is)
   (case n_Drawing_bows=>k_is)
   (case n_Drawing_count=>k_is)
   (case n_Drawing_ties=>k_is)
   (case tl=>exact PySem.W.mg_of KX G (by k_is))
  obtain⟨t,T,e,hb⟩:=T
  have e0:=hmg.symm.trans e
  cases e0
  exact⟨t.d_zK,hb,fun base kb nb=>Lw.G_zK T⟩
