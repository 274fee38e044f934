import PyProof.Rows.All
import Wide.All
import OpenK.AllK
import Wide.FinOn
import Lean
import PyProof.EqAt
import PyProof.EqKinds
import PyProof.TupleCall
import PyProof.NeKinds
import PyProof.StationsW
import PyProof.RulesAs
import PyProof.ExcClass2
import PyProof.IsiH_tuple
import PyProof.NsDelKeeps
import PyProof.ConsumeWalk
import PyProof.Rows.SortWalk
import PySem.SetOps
import PySem.Builtin.Tuple.Common
import PyProof.Rows.SetFrom
import PyProof.TupleKey
import PyProof.SetRoads
import KE.KSortTup
import PyProof.DictWalks
import PyProof.FactsAll.set
import PyProof.CollectWalk
import KE.KDictList
import PyProof.Rows.Range3
import KE.KUnpack
import PyProof.Draws
import PyProof.EnumMake
import PyProof.TupleIter
import PyProof.WalksMore
import PyProof.ZipIter
import PyProof.Rows.ZipGen
import PyProof.ListRange
import PyProof.TupleOfStr
import KE.KRevIter
import PyProof.CollectIter
import PyProof.Rows.Tup
import PyProof.Rows.StrWeight2
import PyProof.StrBlock
import PyProof.ListStr
import PyProof.SliceStr2
import PyProof.StrBlockI
import KE.KRevSl
import PyProof.StrLawsTight
import PyProof.StrLawsIn
import PyProof.Rows.StrNews
import PyProof.SumAny
import PySem.Challenge.RW_doingbook_k61_rules_that_join
set_option Elab.async false
namespace PySem.W.Fast
def tw10118033994293063456:=()
def tw8713853162617539912:=()
def tw12773136406092836275:=()
def tw11060064274298437375:=()
def tw5303270210205052025:=()
def tw11767495136959992729:=()
def tw18364953922976389112:=()
def tw3197148852833425776:=()
def tw5489105047361061689:=()
def tw8673115274303294458:=()
def tw10733189013560567974:=()
def tw2814938166744959400:=()
def tw5976430407837070269:=()
def tw17741066285878843351:=()
def tw14279991249437496627:=()
def tw967831167553755353:=()
def tw18237474764314673939:=()
def tw12659844799651019246:=()
def tw16193984790086454554:=()
def tw4586132996854319123:=()
def tw9664415891822477260:=()
def tw11047388968344205732:=()
def tw5812538208794961147:=()
def tw16672983115865159477:=()
def tw958918861272477140:=()
def tw8198239613717380901:=()
def tw5638175303010195017:=()
def tw17855138395174312494:=()
def tw13091849038978691923:=()
def tw9290429890396379226:=()
def tw6004308077211906890:=()
def tw694169394858707452:=()
def tw7850772406713602382:=()
def tw671747478115712539:=()
def tw18276206768082031177:=()
def tw1164290131072380520:=()
def tw9496991128133949419:=()
def tw3076062816053088591:=()
def tw1117505391680644196:=()
def tw9650597809354212171:=()
def tw7424693243297173972:=()
def tw510517791389411338:=()
def tw6863610139874644506:=()
def tw15783873160742740484:=()
def tw14816467342004923720:=()
def tw2476285700521261771:=()
def tw1818569029648773349:=()
def tw2380936046714432037:=()
def tw15808384282362541522:=()
def tw9452217046808659156:=()
def tw5659335437228059698:=()
def tw2537377699492818096:=()
def tw2013088005374247826:=()
def tw14792858785529710085:=()
def tw3700260397837986952:=()
def tw16211997111588681271:=()
def tw15287130043247187292:=()
def tw2821162499694496335:=()
def tw15744398075276731365:=()
def tw1706886217063070306:=()
def tw9115375824659159083:=()
def tw6058672955253037246:=()
def tw15702424008638918717:=()
def tw3303045986345110053:=()
def tw2426134430565820750:=()
def tw7972872414559480357:=()
def tw7921567194362759840:=()
def tw8246783459136066932:=()
def tw5252240938790513135:=()
def tw8928932835390853491:=()
def tw1893008842265130562:=()
def tw8603149007625683973:=()
def tw9968816365051118495:=()
def tw4911862595652789318:=()
def tw14190592391601995804:=()
def tw8785783633639335385:=()
def tw3619616328612544245:=()
def tw15475694317550288873:=()
def tw11503355786021057867:=()
def tw14142582677281581667:=()
def tw13950211505586754676:=()
def tw3996535324670327325:=()
def tw9958226181191486132:=()
def tw8794178931065252725:=()
def tw4859725957353703948:=()
def tw3339752373266302868:=()
def tw11038832720386991326:=()
def tw6677825658012382009:=()
def tw13428856410088390473:=()
def tw13003558439278205438:=()
def tw14936357927760007267:=()
def tw1045264093387624730:=()
def tw609793066680951921:=()
def tw15275940535014404610:=()
def tw1448181859881323258:=()
def tw16128241258414803234:=()
def tw2744727700787298874:=()
def tw11839420189689555159:=()
def tw7308561749737646409:=()
def tw17098356058538767563:=()
def tw16144717771431910495:=()
def tw3020949692519601373:=()
def tw2841029746985652804:=()
def tw13689206997015973473:=()
def tw7461509462210901804:=()
def tw7833433895052610282:=()
def tw4065852742797795153:=()
def tw7348232313757725065:=()
def tw156611641343123193:=()
def tw6546490297156943766:=()
def tw2358369066815151675:=()
def tw16599051657599443877:=()
def tw1774389859098291840:=()
def tw2424977863870554709:=()
def tw7157505888297279983:=()
def tw9677943983593624523:=()
def tw372051400492932805:=()
def tw6292772139082236882:=()
def tw1424210125906083658:=()
def tw7893535441546582643:=()
def tw3506871827712540876:=()
def tw13959843885484331807:=()
def tw11766653277677042105:=()
def tw17808753235222162966:=()
def tw12934021192825421068:=()
def tw2275981212324373606:=()
def tw12797334423385211930:=()
def tw6544671651155567622:=()
def tw2963160026279805899:=()
def tw10083598810893314682:=()
def tw10493678821573327260:=()
def tw7685270309130588902:=()
def tw9195258606326038067:=()
def tw9162444540697922478:=()
def tw13803057790306940351:=()
def tw3562431550175033098:=()
def tw7738569340885067827:=()
def tw67218534116484150:=()
def tw13036002723276455243:=()
def tw16557383948126712391:=()
def tw12378774048133997793:=()
def tw17843994577590421062:=()
def tw16580207307790241047:=()
def tw15113482355111585053:=()
def tw18231782723924341435:=()
def tw6448246864045683750:=()
def tw2515510744193950751:=()
def tw14693616181821720322:=()
def tw6260498969547283855:=()
def tw18244638415670039017:=()
def tw10255888374257186393:=()
def tw1121418927835239795:=()
def tw17351297273905583797:=()
def tw14871823347435626151:=()
def tw13402150013307271935:=()
def tw689253370610207327:=()
def tw15084490904388652713:=()
def tw9062932085349077153:=()
def tw17693499357156918719:=()
def tw17541479768676526923:=()
def tw7265622548058776100:=()
def tw8014658879033930615:=()
def tw9121605437189416900:=()
def tw16392887441966206495:=()
def tw13523578283341761391:=()
def tw2730263158276753445:=()
def tw9733921799959569072:=()
def tw6642806663932245506:=()
def tw17220489528239108576:=()
def tw9511889515483478611:=()
def tw111377754432636353:=()
def tw16114232111430812641:=()
def tw10341300890718065390:=()
def tw9779650729479792737:=()
def tw5595035276750557363:=()
def tw14734854477843839593:=()
def tw7109922754038178418:=()
def tw2939541728128524235:=()
def tw5769178946462761061:=()
def tw9907152314780484784:=()
def tw260605168120230477:=()
def tw3283851795104676464:=()
def tw9827038301350725910:=()
def tw10496333310373286716:=()
def tw6713511105197305721:=()
def tw10614281184840767554:=()
def tw8494727972711257308:=()
def tw12796906435143464656:=()
def tw1275849197935474663:=()
def tw2018843586590297169:=()
def tw10973235350895474780:=()
def tw447372688577298924:=()
def tw5038906520638086696:=()
def tw12196271585235236238:=()
def tw12328487574830620010:=()
def tw1286912335382071426:=()
def tw5167450056925676038:=()
def tw9183219180207222015:=()
def tw8099403652186188637:=()
def tw11678723053832359717:=()
def tw12832794953064438413:=()
def tw16784713537081925666:=()
def tw14474004650221498551:=()
def tw2284224393017962256:=()
def tw7673011176129207655:=()
def tw11063154418330168254:=()
def tw5586577271867845440:=()
def tw5203519724618965297:=()
def tw9512330553860328344:=()
def tw7251537730055395394:=()
def tw16995896789645113910:=()
def tw6215826903265107617:=()
def tw15727818236824955136:=()
def tw9176336010920110169:=()
def tw9128225917342557045:=()
def tw10110805004255214503:=()
def tw10314042702422552379:=()
def tw15334707415220246457:=()
def tw12175828816260632516:=()
def tw10108550685621808460:=()
def tw9932235337184645715:=()
def tw7301225206030990980:=()
def tw14456263254600632655:=()
def tw11700993325467241865:=()
def tw4235290958239736211:=()
def tw16805501983195242629:=()
def tw3565332899840316173:=()
def tw17065577681303541734:=()
def tw16364532546140876826:=()
def tw1049119936528153948:=()
def tw16420198943737260228:=()
def tw6917917506402230412:=()
def tw5711351689963810781:=()
def tw18204924548792873313:=()
def tw3681544741349973350:=()
def tw14811829010504150587:=()
def tw4495345124651811943:=()
def tw16341905493183696154:=()
def tw11277632649618429805:=()
def tw10999290438116433556:=()
def tw5251174910714013371:=()
def tw11714617176876472015:=()
def tw7916152360112162854:=()
def tw7556868485639227142:=()
def tw1417149578804987965:=()
def tw18435182715092363139:=()
def tw15379323271749956905:=()
def tw12789708697891780892:=()
def tw9642720283847781360:=()
def tw11573706164288045484:=()
def tw15543367584312793444:=()
def tw1971910932802827668:=()
def tw6454441179954387946:=()
def tw14081077270579195647:=()
def tw11178240837071784440:=()
def tw9002222986308417223:=()
def tw4609170158329185069:=()
def tw3841690676924415239:=()
def tw6305232056055812592:=()
def tw5578819681215649604:=()
def tw14285337071116408129:=()
def tw766511394328735188:=()
def tw17739313193434501883:=()
def tw14378046540473452110:=()
def tw4221420250625959608:=()
def tw8493845428629868476:=()
def tw3618235431916642143:=()
def tw4407662986682336865:=()
def tw17515020523559285755:=()
def tw14037449623882738350:=()
def tw15232542115804255987:=()
def tw8657971886019817115:=()
def tw4711764740479254276:=()
def tw18155519429590439526:=()
def tw632572053490296050:=()
def tw14886750541613842968:=()
def tw3653660280243456974:=()
def tw1458276088937986667:=()
def tw13272309636538514539:=()
def tw8660391549913481767:=()
def tw9381631069471880024:=()
def tw17392659526656827708:=()
def tw13760345251817169639:=()
def tw7955609669733499656:=()
def tw18161257291819503055:=()
def tw16064665307805200278:=()
def tw14066410652160609824:=()
def tw13352736526326265993:=()
def tw17190657367083487194:=()
def tw5830041064829619094:=()
def tw5612946116919525077:=()
def tw8232975080933873717:=()
def tw16271550860044382585:=()
def tw1499176233747346608:=()
def tw15502661769859228661:=()
def tw6813952736548488374:=()
def tw7606817121465713188:=()
def tw17968049835158249583:=()
def tw7083545082203617769:=()
def tw9970226840212166763:=()
def tw3448879568675717404:=()
def tw4940021142232901002:=()
def tw16971630257610698912:=()
def tw6975178352676439702:=()
def tw5800293704636236503:=()
def tw9691922079602105065:=()
def tw3830426675154411241:=()
def tw6131447216899030683:=()
def tw15482583268443923247:=()
def tw11589384731608550001:=()
def tw15485693878298911700:=()
def tw15464725988351653787:=()
def tw16113207513157250356:=()
def tw16933015562823960138:=()
def tw9257120535515633772:=()
def tw12804166510543437007:=()
def tw13652244655392754226:=()
def tw12641543288987540461:=()
def tw5693113839556124673:=()
end PySem.W.Fast
set_option genSizeOf false
-- CHANGE: your row's module here,as the last of these rows
set_option Elab.async false
set_option linter.all false
set_option maxRecDepth 100000
namespace L2
open PySem PySem.Spec PyProof.Rows
abbrev Key:=Sum Int Str
def vO:Key->Value->Bool
 | .inl k,v=>Value.isInt k v
 | .inr x,v=>Value.isStrOf x v
def Du(w:World):Key->Int
 | .inl k=>hashInt k
 | .inr x=>hashStr w x
theorem bH:∀{k:Key} {v:Value},vO k v=true->(∃i t,k=Sum.inl i/\v=Value.int i t)∨(∃x t,k=Sum.inr x/\v=Value.str x t)
 | .inl i,v,h=>by
  obtain⟨t,e⟩:=Value.isInt_shape (k:=i) (v:=v) h
  exact .inl ⟨i,t,rfl,e⟩
 | .inr x,v,h=>by
  obtain⟨t,e⟩:=Value.isStrOf_shape (x:=x) (v:=v) h
  exact .inr ⟨x,t,rfl,e⟩
theorem yG(a b:Int):decide ((Sum.inl a:Key)=Sum.inl b)=(a==b):=by
 by_cases e:a=b
 ·subst e;simp
 ·have h:¬(Sum.inl a:Key)=Sum.inl b:=fun q=>e (Sum.inl.inj q)
  rw[decide_eq_false h]
  exact(beq_eq_false_iff_ne.mpr e).symm
theorem xH(a b:Str):decide ((Sum.inr a:Key)=Sum.inr b)=decide (a=b):=by
 by_cases e:a=b
 ·subst e;simp
 ·have h:¬(Sum.inr a:Key)=Sum.inr b:=fun q=>e (Sum.inr.inj q)
  rw[decide_eq_false h,decide_eq_false e]
theorem yT(a:Int)(b:Str):decide ((Sum.inl a:Key)=Sum.inr b)=false:=decide_eq_false (fun q=>nomatch q)
theorem yh(a:Str)(b:Int):decide ((Sum.inr a:Key)=Sum.inl b)=false:=decide_eq_false (fun q=>nomatch q)
def nQ(prog:Program)(w:World):PySem.KeyKind prog w Key where
 is:=vO
 hash:=Du w
 inj:=fun v a b ha hb=>by
  rcases bH ha with⟨i,t,rfl,rfl⟩ |⟨x,t,rfl,rfl⟩
  ·rcases bH hb with⟨j,u,rfl,e⟩ |⟨y,u,rfl,e⟩
   ·injection e with e1 _;rw[e1]
   ·exact nomatch e
  ·rcases bH hb with⟨j,u,rfl,e⟩ |⟨y,u,rfl,e⟩
   ·exact nomatch e
   ·injection e with e1 _;rw[e1]
 byValue:=fun k v h=>by
  rcases bH h with⟨i,t,rfl,rfl⟩ |⟨x,t,rfl,rfl⟩<;>rfl
 pyHash:=fun hv h=>by
  rcases bH hv with⟨i,t,rfl,rfl⟩ |⟨x,t,rfl,rfl⟩
  ·exact wpAny_pyHash_int h
  ·exact wpAny_pyHash_str h
 eqBool:=fun hu hv h=>by
  rcases bH hu with⟨i,t,rfl,rfl⟩ |⟨x,t,rfl,rfl⟩
  ·rcases bH hv with⟨j,u,rfl,rfl⟩ |⟨y,u,rfl,rfl⟩
   ·rw[yG]at h;exact wpAny_eqBool_int h
   ·rw[yT]at h;exact SeqAt.EqAt.int_str i t y u _ _ _ _ h
  ·rcases bH hv with⟨j,u,rfl,rfl⟩ |⟨y,u,rfl,rfl⟩
   ·rw[yh]at h;exact SeqAt.EqAt.str_int x t j u _ _ _ _ h
   ·rw[xH]at h;exact wpAny_eqBool_str h
 «strs»:=fun k x t v h=>by
  rcases bH h with⟨i,u,rfl,e⟩ |⟨y,u,rfl,e⟩
  ·exact nomatch e
  ·injection e with e1 _
   subst e1
   cases v<;>rfl
end L2
namespace L2
open PySem PySem.Spec PyProof.Rows
inductive V where
 | non | bl (b:Bool) | int (i:Int) | str (x:Str) | byt (b:Array UInt8) | flt (b:UInt64) | ref (a:Addr) | ty (n:String)
 deriving DecidableEq
def RelV:V->Value->Prop
 | .non,u=>u=Value.none
 | .bl b,u=>u=Value.bool b
 | .int i,u=>∃t,u=Value.int i t
 | .str x,u=>∃t,u=Value.str x t
 | .byt b,u=>∃t,u=Value.bytes b t
 | .flt b,u=>∃t,u=Value.float b t
 | .ref a,u=>u=Value.ref a
 | .ty n,u=>u=Value.type n
abbrev Vals:List V->List Value->Prop:=Paired RelV
theorem Vals.length{xs:List V}{us:List Value}(r:Vals xs us):xs.length=us.length:=Paired.length r
theorem Vals.get:∀{xs:List V} {us:List Value} {i:Nat} {x:V},Vals xs us->xs[i]?=some x->∃u,us[i]?=some u/\RelV x u
 | _,_,_,_,.nil,e=>by simp at e
 | _,_,0,_,.cons r _,e=>by simp at e;subst e;exact⟨_,rfl,r⟩
 | _,_,i+1,x,.cons _ t,e=>by
  obtain⟨u,h1,h2⟩:=Vals.get (i:=i) (x:=x) t (by simpa using e)
  exact⟨u,by simpa using h1,h2⟩
theorem Vals.set{x:V}{u:Value}(r:RelV x u):∀{xs:List V} {us:List Value} (i:Nat),Vals xs us->Vals (xs.set i x) (us.set i u)
 | _,_,_,.nil=>.nil
 | _,_,0,.cons _ t=>.cons r t
 | _,_,i+1,.cons q t=>.cons q (Vals.set r i t)
theorem Vals.append:∀{xs ys:List V} {us ws:List Value},Vals xs us->Vals ys ws->Vals (xs++ys) (us++ws)
 | _,_,_,_,.nil,s=>s
 | _,_,_,_,.cons r t,s=>.cons r (Vals.append t s)
theorem Vals.take:∀{xs:List V} {us:List Value} (n:Nat),Vals xs us->Vals (xs.take n) (us.take n)
 | _,_,0,_=>.nil
 | _,_,_+1,.nil=>.nil
 | _,_,n+1,.cons r t=>.cons r (Vals.take n t)
theorem Vals.drop:∀{xs:List V} {us:List Value} (n:Nat),Vals xs us->Vals (xs.drop n) (us.drop n)
 | _,_,0,r=>r
 | _,_,_+1,.nil=>.nil
 | _,_,n+1,.cons _ t=>Vals.drop n t
def iT:Option V->Option Value->Prop
 | some v,some u=>RelV v u
 | none,none=>True
 | _,_=>False
def KV{κ:Type}:List (κ×V)->List (κ×Value)->Prop:=Paired fun(p:κ×V) (q:κ×Value)=>p.1=q.1/\RelV p.2 q.2
def kV:Key->V
 | .inl i=>.int i
 | .inr x=>.str x
inductive HO where
  | lst (xs:List V)
  | tup (xs:List V)
  | dK (kvs:List (Key×V)) | dT (kvs:List (List Key×V))
  | set (S:Int->Bool) (n:Nat)
  | ins (C dx:Addr) (fs:List (Str×V))
  | own (x:Addr)
  | xd (fs:List (Str×V))
  | met (f x:Addr)
  | rng (lo hi:Int)
  | frz (o:Obj) (u:HO)
  | tbl (ps:Array Value)
  | ext (φ:Heap->Prop)
abbrev Hp:=Addr->Option HO
def upd(H:Hp)(a:Addr)(o:HO):Hp:=fun b=>if b=a then some o else H b
theorem bB{H:Hp}{a:Addr}{o:HO}:upd H a o a=some o:=by unfold upd;rw[if_pos rfl]
theorem aV{H:Hp}{a b:Addr}{o:HO}(h:b≠a):upd H a o b=H b:=by unfold upd;rw[if_neg h]
theorem vd{H:Hp}{a b:Addr}{o u:HO}(h:H a=some o)(h':H b=some u)(d:o≠u):a≠b:=by
 intro e;subst e;rw[h]at h';exact d (Option.some.inj h')
theorem bb{H:Hp}{a b:Addr}{o:HO}(h:H a=some o)(h':H b=none):a≠b:=by
 intro e;subst e;rw[h]at h';cases h'
section
variable (P:Program)(w:World)
def bQ(H:Hp)(h:Heap)(a:Addr):HO->Prop
 | .lst xs=>xs.length≤sizeLine/\∃(its:List Value) (n:Nat),Vals xs its/\h.get? a=some { cls:=.type "list",data:=.seq its.toArray n }
 | .tup xs=>xs.length≤sizeLine/\∃its:List Value,Vals xs its/\IsTup h a its.toArray
 | .dK kvs=>kvs.length≤sizeLine/\(a==sysModules)=false/\∃vs,KV kvs vs/\h.DictOf (nQ P w) a vs
 | .dT kvs=>kvs.length≤sizeLine/\(a==sysModules)=false/\∃xs:List (List Key×Addr×Value),
   Paired (fun(p:List Key×V) (q:List Key×Addr×Value)=>p.1=q.1/\H q.2.1=some (.tup (p.1.map kV))/\RelV p.2 q.2.2) kvs xs /\
   ∃o es ep,h.get? a=some o/\o.ExactDict/\o.data=.dict es ep/\es.toList=xs.map (entryOfKey (tupleKind (nQ P w)))/\(xs.map (·.1)).Nodup
 | .set S n=>h.SetOf (intKind P w) a S n
 | .ins C dx fs=>H dx=some (.own a)/\fs.length≤1000/\dx≠a/\h.get? a=some (PySem.W.instObj C dx) /\
   ∃mA,h.Ns1 dx mA/\(∀f,iT (fs.lookup f) (mA f))/\PySem.Within mA (fs.map (·.1))
 | .own _=>∃o,h.get? a=some o
 | .xd fs=>∃mA,h.Ns1 a mA/\∀f,iT (fs.lookup f) (mA f)
 | .rng lo hi=>∃t u v,h.get? a=some { cls:=.type "range",data:=.fields #[.int lo t,.int hi u,.int 1 v] }
 | .frz o u=>h.get? a=some o/\bQ H h a u
 | .tbl ps=>h.get? a=some { cls:=.none,data:=.fields ps }
 | .met f x=>h.get? a=some (PySem.W.methodObj (.ref f) (.ref x))
 | .ext φ=>φ h/\(∃o,h.get? a=some o)/\∀h1 h2:Heap,φ h1->(∀o,h1.get? a=some o->h2.get? a=some o)->φ h2
def HOk(H:Hp)(h:Heap):Prop:=∀a o,H a=some o->bQ P w H h a o
end
section
variable {P:Program}{w:World}{H H':Hp}{h h':Heap}{a:Addr}{o:HO}
theorem bQ.lt(x:bQ P w H h a o):a<h.objs.size:=by
 cases o with
 | lst xs=>obtain⟨_,_,_,_,e⟩:=x;exact Heap.lt_size e
 | tup xs=>obtain⟨_,_,_,p⟩:=x;exact p.lt
 | dK kvs=>obtain⟨_,_,_,_,o,_,_,e,_⟩:=x;exact Heap.lt_size e
 | dT kvs=>obtain⟨_,_,_,_,o,_,_,e,_⟩:=x;exact Heap.lt_size e
 | set S n=>obtain⟨o,_,_,_,e,_⟩:=x;exact Heap.lt_size e
 | ins C dx fs=>obtain⟨_,_,_,e,_⟩:=x;exact Heap.lt_size e
 | own y=>obtain⟨_,e⟩:=x;exact Heap.lt_size e
 | xd fs=>obtain⟨_,⟨_,_,_,e,_⟩,_⟩:=x;exact Heap.lt_size e
 | rng lo hi=>obtain⟨_,_,_,e⟩:=x;exact Heap.lt_size e
 | frz ob u=>obtain⟨e,_⟩:=x;exact Heap.lt_size e
 | tbl ps=>exact Heap.lt_size (show h.get? a=some _ from x)
 | met f y=>exact Heap.lt_size (show h.get? a=some _ from x)
 | ext φ=>obtain⟨_,⟨_,e⟩,_⟩:=x;exact Heap.lt_size e
theorem Paired.mapP{α β:Type}{F G:α->β->Prop}:∀{l₁:List α} {l₂:List β},Paired F l₁ l₂->(∀a b,F a b->G a b)->Paired G l₁ l₂
 | _,_,.nil,_=>.nil
 | _,_,.cons r t,f=>.cons (f _ _ r) (Paired.mapP t f)
theorem bQ.stay(x:bQ P w H h a o)(k:∀b u,(b=a∨H b=some (.own a))->h.get? b=some u->h'.get? b=some u)
  (ho:∀b,H b=some (.own a)->H' b=some (.own a)) (ht:∀b xs,H b=some (.tup xs)->H' b=some (.tup xs)):bQ P w H' h' a o:=by
 induction o with
 | lst xs=>obtain⟨z,its,n,r,e⟩:=x;exact⟨z,its,n,r,k _ _ (.inl rfl) e⟩
 | tup xs=>obtain⟨z,its,r,ob,e,c⟩:=x;exact⟨z,its,r,ob,k _ _ (.inl rfl) e,c⟩
 | dK kvs=>obtain⟨z,y,vs,r,ob,es,ep,e,c⟩:=x;exact⟨z,y,vs,r,ob,es,ep,k _ _ (.inl rfl) e,c⟩
 | dT kvs =>
  obtain⟨z,y,xs,r,ob,es,ep,e,c⟩:=x
  exact⟨z,y,xs,Paired.mapP r fun p q z=>⟨z.1,ht _ _ z.2.1,z.2.2⟩,ob,es,ep,k _ _ (.inl rfl) e,c⟩
 | set S n=>obtain⟨ob,es,ep,t,e,c⟩:=x;exact⟨ob,es,ep,t,k _ _ (.inl rfl) e,c⟩
 | ins C dx fs =>
  obtain⟨d,z,ne,e,mA,⟨od,es,ep,e2,c⟩,r⟩:=x
  exact⟨ho _ d,z,ne,k _ _ (.inl rfl) e,mA,⟨od,es,ep,k _ _ (.inr d) e2,c⟩,r⟩
 | own y=>obtain⟨ob,e⟩:=x;exact⟨ob,k _ _ (.inl rfl) e⟩
 | xd fs=>obtain⟨mA,⟨od,es,ep,e,c⟩,r⟩:=x;exact⟨mA,⟨od,es,ep,k _ _ (.inl rfl) e,c⟩,r⟩
 | rng lo hi=>obtain⟨t,u,v,e⟩:=x;exact⟨t,u,v,k _ _ (.inl rfl) e⟩
 | frz ob u ih=>obtain⟨e,q⟩:=x;exact⟨k _ _ (.inl rfl) e,ih q⟩
 | tbl ps =>
  have e:h.get? a=some { cls:=.none,data:=.fields ps }:=x
  show h'.get? a=some { cls:=.none,data:=.fields ps }
  exact k a _ (.inl rfl) e
 | met f y =>
  have e:h.get? a=some (PySem.W.methodObj (.ref f) (.ref y)):=x
  show h'.get? a=some (PySem.W.methodObj (.ref f) (.ref y))
  exact k a _ (.inl rfl) e
 | ext φ=>obtain⟨p,⟨o,e⟩,st⟩:=x;exact⟨st _ _ p fun o q=>k _ _ (.inl rfl) q,⟨o,k _ _ (.inl rfl) e⟩,st⟩
theorem HOk.lt(x:HOk P w H h)(e:H a=some o):a<h.objs.size:=(x a o e).lt
theorem HOk.fresh(x:HOk P w H h)(e:h.objs.size≤a):H a=none:=by
 cases q:H a with
 | none=>rfl
 | some u=>exact absurd (Nat.lt_of_lt_of_le (x.lt q) e) (Nat.lt_irrefl _)
theorem HOk.kept(x:HOk P w H h)(k:∀b u,h.get? b=some u->h'.get? b=some u):HOk P w H h':=fun a o e =>
 (x a o e).stay (fun b u _ q=>k b u q) (fun _ q=>q) fun _ _ q=>q
theorem HOk.laid(x:HOk P w H h)(k:∀b u,h.get? b=some u->h'.get? b=some u)(hp:h.objs.size≤a)(new:bQ P w (upd H a o) h' a o):HOk P w (upd H a o) h':=fun b u e=>by
 have hn:=x.fresh hp
 by_cases hb:b=a
 ·subst hb;rw[bB]at e;cases e;exact new
 ·rw[aV hb]at e
  exact(x b u e).stay (fun c v _ q=>k c v q) (fun c q=>by rw[aV (bb q hn)];exact q) fun c xs q=>by rw[aV (bb q hn)];exact q
end
def Rd(H:Hp)(a:Addr)(u:HO):Prop:=H a=some u∨∃o,H a=some (.frz o u)
theorem Rd.ok{P:Program}{w:World}{H:Hp}{h:Heap}{a:Addr}{u:HO}(r:Rd H a u)(x:HOk P w H h):bQ P w H h a u:=by
 rcases r with r |⟨o,r⟩
 ·exact x a u r
 ·obtain⟨_,q⟩:=x a _ r
  exact q
def Mut:Option HO->Prop
 | some (.lst _)=>True
 | some (.dK _)=>True
 | some (.dT _)=>True
 | some (.set _ _)=>True
 | some (.ins _ _ _)=>True
 | some (.ext _)=>True
 | _=>False
section
variable {P:Program}{w:World}{H:Hp}{h h':Heap}{x e:Addr}{o':HO}
theorem HOk.write(ok:HOk P w H h)(mu:Mut (H x))(he:e=x∨H e=some (.own x))(k:∀b u,b≠e->h.get? b=some u->h'.get? b=some u)(heo:∃u,h'.get? e=some u)
  (new:bQ P w (upd H x o') h' x o'):HOk P w (upd H x o') h':=fun b u q=>by
 have nown:∀c y,H c=some (.own y)->c≠x:=fun c y r z=>by subst z;rw[r]at mu;exact mu
 have ntup:∀c xs,H c=some (.tup xs)->c≠x:=fun c xs r z=>by subst z;rw[r]at mu;exact mu
 by_cases hb:b=x
 ·subst hb;rw[bB]at q;cases q;exact new
 ·rw[aV hb]at q
  by_cases hbe:b=e
  ·have q':H b=some (.own x):=by
    rcases he with z | z
    ·exact absurd (hbe.trans z) hb
    ·rw[hbe];exact z
   rw[q]at q';cases q'
   obtain⟨v,hv⟩:=heo
   exact⟨v,by rw[hbe];exact hv⟩
  ·refine(ok b u q).stay (fun c v hc r=>k c v ?_ r) (fun c r=>by rw[aV (nown c b r)];exact r) fun c xs r=>by rw[aV (ntup c xs r)];exact r
   rcases hc with rfl | hc
   ·exact hbe
   ·rintro rfl
    rcases he with z | z
    ·exact nown c b hc z
    ·rw[hc]at z;cases z;exact hb rfl
end
structure Un (fs ex:List Addr) (H H':Hp) (h h':Heap):Prop where
 keep:∀b o,h.get? b=some o->H b=none->b∉fs->b∉ex->h'.get? b=some o
 slot:∀b o,h.get? b=some o->H b=none->b∈fs->b∉ex->∃sl,h'.get? b=some { o with slots:=sl }
 free:∀b o,h.get? b=some o->H b=none->b∉ex->H' b=none
 there:∀b o,h.get? b=some o->b∉ex->∃o',h'.get? b=some o'
 tups:∀b xs,H b=some (.tup xs)->H' b=some (.tup xs)
 frzs:∀b o u,H b=some (.frz o u)->H' b=some (.frz o u)
 tbls:∀b ps,H b=some (.tbl ps)->∃more,H' b=some (.tbl (ps++more))
section
variable {fs fs' ex ex':List Addr}{H H1 H2:Hp}{h h1 h2 h':Heap}{a x e:Addr}{o:HO}
theorem Un.any(u:Un fs ex H H1 h h1){b:Addr}{ob:Obj}(q:h.get? b=some ob)(n:H b=none)(hx:b∉ex):∃sl,h1.get? b=some { ob with slots:=sl }:=by
 by_cases hb:b∈fs
 ·exact u.slot b ob q n hb hx
 ·exact⟨ob.slots,u.keep b ob q n hb hx⟩
theorem Un.kept(k:∀b u,h.get? b=some u->h'.get? b=some u):Un fs ex H H h h' :=
 ⟨fun b ob q _ _ _=>k b ob q,fun b ob q _ _ _=>⟨ob.slots,k b ob q⟩,fun _ _ _ n _=>n,fun b ob q _=>⟨ob,k b ob q⟩,fun _ _ q=>q,fun _ _ _ q=>q,fun _ ps q=>⟨#[],by rw[q];simp⟩⟩
theorem Un.refl:Un fs ex H H h h:=Un.kept fun _ _ q=>q
theorem Un.laid(k:∀b u,h.get? b=some u->h'.get? b=some u)(hp:h.objs.size≤a)(hn:H a=none):Un fs ex H (upd H a o) h h' where
 keep:=fun b u q _ _ _=>k b u q
 slot:=fun b u q _ _ _=>⟨u.slots,k b u q⟩
 free:=fun b u q n _=>by rw[aV (Nat.ne_of_lt (Nat.lt_of_lt_of_le (Heap.lt_size q) hp))];exact n
 there:=fun b u q _=>⟨u,k b u q⟩
 tups:=fun b xs q=>by rw[aV (bb q hn)];exact q
 frzs:=fun b u xs q=>by rw[aV (bb q hn)];exact q
 tbls:=fun b ps q=>⟨#[],by rw[aV (bb q hn),q];simp⟩
theorem Un.write(mu:Mut (H x))(he:e=x∨H e=some (.own x))(k:∀b u,b≠e->h.get? b=some u->h'.get? b=some u)(heo:∃u,h'.get? e=some u):Un fs ex H (upd H x o) h h':=by
 have hx:∀b,H b=none->b≠x:=fun b n z=>by subst z;rw[n]at mu;exact mu
 have hb:∀b,H b=none->b≠e:=fun b n z=>by
  subst z
  rcases he with r | r
  ·exact hx b n r
  ·rw[n]at r;cases r
 have hm:∀b u,H b=some u->¬Mut (some u)->b≠x:=fun b u q nm z=>by subst z;rw[q]at mu;exact nm mu
 refine⟨fun b u q n _ _=>k b u (hb b n) q,fun b u q n _ _=>⟨u.slots,k b u (hb b n) q⟩,fun b u q n _=>by rw[aV (hx b n)];exact n,fun b u q _=>?_,
  fun b xs q=>by rw[aV (hm b _ q fun z=>z)];exact q,fun b u xs q=>by rw[aV (hm b _ q fun z=>z)];exact q,fun b ps q=>⟨#[],by rw[aV (hm b _ q fun z=>z),q];simp⟩⟩
 by_cases hbe:b=e
 ·subst hbe;exact heo
 ·exact⟨u,k b u hbe q⟩
end
def trk(h:Heap)(H:Hp):List Addr:=(List.range h.objs.size).filter fun a=>(H a).isSome
def jx(h:Heap)(H:Hp):Heap:=PySem.W.hideAll h (trk h H)
theorem oY(h:Heap)(H:Hp):(jx h H).objs.size=h.objs.size:=PySem.W.hideAll_size _ _
theorem rR{h:Heap}{H:Hp}{b:Addr}{o:Obj}(e:h.get? b=some o)(n:H b=none):(jx h H).get? b=some o :=
 PySem.W.hideAll_get _ e fun hm=>by
  have q:(H b).isSome=true:=(List.mem_filter.mp hm).2
  rw[n]at q;simp at q
theorem uY{h:Heap}{H:Hp}{b:Addr}{o:Obj}(e:(jx h H).get? b=some o):h.get? b=some o/\H b=none:=by
 have e':h.get? b=some o:=PySem.W.of_hideAll (trk h H) e
 refine⟨e',?_⟩
 cases q:H b with
 | none=>rfl
 | some x =>
  have hm:b∈trk h H:=List.mem_filter.mpr ⟨List.mem_range.mpr (Heap.lt_size e'),by simp[q]⟩
  have z:(jx h H).get? b=none:=PySem.W.hideAll_none (trk h H) hm
  rw[z]at e;cases e
def uR(g h:Heap)(L:Addr):List (Addr×Obj):=(List.range h.objs.size).filterMap fun a=>if a=L∨(g.get? a).isSome=true then none else(h.get? a).map fun o=>(a,o)
def rest(g h:Heap)(L d:Addr):List (Addr×Obj):=(uR g h L).filter fun p=>decide (p.1≠d)
end L2
namespace L2
open PySem PySem.Spec PyProof.Rows
structure Mod (K:PySem.W.Frag) (mg:Str→Option Value) (base:Heap):Prop where
 kin:K.In base
 glob:base.Ns mainGlobals mg
 blt:∃mb,base.Ns builtinsNs mb/\∀x:Str,x≠"__name__"->mb x=bootBuiltins x
 nolimit:base.NoLimit
structure Cx where
 prog:Program
 w:World
 K:PySem.W.Frag
 mg:Str->Option Value
 base:Heap
 A:Around
 N:List Str
 s₀:Shared
 H₀:Hp
 env:Env
 outer:List Env
 stack:List Env
 ex:List Addr
 fn:Str->Bool
 calm:Bool
 pn:List (Addr×Obj)
 xe:Value->Shared->Prop
def frs(l:List Env):List Addr:=l.filterMap (·.frame)
abbrev Cx.fs(X:Cx):List Addr:=frs X.outer
def Vis(sc:Scope)(x:Str):Prop:=sc.names.lookup x=some .local∨sc.names.lookup x=some .cell∨sc.names.lookup x=some .free
def Loc(sc:Scope)(x:Str):Prop:=sc.names.lookup x=some .local∨sc.names.lookup x=some .cell
def Look(env:Env)(h:Heap)(m:Str->Option Value)(x:Str)(u:Value):Prop :=
 (env.kindOf x=some .local/\m x=some u)∨((env.kindOf x=some .cell∨env.kindOf x=some .free)/\∃c,env.cells.lookup x=some c/\h.IsCell c (some u))
structure Cx.Ok (X:Cx):Prop where
 mod:Mod X.K X.mg X.base
 kind:X.env.scope.kind=.function
 glob:X.env.globals=mainGlobals
 blt:X.env.builtins=builtinsNs
 above:X.s₀.heap.objs.size≤X.env.locals
 inj:∀x y c,X.env.cells.lookup x=some c->X.env.cells.lookup y=some c->x=y
 has:∀x,(X.env.kindOf x=some .cell∨X.env.kindOf x=some .free)->∃c,X.env.cells.lookup x=some c
 cab:∀x c,X.fn x=true->X.env.cells.lookup x=some c->X.s₀.heap.objs.size≤c
 hd:X.calm=true->X.A.handled=none
 frames:X.A.frames=some X.stack
 stk:X.stack=X.outer∨(X.stack=X.env::X.outer/\X.env.frame=some X.env.locals)
 exf:∀b∈X.ex,b≠X.env.locals/\∀x c,X.env.cells.lookup x=some c->c≠b
 bs:∀b o,X.base.get? b=some o->X.s₀.heap.get? b=some o/\X.H₀ b=none
 bsz:X.base.objs.size≤X.s₀.heap.objs.size
 noex:∀b o,X.base.get? b=some o->b∉X.ex
 exfs:∀b∈X.ex,b∉X.fs
 funs:X.s₀.heap.FunFrames X.base X.outer
 frf:∀b∈X.fs,X.H₀ b=none
structure Inv (X:Cx) (pins:List (Addr × Obj)) (σ:List (Option V)) (H:Hp) (s:Shared):Prop where
 ok:X.Ok
 os:s.os=X.s₀.os
 bare:AllBare s.gens
 base:Un X.fs X.ex X.H₀ H X.s₀.heap s.heap
 loc:∃m,s.heap.Ns X.env.locals m/\∀(i:Nat) (x:Str) (v:V),X.N[i]?=some x->σ[i]?=some (some v)->Vis X.env.scope x->∃u,RelV v u/\Look X.env s.heap m x u
 cell:∀x c,X.env.cells.lookup x=some c->∃v,s.heap.IsCell c v
 free:H X.env.locals=none
 freeC:∀x c,X.env.cells.lookup x=some c->H c=none
 pin:∀p∈X.pn++pins,s.heap.get? p.1=some p.2/\H p.1=none/\p.1≠X.env.locals/\p.1∉X.fs/\∀v,p.2.data≠.cell v
 hok:HOk X.prog X.w H s.heap
 len:σ.length=X.N.length
section
variable {X:Cx}{pins:List (Addr×Obj)}{σ:List (Option V)}{H H':Hp}{s:Shared}{h':Heap}
theorem Cx.Ok.nofr(ok:X.Ok){b:Addr}{o:Obj}(e:X.base.get? b=some o):b∉X.fs:=fun hb=>by
 have:=(ok.funs.mem hb).1
 rw[e]at this;cases this
theorem Inv.bs(I:Inv X pins σ H s):∀b o,X.base.get? b=some o->s.heap.get? b=some o/\H b=none:=fun b o e =>
 ⟨I.base.keep b o (I.ok.bs b o e).1 (I.ok.bs b o e).2 (I.ok.nofr e) (I.ok.noex b o e),I.base.free b o (I.ok.bs b o e).1 (I.ok.bs b o e).2 (I.ok.noex b o e)⟩
theorem Inv.bk(I:Inv X pins σ H s):∀b o,X.base.get? b=some o->s.heap.get? b=some o:=fun b o e=>(I.bs b o e).1
theorem Inv.mod(I:Inv X pins σ H s):Mod X.K X.mg X.base:=I.ok.mod
theorem Inv.kIn(I:Inv X pins σ H s):X.K.In s.heap:=I.ok.mod.kin.keeps I.bk
theorem Inv.lt(I:Inv X pins σ H s):X.env.locals<s.heap.objs.size:=let ⟨_,hn,_⟩:=I.loc;hn.lt
theorem Inv.sz(I:Inv X pins σ H s):X.s₀.heap.objs.size≤s.heap.objs.size:=Nat.le_trans I.ok.above (Nat.le_of_lt I.lt)
theorem Inv.nofs(I:Inv X pins σ H s){a:Addr}(h:s.heap.objs.size≤a):a∉X.fs:=fun hb=>by
 obtain⟨_,o,ho,_⟩:=I.ok.funs.mem hb
 exact absurd (Nat.lt_of_lt_of_le (Heap.lt_size ho) (Nat.le_trans I.sz h)) (Nat.lt_irrefl _)
theorem Inv.cne(I:Inv X pins σ H s):∀x c,X.env.cells.lookup x=some c->c≠X.env.locals:=fun x c e z=>by
 obtain⟨v,o,ho,hd⟩:=I.cell x c e
 obtain⟨m,⟨o',es,ep,ho',hd',_⟩,_⟩:=I.loc
 rw[z,ho']at ho;cases ho;rw[hd']at hd;cases hd
theorem Inv.funs(I:Inv X pins σ H s):s.heap.FunFrames X.base X.outer:=by
 have all:∀(l:List Env),(∀b∈frs l,b∈X.fs)->X.s₀.heap.FunFrames X.base l->s.heap.FunFrames X.base l:=by
  intro l
  induction l with
  | nil=>intro _ _;trivial
  | cons env r ih =>
   intro hs hl
   obtain⟨hk,⟨L,o,hf,hn,ho,hd⟩,hr⟩:=hl
   have hL:L∈X.fs:=hs L (by unfold frs;rw[List.filterMap_cons,hf];exact List.mem_cons_self)
   obtain⟨sl,e⟩:=I.base.slot L o ho (I.ok.frf L hL) hL fun z=>I.ok.exfs L z hL
   exact⟨hk,⟨L,_,hf,hn,e,hd⟩,ih (fun b hb=>hs b (by unfold frs;rw[List.filterMap_cons,hf];exact List.mem_cons_of_mem _ hb)) hr⟩
 exact all X.outer (fun _ hb=>hb) I.ok.funs
theorem Inv.stack(I:Inv X pins σ H s):s.heap.FunFrames X.base X.stack:=by
 rcases I.ok.stk with e |⟨e,hf⟩
 ·rw[e];exact I.funs
 ·rw[e]
  obtain⟨m,hn,_⟩:=I.loc
  refine .cons (by rw[I.ok.kind];decide) hf hn ?_ I.funs
  exact Heap.get?_none_of_le (Nat.le_trans I.ok.bsz I.ok.above)
theorem Inv.stkSub(I:Inv X pins σ H s):∀b∈frs X.stack,b∈X.env.locals::X.fs:=fun b hb=>by
 rcases I.ok.stk with e |⟨e,hf⟩
 ·rw[e]at hb;exact List.mem_cons_of_mem _ hb
 ·rw[e]at hb
  unfold frs at hb
  rw[List.filterMap_cons,hf]at hb
  exact hb
theorem Inv.stkFree(I:Inv X pins σ H s):∀b∈frs X.stack,H b=none:=fun b hb=>by
 rcases List.mem_cons.mp (I.stkSub b hb)with e | hb
 ·rw[e];exact I.free
 ·obtain⟨_,o,ho,_⟩:=I.ok.funs.mem hb
  exact I.base.free b o ho (I.ok.frf b hb) fun z=>I.ok.exfs b z hb
theorem Inv.step{g':Array GenState}{t':Nat}{d':Drawn}{ch:List Addr}(I:Inv X pins σ H s)
  (hch:∀b∈ch,(b∈X.ex∨X.s₀.heap.objs.size≤b)/\b≠X.env.locals/\(∀x c,X.env.cells.lookup x=some c->c≠b)/\∀p∈X.pn++pins,p.1≠b)
  (keep:∀b o,b≠X.env.locals->b∉X.fs->b∉ch->s.heap.get? b=some o->H b=none->h'.get? b=some o)
  (slot:∀b o,b≠X.env.locals->b∈X.fs->b∉ch->s.heap.get? b=some o->H b=none->∃sl,h'.get? b=some { o with slots:=sl }) (free:∀b o,b∉ch->s.heap.get? b=some o->H b=none->H' b=none)
  (there:∀b o,b∉ch->s.heap.get? b=some o->∃o',h'.get? b=some o')
  (tups:∀b xs,H b=some (.tup xs)->H' b=some (.tup xs)) (frzs:∀b o u,H b=some (.frz o u)->H' b=some (.frz o u)) (tbls:∀b ps,H b=some (.tbl ps)->∃more,H' b=some (.tbl (ps++more)))
  (ns:∀m,s.heap.Ns X.env.locals m->h'.Ns X.env.locals m) (hok:HOk X.prog X.w H' h') (hg:AllBare g') :
  Inv X pins σ H' { s with heap:=h',gens:=g',drawn:=d',toks:=t' }:=by
 have neL:∀b o,X.s₀.heap.get? b=some o->b≠X.env.locals:=fun b o e=>Nat.ne_of_lt (Nat.lt_of_lt_of_le (Heap.lt_size e) I.ok.above)
 have neC:∀b o,X.s₀.heap.get? b=some o->b∉X.ex->b∉ch:=fun b o e hx hb=>by
  rcases (hch b hb).1 with z | z
  ·exact hx z
  ·exact absurd (Nat.lt_of_lt_of_le (Heap.lt_size e) z) (Nat.lt_irrefl _)
 have cellK:∀x c,X.env.cells.lookup x=some c->∀v,s.heap.IsCell c v->h'.IsCell c v:=fun x c e v ⟨o,ho,hd⟩=>by
  have nch:c∉ch:=fun z=>(hch c z).2.2.1 x c e rfl
  by_cases hc:c∈X.fs
  ·obtain⟨sl,q⟩:=slot c o (I.cne x c e) hc nch ho (I.freeC x c e)
   exact⟨_,q,hd⟩
  ·exact⟨o,keep c o (I.cne x c e) hc nch ho (I.freeC x c e),hd⟩
 refine⟨I.ok,I.os,hg,⟨fun b o e n hb hx=>?_,fun b o e n hb hx=>?_,fun b o e n hx=>?_,fun b o e hx=>?_,fun b xs e=>tups b xs (I.base.tups b xs e),fun b o xs e=>frzs b o xs (I.base.frzs b o xs e),fun b ps e=>?_⟩,?_,fun x c e=>?_,?_,fun x c e=>?_,fun p hp=>?_,hok,I.len⟩
 ·exact keep b o (neL b o e) hb (neC b o e hx) (I.base.keep b o e n hb hx) (I.base.free b o e n hx)
 ·obtain⟨sl,e1⟩:=I.base.slot b o e n hb hx
  obtain⟨sl',e2⟩:=slot b _ (neL b o e) hb (neC b o e hx) e1 (I.base.free b o e n hx)
  exact⟨sl',e2⟩
 ·obtain⟨o',e1⟩:=I.base.there b o e hx
  exact free b o' (neC b o e hx) e1 (I.base.free b o e n hx)
 ·obtain⟨o',e1⟩:=I.base.there b o e hx
  exact there b o' (neC b o e hx) e1
 ·obtain⟨m1,e1⟩:=I.base.tbls b ps e
  obtain⟨m2,e2⟩:=tbls b _ e1
  exact⟨m1++m2,by rw[e2,Array.append_assoc]⟩
 ·obtain⟨m,hn,hl⟩:=I.loc
  refine⟨m,ns m hn,fun i x v e1 e2 e3=>?_⟩
  obtain⟨u,r,l⟩:=hl i x v e1 e2 e3
  refine⟨u,r,?_⟩
  rcases l with l |⟨k,c,e,z⟩
  ·exact .inl l
  ·exact .inr ⟨k,c,e,cellK x c e _ z⟩
 ·obtain⟨v,z⟩:=I.cell x c e
  exact⟨v,cellK x c e v z⟩
 ·obtain⟨m,⟨o,_,_,ho,_⟩,_⟩:=I.loc
  exact free _ o (fun z=>(hch _ z).2.1 rfl) ho I.free
 ·obtain⟨v,o,ho,hd⟩:=I.cell x c e
  exact free c o (fun z=>(hch c z).2.2.1 x c e rfl) ho (I.freeC x c e)
 ·obtain⟨e,n,ne,nf,d⟩:=I.pin p hp
  have nch:p.1∉ch:=fun z=>(hch p.1 z).2.2.2 p hp rfl
  exact⟨keep p.1 p.2 ne nf nch e n,free p.1 p.2 nch e n,ne,nf,d⟩
theorem Inv.un{t':Nat}(I:Inv X pins σ H s)(u:Un X.fs [] H H' s.heap h')(hok:HOk X.prog X.w H' h'):Inv X pins σ H' { s with heap:=h',toks:=t' }:=by
 obtain⟨m,⟨o,es,ep,ho,r⟩,_⟩:=id I.loc
 obtain⟨sl,hL⟩:=u.any ho I.free (by simp)
 exact I.step (g':=s.gens) (d':=s.drawn) (ch:=[]) (fun _ z=>nomatch z) (fun b o _ hb _ e n=>u.keep b o e n hb (by simp)) (fun b o _ hb _ e n=>u.slot b o e n hb (by simp)) (fun b o _ e n=>u.free b o e n (by simp)) (fun b o _ e=>u.there b o e (by simp)) u.tups u.frzs u.tbls (fun m' hm=>by
  obtain⟨o',es',ep',ho',r'⟩:=hm
  rw[ho]at ho';cases ho'
  exact⟨_,es',ep',hL,r'⟩) hok I.bare
theorem Inv.call{g':Array GenState}{t':Nat}{d':Drawn}{ch:List Addr}(I:Inv X pins σ H s)(u:Un (frs X.stack) ch H H' s.heap h')(hok:HOk X.prog X.w H' h')(hg:AllBare g')
  (hch:∀b∈ch,(b∈X.ex∨X.s₀.heap.objs.size≤b)/\b≠X.env.locals/\(∀x c,X.env.cells.lookup x=some c->c≠b)/\∀p∈X.pn++pins,p.1≠b) :
  Inv X pins σ H' { s with heap:=h',gens:=g',drawn:=d',toks:=t' }:=by
 obtain⟨m,⟨o,es,ep,ho,r⟩,_⟩:=id I.loc
 obtain⟨sl,hL⟩:=u.any ho I.free fun z=>(hch _ z).2.1 rfl
 exact I.step (ch:=ch) hch (fun b o hL hb hc e n=>u.keep b o e n (fun z=>(List.mem_cons.mp (I.stkSub b z)).elim hL hb) hc) (fun b o _ _ hc e n=>u.any e n hc) (fun b o hc e n=>u.free b o e n hc) (fun b o hc e=>u.there b o e hc) u.tups u.frzs u.tbls (fun m' hm=>by
  obtain⟨o',es',ep',ho',r'⟩:=hm
  rw[ho]at ho';cases ho'
  exact⟨_,es',ep',hL,r'⟩) hok hg
theorem Inv.turned{t':Nat}{it:Addr}(I:Inv X pins σ H s)(k:∀b o,b≠it->s.heap.get? b=some o->h'.get? b=some o)(hn:H it=none)(hL:it≠X.env.locals)
  (h1:it∈X.ex∨X.s₀.heap.objs.size≤it) (h2:∀x c,X.env.cells.lookup x=some c->c≠it) (h3:∀p∈X.pn++pins,p.1≠it):Inv X pins σ H { s with heap:=h',toks:=t' }:=by
 have nit:∀b u,H b=some u->b≠it:=fun b u e z=>by rw[z,hn]at e;cases e
 refine I.step (g':=s.gens) (d':=s.drawn) (ch:=[it]) (fun b hb=>?_) (fun b o _ _ hc e _=>k b o (fun z=>hc (by simp[z])) e) (fun b o _ _ hc e _=>⟨o.slots,k b o (fun z=>hc (by simp[z])) e⟩) (fun _ _ _ _ n=>n)
  (fun b o hc e=>⟨o,k b o (fun z=>hc (by simp[z])) e⟩) (fun _ _ e=>e) (fun _ _ _ e=>e) (fun b ps e=>⟨#[],by rw[e];simp⟩) (fun m hm=>?_) (fun b u e=>?_) I.bare
 ·have e:b=it:=by simpa using hb
  subst e
  exact⟨h1,hL,h2,h3⟩
 ·obtain⟨o,es,ep,ho,r⟩:=hm
  exact⟨o,es,ep,k _ o (Ne.symm hL) ho,r⟩
 ·refine(I.hok b u e).stay (fun c v hc q=>k c v ?_ q) (fun _ q=>q) fun _ _ q=>q
  rcases hc with z | z
  ·rw[z];exact nit b u e
  ·exact nit c _ z
theorem Inv.tok(I:Inv X pins σ H s)(t:Nat):Inv X pins σ H { s with toks:=t }:=I.un (h':=s.heap) (t':=t) Un.refl I.hok
theorem Inv.kept{t':Nat}(I:Inv X pins σ H s)(k:∀b u,s.heap.get? b=some u->h'.get? b=some u):Inv X pins σ H { s with heap:=h',toks:=t' }:=I.un (Un.kept k) (I.hok.kept k)
theorem Inv.laid{a:Addr}{o:HO}{t':Nat}(I:Inv X pins σ H s)(k:∀b u,s.heap.get? b=some u->h'.get? b=some u)(hp:s.heap.objs.size≤a)(new:bQ X.prog X.w (upd H a o) h' a o) :
  Inv X pins σ (upd H a o) { s with heap:=h',toks:=t' }:=I.un (Un.laid k hp (I.hok.fresh hp)) (I.hok.laid k hp new)
theorem Inv.write{x e:Addr}{o:HO}{t':Nat}(I:Inv X pins σ H s)(mu:Mut (H x))(he:e=x∨H e=some (.own x))(k:∀b u,b≠e->s.heap.get? b=some u->h'.get? b=some u)(heo:∃u,h'.get? e=some u)
  (new:bQ X.prog X.w (upd H x o) h' x o):Inv X pins σ (upd H x o) { s with heap:=h',toks:=t' }:=I.un (Un.write mu he k heo) (I.hok.write mu he k heo new)
theorem Inv.pins_of{pins':List (Addr×Obj)}(I:Inv X pins σ H s)(h:∀p∈pins',s.heap.get? p.1=some p.2/\H p.1=none/\p.1≠X.env.locals/\p.1∉X.fs/\∀v,p.2.data≠.cell v):Inv X pins' σ H s :=
 ⟨I.ok,I.os,I.bare,I.base,I.loc,I.cell,I.free,I.freeC,fun p hp=>(List.mem_append.mp hp).elim (fun z=>I.pin p (List.mem_append_left _ z)) (h p),I.hok,I.len⟩
theorem lr{N:List Str}(hN:N.Nodup){i j:Nat}{x:Str}(a:N[i]?=some x)(b:N[j]?=some x):i=j:=by
 obtain⟨h1,e1⟩:=List.getElem?_eq_some_iff.mp a
 obtain⟨h2,e2⟩:=List.getElem?_eq_some_iff.mp b
 exact(List.getElem_inj hN).mp (e1.trans e2.symm)
theorem i6{M:Model}{A:Around}{E:Value->Shared->Prop}{i:Nat}{x:Str}{v:V}{u:Value}{Q:Unit->Shared->Prop}(I:Inv X pins σ H s)(hN:X.N.Nodup)(hi:X.N[i]?=some x)(hx:Loc X.env.scope x)(r:RelV v u)
  (h:∀s',Inv X pins (σ.set i (some v)) H s'->(∃a,Heap.SameBut a s.heap s'.heap/\(a=X.env.locals∨X.env.cells.lookup x=some a))->Q () s') (hf:X.fn x=true∨X.env.scope.names.lookup x=some .local:=by first | exact .inl rfl | exact .inr rfl | assumption):wpAny M A (storeName X.env x u) Q E s:=by
 obtain⟨m,hn,hl⟩:=id I.loc
 have hcls:(X.env.scope.kind==.class||(X.env.scope.kind==.module&&X.env.locals !=X.env.globals))=false:=by rw[I.ok.kind];rfl
 have hiσ:i<σ.length:=by rw[I.len];exact(List.getElem?_eq_some_iff.mp hi).1
 have cne:=I.cne
 have tracked:∀{a:Addr} {h':Heap},(∃o,s.heap.get? a=some o/\H a=none)->Heap.SameBut a s.heap h'->HOk X.prog X.w H h':=fun {a h'} ha hs b ob e=>by
  obtain⟨_,_,hfree⟩:=ha
  refine(I.hok b ob e).stay (fun c w' hc q=>(hs.2 c ?_).trans q) (fun _ q=>q) fun _ _ q=>q
  rintro rfl
  rcases hc with rfl | hc
  ·rw[hfree]at e;cases e
  ·rw[hfree]at hc;cases hc
 rcases hx with hk | hk
 ·refine wpAny_storeName_local hk hn (fun h' hn' hs=>?_) hcls
  obtain⟨oL,_,_,hoL,_⟩:=id hn
  refine h _ ⟨I.ok,I.os,I.bare,⟨fun b o e n hb hx=>?_,fun b o e n hb hx=>?_,I.base.free,fun b o e hx=>?_,I.base.tups,I.base.frzs,I.base.tbls⟩,⟨_,hn',fun j y v' e1 e2 e3=>?_⟩,fun y c e=>?_,I.free,I.freeC,fun p hp=>?_,tracked ⟨oL,hoL,I.free⟩ hs,by simpa using I.len⟩ ⟨_,hs,.inl rfl⟩
  ·exact(hs.2 b (Nat.ne_of_lt (Nat.lt_of_lt_of_le (Heap.lt_size e) I.ok.above))).trans (I.base.keep b o e n hb hx)
  ·obtain⟨sl,e1⟩:=I.base.slot b o e n hb hx
   exact⟨sl,(hs.2 b (Nat.ne_of_lt (Nat.lt_of_lt_of_le (Heap.lt_size e) I.ok.above))).trans e1⟩
  ·obtain⟨o',e1⟩:=I.base.there b o e hx
   exact⟨o',(hs.2 b (Nat.ne_of_lt (Nat.lt_of_lt_of_le (Heap.lt_size e) I.ok.above))).trans e1⟩
  ·by_cases hj:j=i
   ·subst hj
    rw[hi]at e1;cases e1
    rw[List.getElem?_set_self hiσ]at e2
    cases e2
    exact⟨u,r,.inl ⟨hk,by simp⟩⟩
   ·rw[List.getElem?_set_ne (Ne.symm hj)]at e2
    obtain⟨u',r',q⟩:=hl j y v' e1 e2 e3
    refine⟨u',r',?_⟩
    rcases q with⟨k,e⟩ |⟨k,c,e,z⟩
    ·refine .inl ⟨k,?_⟩
     have:y≠x:=fun e=>hj (lr hN e1 (e▸hi))
     simp[this,e]
    ·exact .inr ⟨k,c,e,z.sameBut hs (cne y c e)⟩
  ·obtain⟨w',z⟩:=I.cell y c e
   exact⟨w',z.sameBut hs (cne y c e)⟩
  ·obtain⟨e,n,ne,nf,d⟩:=I.pin p hp
   exact⟨(hs.2 p.1 ne).trans e,n,ne,nf,d⟩
 ·have hfn:X.fn x=true:=by
   rcases hf with z | z
   ·exact z
   ·rw[z]at hk;cases hk
  obtain⟨c,hc⟩:=I.ok.has x (.inl hk)
  obtain⟨w',z⟩:=I.cell x c hc
  refine wpAny_storeName_cell I.ok.kind hk hc z (fun h' hc' hs=>?_)
  obtain⟨oc,hoc,hocd⟩:=id z
  refine h { s with heap:=h' } ⟨I.ok,I.os,I.bare,⟨fun b o e n hb hx=>?_,fun b o e n hb hx=>?_,I.base.free,fun b o e hx=>?_,I.base.tups,I.base.frzs,I.base.tbls⟩,⟨m,hn.sameBut hs (Ne.symm (cne x c hc)),fun j y v' e1 e2 e3=>?_⟩,fun y c' e=>?_,I.free,I.freeC,fun p hp=>?_,tracked ⟨oc,hoc,I.freeC x c hc⟩ hs,by simpa using I.len⟩ ⟨c,hs,.inr hc⟩
  ·exact(hs.2 b (Nat.ne_of_lt (Nat.lt_of_lt_of_le (Heap.lt_size e) (I.ok.cab x c hfn hc)))).trans (I.base.keep b o e n hb hx)
  ·obtain⟨sl,e1⟩:=I.base.slot b o e n hb hx
   exact⟨sl,(hs.2 b (Nat.ne_of_lt (Nat.lt_of_lt_of_le (Heap.lt_size e) (I.ok.cab x c hfn hc)))).trans e1⟩
  ·obtain⟨o',e1⟩:=I.base.there b o e hx
   exact⟨o',(hs.2 b (Nat.ne_of_lt (Nat.lt_of_lt_of_le (Heap.lt_size e) (I.ok.cab x c hfn hc)))).trans e1⟩
  ·by_cases hj:j=i
   ·subst hj
    rw[hi]at e1;cases e1
    rw[List.getElem?_set_self hiσ]at e2
    cases e2
    exact⟨u,r,.inr ⟨.inl hk,c,hc,hc'⟩⟩
   ·rw[List.getElem?_set_ne (Ne.symm hj)]at e2
    obtain⟨u',r',q⟩:=hl j y v' e1 e2 e3
    refine⟨u',r',?_⟩
    rcases q with q |⟨k,c',e,z'⟩
    ·exact .inl q
    ·refine .inr ⟨k,c',e,z'.sameBut hs ?_⟩
     rintro rfl
     exact hj (lr hN e1 (I.ok.inj _ _ _ e hc▸hi))
  ·by_cases hcc:c'=c
   ·subst hcc;exact⟨_,hc'⟩
   ·obtain⟨w2,z2⟩:=I.cell y c' e
    exact⟨w2,z2.sameBut hs hcc⟩
  ·obtain⟨e,n,ne,nf,d⟩:=I.pin p hp
   refine⟨(hs.2 p.1 ?_).trans e,n,ne,nf,d⟩
   intro q
   rw[q,hoc]at e
   have q':oc=p.2:=Option.some.inj e
   exact d w' (by rw[←q'];exact hocd)
theorem kY{M:Model}{A:Around}{E:Value->Shared->Prop}{i:Nat}{x:Str}{v:V}{u:Value}{Q:Unit->Shared->Prop}(I:Inv X pins σ H s)(hN:X.N.Nodup)(hi:X.N[i]?=some x)(hx:Loc X.env.scope x)(r:RelV v u)
  (h:∀s',Inv X pins (σ.set i (some v)) H s'->Q () s') (hf:X.fn x=true∨X.env.scope.names.lookup x=some .local:=by first | exact .inl rfl | exact .inr rfl | assumption):wpAny M A (storeName X.env x u) Q E s :=
 i6 I hN hi hx r (fun s' I' _=>h s' I') hf
theorem Inv.call'{s':Shared}{ch:List Addr}(I:Inv X pins σ H s)(ho:s'.os=s.os)(u:Un (frs X.stack) ch H H' s.heap s'.heap)(hok:HOk X.prog X.w H' s'.heap)(hg:AllBare s'.gens)
  (hch:∀b∈ch,(b∈X.ex∨X.s₀.heap.objs.size≤b)/\b≠X.env.locals/\(∀x c,X.env.cells.lookup x=some c->c≠b)/\∀p∈X.pn++pins,p.1≠b):Inv X pins σ H' s':=by
 obtain⟨h',g',d',t',o'⟩:=s'
 have e:o'=s.os:=ho
 subst e
 exact I.call (g':=g') (t':=t') (d':=d') u hok hg hch
end
abbrev XK:=Value->Option Addr->Hp->Prop
abbrev St:=List (Option V)
abbrev VK:=V->Hp->Prop
abbrev TE:=St->Hp->VK->Prop
abbrev TT:=St->Hp->(Bool->Hp->Prop)->Prop
abbrev TA:=St->Hp->(List V->Hp->Prop)->Prop
structure Ends where
 nx:St->Hp->Prop
 rt:VK
 bk:St->Hp->Prop:=fun _ _=>False
 ct:St->Hp->Prop:=fun _ _=>False
abbrev TS:=Ends->St->Hp->Prop
def EP(X:Cx)(pins:List (Addr×Obj))(σ:St)(Q:VK)(u:Value)(s':Shared):Prop:=∃v H',Inv X pins σ H' s'/\RelV v u/\Q v H'
def TP(X:Cx)(pins:List (Addr×Obj))(σ:St)(Q:Bool->Hp->Prop)(b:Bool)(s':Shared):Prop:=∃H',Inv X pins σ H' s'/\Q b H'
def AP(X:Cx)(pins:List (Addr×Obj))(σ:St)(Q:List V->Hp->Prop)(us:List Value)(s':Shared):Prop:=∃vs H',Inv X pins σ H' s'/\Vals vs us/\Q vs H'
def SP(X:Cx)(pins:List (Addr×Obj))(D:Ends)(f:Flow)(s':Shared):Prop :=
 match f with
 | .next=>∃σ' H',Inv X pins σ' H' s'/\D.nx σ' H'
 | .brk=>∃σ' H',Inv X pins σ' H' s'/\D.bk σ' H'
 | .cont=>∃σ' H',Inv X pins σ' H' s'/\D.ct σ' H'
 | .ret u=>∃v σ' H',Inv X pins σ' H' s'/\RelV v u/\D.rt v H'
def PE(X:Cx)(e:Expr)(t:TE):Prop :=
 ∀(pins:List (Addr×Obj)) (s:Shared) (σ:St) (H:Hp) (Q:VK),Inv X pins σ H s->t σ H Q->wpAny (model X.prog X.w) X.A (eval e X.env) (EP X pins σ Q) X.xe s
def PT(X:Cx)(e:Expr)(t:TT):Prop :=
 ∀(pins:List (Addr×Obj)) (s:Shared) (σ:St) (H:Hp) (Q:Bool->Hp->Prop),Inv X pins σ H s->t σ H Q->wpAny (model X.prog X.w) X.A (isTrue e X.env (eval e X.env)) (TP X pins σ Q) X.xe s
def PW(X:Cx)(e:Expr)(t:TT):Prop :=
 ∀(whole:Sem Value) (pins:List (Addr×Obj)) (s:Shared) (σ:St) (H:Hp) (Q:Bool->Hp->Prop),Inv X pins σ H s->t σ H Q->wpAny (model X.prog X.w) X.A (isTrue e X.env whole) (TP X pins σ Q) X.xe s
theorem PW.pt{X:Cx}{e:Expr}{t:TT}(h:PW X e t):PT X e t:=h _
def PA(X:Cx)(es:List Expr)(t:TA):Prop :=
 ∀(pos:Pos) (pins:List (Addr×Obj)) (s:Shared) (σ:St) (H:Hp) (Q:List V->Hp->Prop),Inv X pins σ H s->t σ H Q->wpAny (model X.prog X.w) X.A (spliced (backTo pos (starEach es X.env))) (AP X pins σ Q) X.xe s
def PS(X:Cx)(st:Stmt)(t:TS):Prop :=
 ∀(pins:List (Addr×Obj)) (s:Shared) (σ:St) (H:Hp) (D:Ends),Inv X pins σ H s->t D σ H->wpAny (model X.prog X.w) X.A (exec st X.env) (SP X pins D) X.xe s
def PSs(X:Cx)(st:List Stmt)(t:TS):Prop :=
 ∀(pins:List (Addr×Obj)) (s:Shared) (σ:St) (H:Hp) (D:Ends),Inv X pins σ H s->t D σ H->wpAny (model X.prog X.w) X.A (execs st X.env) (SP X pins D) X.xe s
theorem thn{α:Type}{t:Sem α}{Q Q':α->Shared->Prop}{M:Model}{A:Around}{E:Value->Shared->Prop}{s:Shared}(h:wpAny M A t Q E s)(hQ:∀a s,Q a s->Q' a s):wpAny M A t Q' E s:=wpAny_mono h hQ fun _ _ x=>x
end L2
namespace L2
open PySem PySem.Spec PyProof.Rows
section
variable {X:Cx}
theorem bin{a b:Expr}{ta tb:TE}(ha:PE X a ta)(hb:PE X b tb){pins:List (Addr×Obj)}{s:Shared}{σ:St}{H:Hp}{R:V->V->Hp->Prop}(I:Inv X pins σ H s)(h:ta σ H fun x H1=>tb σ H1 fun y H2=>R x y H2)
  {α:Type} {Q:α->Shared->Prop} {f:Value->Value->Sem α}
  (hf:∀v u s2 x y H2,Inv X pins σ H2 s2->RelV x v->RelV y u->R x y H2->wpAny (model X.prog X.w) X.A (f v u) Q X.xe s2) :
  wpAny (model X.prog X.w) X.A (eval a X.env) (fun v s₁=>wpAny (model X.prog X.w) X.A (eval b X.env) (fun u s₂=>wpAny (model X.prog X.w) X.A (f v u) Q X.xe s₂) X.xe s₁) X.xe s:=by
 refine thn (ha pins s σ H _ I h) fun v s1 ⟨x,H1,I1,r1,q1⟩=>?_
 refine thn (hb pins s1 σ H1 _ I1 q1) fun u s2 ⟨y,H2,I2,r2,q2⟩=>?_
 exact hf v u s2 x y H2 I2 r1 r2 q2
def zY(i:Nat):TE:=fun σ H Q=>∃v,σ[i]?=some (some v)/\Q v H
def tC(v:V):TE:=fun _ H Q=>Q v H
theorem wF{i:Nat}{x:Str}{pos:Pos}(hN:X.N[i]?=some x)(hv:Vis X.env.scope x)(hd:(x==("__debug__":Str))=false:=by decide)(hcd:(x==("__classdict__":Str))=false:=by decide):PE X (.Name x pos) (zY i):=by
 intro pins s σ H Q I h
 obtain⟨v,e,h⟩:=h
 obtain⟨m,hn,hl⟩:=I.loc
 obtain⟨u,r,l⟩:=hl i x v hN e hv
 have fin:EP X pins σ Q u s:=⟨v,H,I,r,h⟩
 rcases l with⟨hk,hm⟩ |⟨hk,c,hc,hcell⟩
 ·exact wpAny_Name (wpAny_loadName_local I.ok.kind hk hn hm fin) hd
 ·rcases hk with hk | hk
  ·exact wpAny_Name (wpAny_loadName_cell I.ok.kind hk hc hcell fin) hd
  ·exact wpAny_Name (wpAny_loadName_free I.ok.kind hk hc hcell fin hcd) hd
theorem yo{i j pos}:PE X (.Constant (.int i) j pos) (tC (.int i)):=fun _ _ _ H _ I h=>wpAny_Constant_int ⟨.int i,H,I.tok _,⟨_,rfl⟩,h⟩
theorem Ba{b j pos}:PE X (.Constant (.bool b) j pos) (tC (.bl b)):=fun _ _ _ H _ I h=>Constant_bool ⟨.bl b,H,I,rfl,h⟩
theorem yM{x j pos}:PE X (.Constant (.str x) j pos) (tC (.str x)):=fun _ _ _ H _ I h=>Calls.Constant_str ⟨.str x,H,I.tok _,⟨_,rfl⟩,h⟩
def Gl(X:Cx)(x:Str):Prop:=X.env.kindOf x=some .globalImplicit
theorem jJ{E:Value->Shared->Prop}{pins:List (Addr×Obj)}{s:Shared}{σ:St}{H:Hp}{x:Str}{u:Value}{pos:Pos}{Q:Value->Shared->Prop}(I:Inv X pins σ H s)(hg:Gl X x)(hm:X.mg x=some u)(h:Q u s)
  (hd:(x==("__debug__":Str))=false:=by decide):wpAny (model X.prog X.w) X.A (eval (.Name x pos) X.env) Q E s :=
 Calls.Name_function_global I.ok.kind hg (Calls.loadGlobal_global (by rw[I.ok.glob];exact I.mod.glob.keeps I.bk) hm h) hd
theorem dW{E:Value->Shared->Prop}{pins:List (Addr×Obj)}{s:Shared}{σ:St}{H:Hp}{x:Str}{u:Value}{pos:Pos}{Q:Value->Shared->Prop}(I:Inv X pins σ H s)(hg:Gl X x)(hm:X.mg x=none)(hv:bootBuiltins x=some u)(h:Q u s)
  (hn:x≠"__name__":=by decide) (hd:(x==("__debug__":Str))=false:=by decide):wpAny (model X.prog X.w) X.A (eval (.Name x pos) X.env) Q E s:=by
 obtain⟨mb,h1,h2⟩:=I.mod.blt
 exact Calls.Name_function_global I.ok.kind hg (Calls.loadGlobal_builtin (by rw[I.ok.glob];exact I.mod.glob.keeps I.bk) hm (by rw[I.ok.blt];exact h1.keeps I.bk) ((h2 x hn).trans hv) h) hd
theorem r8{x:Str}{v:V}{u:Value}{pos:Pos}(hg:Gl X x)(hm:X.mg x=some u)(r:RelV v u)(hd:(x==("__debug__":Str))=false:=by decide):PE X (.Name x pos) (tC v) :=
 fun _ _ _ H _ I h=>jJ I hg hm ⟨v,H,I,r,h⟩ hd
theorem tU{x:Str}{v:V}{u:Value}{pos:Pos}(hg:Gl X x)(hm:X.mg x=none)(hv:bootBuiltins x=some u)(r:RelV v u)(hn:x≠"__name__":=by decide)(hd:(x==("__debug__":Str))=false:=by decide):PE X (.Name x pos) (tC v) :=
 fun _ _ _ H _ I h=>dW I hg hm hv ⟨v,H,I,r,h⟩ hn hd
variable {a b:Expr}{ta tb:TE}{pos:Pos}
def PC(X:Cx)(op:CmpOp)(a b:Expr)(t:TE):Prop :=
 ∀(pins:List (Addr×Obj)) (s:Shared) (σ:St) (H:Hp) (Q:VK),Inv X pins σ H s->t σ H Q ->
  wpAny (model X.prog X.w) X.A (eval a X.env) (fun v s₁=>wpAny (model X.prog X.w) X.A (eval b X.env) (fun u s₂=>wpAny (model X.prog X.w) X.A (compareOp op v u) (EP X pins σ Q) X.xe s₂) X.xe s₁) X.xe s
theorem rG(b:Expr){op:CmpOp}(h:op≠.In)(h2:op≠.NotIn):behindInMarks op b=false:=by
 have e1:(op==CmpOp.In)=false:=by cases op<;>first | rfl | exact absurd rfl h
 have e2:(op==CmpOp.NotIn)=false:=by cases op<;>first | rfl | exact absurd rfl h2
 cases b<;>simp[behindInMarks,e1,e2]
def tB(t:TE):TT:=fun σ H Q=>t σ H fun x H1=>∃c,x=.bl c/\Q c H1
theorem Cn{op:CmpOp}{t:TE}(h:PC X op a b t)(h1:behindInMarks op b=false:=by first | exact rG _ (by decide) (by decide) | rfl):PT X (.Compare a [op] [b] pos) (tB t):=by
 intro pins s σ H Q I hw
 refine wpAny_isTrue_Compare1 (thn (h pins s σ H _ I hw) fun v s1 h1=>thn h1 fun u s2 h2=>thn h2 fun c s3 ⟨x,H1,I1,r1,q1⟩=>?_) h1
 obtain⟨d,rfl,q⟩:=q1
 cases r1
 exact wpAny_truthy_bool ⟨H1,I1,q⟩
theorem xX{e:Expr}{t:TE}(h:PE X e t)(he:∀whole,isTrue e X.env whole=(do let v←whole;standAt e.pos;holding [v] (truthy v)):=by intro _;rfl):PT X e (tB t):=by
 intro pins s σ H Q I hw
 refine isTrue_plain (thn (h pins s σ H _ I hw) fun v s1 ⟨x,H1,I1,r1,q1⟩=>?_) (he _)
 obtain⟨d,rfl,q⟩:=q1
 cases r1
 exact wpAny_truthy_bool ⟨H1,I1,q⟩
variable {tA tB':TT}{rest:List Expr}
def C0(t u:TT):TT:=fun σ H Q=>t σ H fun c H1=>if c=true then u σ H1 Q else Q false H1
def tOr(t u:TT):TT:=fun σ H Q=>t σ H fun c H1=>if c=true then Q true H1 else u σ H1 Q
def Ea(t:TT):TT:=fun σ H Q=>t σ H fun c H1=>Q (!c) H1
theorem sG(ha:PT X a tA):PW X (.BoolOp .And [a] pos) tA:=by
 intro wh pins s σ H Q I h
 refine isTrue_and (thn (ha pins s σ H Q I h) fun c s1 e=>?_)
 cases c with
 | true=>exact isTrue_and_nil e
 | false=>exact e
theorem wR(ha:PT X a tA):PW X (.BoolOp .Or [a] pos) tA:=by
 intro wh pins s σ H Q I h
 refine isTrue_or (thn (ha pins s σ H Q I h) fun c s1 e=>?_)
 cases c with
 | false=>exact isTrue_or_nil e
 | true=>exact e
theorem wM(ha:PT X a tA)(hb:PW X (.BoolOp .And (b::rest) pos) tB'):PW X (.BoolOp .And (a::b::rest) pos) (C0 tA tB'):=by
 intro wh pins s σ H Q I h
 refine isTrue_and (thn (ha pins s σ H _ I h) fun c s1 ⟨H1,I1,q1⟩=>?_)
 cases c with
 | true=>exact hb wh pins s1 σ H1 Q I1 q1
 | false=>exact⟨H1,I1,q1⟩
theorem Ae(ha:PT X a tA)(hb:PW X (.BoolOp .Or (b::rest) pos) tB'):PW X (.BoolOp .Or (a::b::rest) pos) (tOr tA tB'):=by
 intro wh pins s σ H Q I h
 refine isTrue_or (thn (ha pins s σ H _ I h) fun c s1 ⟨H1,I1,q1⟩=>?_)
 cases c with
 | true=>exact⟨H1,I1,q1⟩
 | false=>exact hb wh pins s1 σ H1 Q I1 q1
theorem xp(ha:PT X a tA):PT X (.UnaryOp .Not a pos) (Ea tA):=by
 intro pins s σ H Q I h
 exact isTrue_not (ha pins s σ H (fun c H1=>Q (!c) H1) I h)
def Ay(ta tb:TE):TE:=fun σ H Q=>ta σ H fun x H1=>∃c,x=.bl c/\if c=true then tb σ H1 Q else Q (.bl false) H1
def AA(ta:TE):TE:=fun σ H Q=>ta σ H fun x H1=>∃c,x=.bl c/\Q (.bl (!c)) H1
theorem ya{op}{t:TE}(h:PE X a t):PE X (.BoolOp op [a] pos) t:=fun pins s σ H Q I hw=>BoolOp_one (h pins s σ H Q I hw)
theorem wq(ha:PE X a ta)(hb:PE X (.BoolOp .And (b::rest) pos) tb):PE X (.BoolOp .And (a::b::rest) pos) (Ay ta tb):=by
 intro pins s σ H Q I h
 refine BoolOp_and (thn (ha pins s σ H _ I h) fun v s1 ⟨x,H1,I1,r1,q1⟩=>?_)
 obtain⟨c,rfl,q1⟩:=q1
 cases r1
 refine wpAny_truthy_bool ?_
 cases c with
 | true=>exact hb pins s1 σ H1 Q I1 q1
 | false=>exact⟨.bl false,H1,I1,rfl,q1⟩
theorem wW(ha:PE X a ta):PE X (.UnaryOp .Not a pos) (AA ta):=by
 intro pins s σ H Q I h
 refine UnaryOp_ (thn (ha pins s σ H _ I h) fun v s1 ⟨x,H1,I1,r1,q1⟩=>?_)
 obtain⟨c,rfl,q1⟩:=q1
 cases r1
 exact not_of (wpAny_truthy_bool ⟨.bl (!c),H1,I1,rfl,q1⟩)
end
end L2
namespace L2
open PySem PySem.Spec PyProof.Rows
def SqL(K:PySem.W.Frag)(H:Hp)(a:Addr)(xs:List V):Prop :=
 Rd H a (.lst xs) ∨
  ∃(o:Obj) (its:Array Value) (n:Nat),K.lookup a=some o/\o.cls=.type "list"/\o.dict=none/\o.data=.seq its n/\its.size≤sizeLine/\Vals xs its.toList
def SqT(K:PySem.W.Frag)(H:Hp)(a:Addr)(xs:List V):Prop :=
 Rd H a (.tup xs) ∨
  ∃(o:Obj) (its:Array Value) (n:Nat),K.lookup a=some o/\o.cls=.type "tuple"/\o.data=.seq its n/\its.size≤sizeLine/\Vals xs its.toList
def DV:Value->Option V
 | .none=>some .non
 | .bool b=>some (.bl b)
 | .int i _=>some (.int i)
 | .str x _=>some (.str x)
 | .bytes b _=>some (.byt b)
 | .float b _=>some (.flt b)
 | .ref a=>some (.ref a)
 | .type n=>some (.ty n)
 | _=>none
theorem RelV.abs{x:V}{u:Value}(r:RelV x u):DV u=some x:=by
 cases x with
 | non=>cases r;rfl
 | bl _=>cases r;rfl
 | int _=>obtain⟨t,rfl⟩:=r;rfl
 | str _=>obtain⟨t,rfl⟩:=r;rfl
 | byt _=>obtain⟨t,rfl⟩:=r;rfl
 | flt _=>obtain⟨t,rfl⟩:=r;rfl
 | ref _=>cases r;rfl
 | ty _=>cases r;rfl
theorem RelV.inj{x y:V}{u:Value}(r:RelV x u)(q:RelV y u):x=y:=Option.some.inj (r.abs.symm.trans q.abs)
theorem Vals.inj:∀{xs ys:List V} {us:List Value},Vals xs us->Vals ys us->xs=ys
 | _,_,_,.nil,.nil=>rfl
 | _,_,_,.cons r t,.cons r' t'=>by rw[r.inj r',Vals.inj t t']
section
variable {X:Cx}{pins:List (Addr×Obj)}{σ:St}{H:Hp}{s:Shared}{a:Addr}{xs ys:List V}
theorem SqL.of{K:PySem.W.Frag}(h:H a=some (.lst xs)):SqL K H a xs:=.inl (.inl h)
theorem SqT.of{K:PySem.W.Frag}(h:H a=some (.tup xs)):SqT K H a xs:=.inl (.inl h)
theorem Inv.list(I:Inv X pins σ H s)(h:SqL X.K H a xs):∃its:List Value,Vals xs its/\PlainL s.heap a its.toArray/\xs.length≤sizeLine:=by
 rcases h with h |⟨o,its,n,hk,hc,hd,hs,hz,r⟩
 ·obtain⟨z,its,n,r,e⟩:=h.ok I.hok
  exact⟨its,r,⟨_,n,e,rfl,rfl,rfl⟩,z⟩
 ·refine⟨its.toList,r,⟨o,n,I.kIn a o hk,hc,hd,by simpa using hs⟩,?_⟩
  have e:=r.length
  simp only[Array.length_toList]at e
  omega
theorem Inv.tuple(I:Inv X pins σ H s)(h:SqT X.K H a xs):∃its:List Value,Vals xs its/\IsTup s.heap a its.toArray/\xs.length≤sizeLine:=by
 rcases h with h |⟨o,its,n,hk,hc,hs,hz,r⟩
 ·obtain⟨z,its,r,p⟩:=h.ok I.hok
  exact⟨its,r,p,z⟩
 ·refine⟨its.toList,r,⟨o,I.kIn a o hk,hc,n,by simpa using hs⟩,?_⟩
  have e:=r.length
  simp only[Array.length_toList]at e
  omega
theorem Inv.list_inj(I:Inv X pins σ H s)(h:SqL X.K H a xs)(h':SqL X.K H a ys):xs=ys:=by
 obtain⟨its,r,⟨o,n,e,_,_,d⟩,_⟩:=I.list h
 obtain⟨its',r',⟨o',n',e',_,_,d'⟩,_⟩:=I.list h'
 rw[e]at e';cases e'
 rw[d]at d'
 injection d' with d1 _
 have:its=its':=by simpa using congrArg Array.toList d1
 subst this
 exact r.inj r'
theorem Inv.tuple_inj(I:Inv X pins σ H s)(h:SqT X.K H a xs)(h':SqT X.K H a ys):xs=ys:=by
 obtain⟨its,r,⟨o,e,_,n,d⟩,_⟩:=I.tuple h
 obtain⟨its',r',⟨o',e',_,n',d'⟩,_⟩:=I.tuple h'
 rw[e]at e';cases e'
 rw[d]at d'
 injection d' with d1 _
 have:its=its':=by simpa using congrArg Array.toList d1
 subst this
 exact r.inj r'
end
abbrev Cx.wish(X:Cx)(E:Value->Shared->Prop):Cx:={ X with xe:=E }
abbrev Cx.nox(X:Cx):Cx:=X.wish fun _ _=>False
theorem Cx.Ok.wish{X:Cx}(ok:X.Ok)(E:Value->Shared->Prop):(X.wish E).Ok :=
 ⟨ok.mod,ok.kind,ok.glob,ok.blt,ok.above,ok.inj,ok.has,ok.cab,ok.hd,ok.frames,ok.stk,ok.exf,ok.bs,ok.bsz,ok.noex,ok.exfs,ok.funs,ok.frf⟩
theorem Cx.Ok.unwish{X:Cx}{E:Value->Shared->Prop}(ok:(X.wish E).Ok):X.Ok :=
 ⟨ok.mod,ok.kind,ok.glob,ok.blt,ok.above,ok.inj,ok.has,ok.cab,ok.hd,ok.frames,ok.stk,ok.exf,ok.bs,ok.bsz,ok.noex,ok.exfs,ok.funs,ok.frf⟩
section
variable {X:Cx}{pins:List (Addr×Obj)}{σ:St}{H:Hp}{s:Shared}{E:Value->Shared->Prop}
theorem Inv.wish(I:Inv X pins σ H s)(E:Value->Shared->Prop):Inv (X.wish E) pins σ H s:=⟨I.ok.wish E,I.os,I.bare,I.base,I.loc,I.cell,I.free,I.freeC,I.pin,I.hok,I.len⟩
theorem Inv.unwish(I:Inv (X.wish E) pins σ H s):Inv X pins σ H s:=⟨I.ok.unwish,I.os,I.bare,I.base,I.loc,I.cell,I.free,I.freeC,I.pin,I.hok,I.len⟩
theorem SP.unwish{D:Ends}{f:Flow}{s':Shared}(h:SP (X.wish E) pins D f s'):SP X pins D f s':=by
 cases f with
 | next=>obtain⟨σ',H',I,q⟩:=h;exact⟨σ',H',I.unwish,q⟩
 | brk=>obtain⟨σ',H',I,q⟩:=h;exact⟨σ',H',I.unwish,q⟩
 | cont=>obtain⟨σ',H',I,q⟩:=h;exact⟨σ',H',I.unwish,q⟩
 | ret u=>obtain⟨v,σ',H',I,r,q⟩:=h;exact⟨v,σ',H',I.unwish,r,q⟩
theorem PSs.nox{st:List Stmt}{t:TS}(h:PSs X.nox st t):PSs X st t:=fun pins s σ H D I hw =>
 wpAny_mono (h pins s σ H D (I.wish _) hw) (fun _ _ q=>q.unwish) fun _ _ z=>False.elim z
end
section
variable {X:Cx}{st:Stmt}{rest:List Stmt}{t u:TS}{e:Expr}{te:TE}{pos:Pos}
def zH:TS:=fun D σ H=>D.nx σ H
def C7(t u:TS):TS:=fun D σ H=>t { D with nx:=u D } σ H
theorem tZ:PSs X [] zH:=fun _ _ σ H _ I h=>wpAny_execs_nil ⟨σ,H,I,h⟩
theorem rL(h1:PS X st t)(h2:PSs X rest u):PSs X (st::rest) (C7 t u):=by
 intro pins s σ H D I h
 refine wpAny_execs_cons (thn (h1 pins s σ H { D with nx:=u D } I h) fun f s1 q=>?_)
 cases f with
 | next =>
  obtain⟨σ',H',I',q⟩:=q
  exact h2 pins s1 σ' H' D I' q
 | ret v=>exact q
 | brk=>exact q
 | cont=>exact q
theorem uu(h1:PS X st t):PSs X [st] t:=by
 intro pins s σ H D I h
 refine wpAny_execs_cons (thn (h1 pins s σ H D I h) fun f s1 q=>?_)
 cases f with
 | next=>exact wpAny_execs_nil q
 | ret v=>exact q
 | brk=>exact q
 | cont=>exact q
theorem Inv.quiet{pins:List (Addr×Obj)}{σ:St}{H:Hp}{s:Shared}(I:Inv X pins σ H s):interactive X.env=false:=by simp[interactive,I.ok.kind]
def A1(te:TE):TS:=fun D σ H=>te σ H fun _ H1=>D.nx σ H1
theorem ud(he:PE X e te)(hs:swapsWith e none pos.line X.env=pure false:=by rfl):PS X (.Expr e pos) (A1 te):=by
 intro pins s σ H D I h
 exact wpAny_Expr_any (thn (he pins s σ H _ I h) fun v s1 ⟨x,H1,I1,r1,q1⟩=>⟨σ,H1,I1,q1⟩) I.quiet hs
def C9(te:TE):TS:=fun D σ H=>te σ H D.rt
theorem xT(he:PE X e te):PS X (.Return (some e) pos) (C9 te):=by
 intro pins s σ H D I h
 exact wpAny_Return_some (thn (he pins s σ H _ I h) fun v s1 ⟨x,H1,I1,r1,q1⟩=>⟨x,σ,H1,I1,r1,q1⟩)
def C8(c:TT)(t u:TS):TS:=fun D σ H=>c σ H fun b H1=>if b=true then t D σ H1 else u D σ H1
theorem y9{c:Expr}{a b:List Stmt}{tc:TT}(hc:PT X c tc)(ha:PSs X a t)(hb:PSs X b u):PS X (.If c a b pos) (C8 tc t u):=by
 intro pins s σ H D I h
 refine wpAny_If (thn (hc pins s σ H _ I h) fun d s1 ⟨H1,I1,q1⟩=>?_)
 cases d with
 | true=>exact ha pins s1 σ H1 D I1 q1
 | false=>exact hb pins s1 σ H1 D I1 q1
end
abbrev TG:=V->St->Hp->(St->Hp->Prop)->Prop
abbrev TGs:=List V->St->Hp->(St->Hp->Prop)->Prop
def PG(X:Cx)(target:Expr)(t:TG):Prop :=
 ∀(pins:List (Addr×Obj)) (s:Shared) (σ:St) (H:Hp) (v:V) (u:Value) (Q:St->Hp->Prop),Inv X pins σ H s->RelV v u->t v σ H Q ->
  wpAny (model X.prog X.w) X.A (assign target X.env u) (fun _ s'=>∃σ' H',Inv X pins σ' H' s'/\Q σ' H') X.xe s
def PGs(X:Cx)(ts:List Expr)(t:TGs):Prop :=
 ∀(pins:List (Addr×Obj)) (s:Shared) (σ:St) (H:Hp) (vs:List V) (us:List Value) (Q:St->Hp->Prop),Inv X pins σ H s->Vals vs us->t vs σ H Q ->
  wpAny (model X.prog X.w) X.A (assignInOrder ((assignEach ts X.env).map (·.2)) us) (fun _ s'=>∃σ' H',Inv X pins σ' H' s'/\Q σ' H') X.xe s
abbrev xl:=V->V->V->Hp->(Hp->Prop)->Prop
def iR(X:Cx)(t:xl):Prop :=
 ∀(pins:List (Addr×Obj)) (s:Shared) (σ:St) (H:Hp) (o i v:V) (ov iv u:Value) (Q:Hp->Prop),Inv X pins σ H s->RelV o ov->RelV i iv->RelV v u->t o i v H Q ->
  wpAny (model X.prog X.w) X.A (setItem ov iv u) (fun _ s'=>∃H',Inv X pins σ H' s'/\Q H') X.xe s
section
variable {X:Cx}{pos:Pos}
def mJ(i:Nat):TG:=fun v σ H Q=>Q (σ.set i (some v)) H
theorem tS{i:Nat}{x:Str}(hN:X.N.Nodup)(hi:X.N[i]?=some x)(hx:Loc X.env.scope x)(hf:X.fn x=true∨X.env.scope.names.lookup x=some .local:=by first | exact .inl rfl | exact .inr rfl | assumption):PG X (.Name x pos) (mJ i):=by
 intro pins s σ H v u Q I r h
 exact wpAny_assign_Name (kY I hN hi hx r (fun s' I'=>⟨_,H,I',h⟩) hf)
def D3:TGs:=fun vs σ H Q=>vs=[]/\Q σ H
def Be(t:TG)(u:TGs):TGs:=fun vs σ H Q=>∃v r,vs=v::r/\t v σ H fun σ' H'=>u r σ' H' Q
theorem uD:PGs X [] D3:=by
 intro pins s σ H vs us Q I r h
 obtain⟨e,h⟩:=h
 subst e
 cases r
 exact assignInOrder_nil ⟨σ,H,I,h⟩
theorem qY{e:Expr}{es:List Expr}{t:TG}{u:TGs}(h1:PG X e t)(h2:PGs X es u)
  (hs:(assignEach (e::es) X.env).map (·.2)=assign e X.env::(assignEach es X.env).map (·.2):=by rfl):PGs X (e::es) (Be t u):=by
 intro pins s σ H vs us Q I r h
 obtain⟨v,vr,e1,h⟩:=h
 subst e1
 cases r with
 | cons r rr =>
  rw[hs]
  refine assignInOrder_cons (thn (h1 pins s σ H _ _ _ I r h) fun _ s1 ⟨σ1,H1,I1,q1⟩=>?_)
  exact h2 pins s1 σ1 H1 _ _ Q I1 rr q1
def B3(K:PySem.W.Frag)(n:Nat)(t:TGs):TG:=fun v σ H Q=>∃a xs,v=.ref a/\SqT K H a xs/\xs.length=n/\t xs σ H Q
theorem wV{es:List Expr}{k:Nat}{t:TGs}{n:Nat}(hc:X.calm=true)(h:PGs X es t)
  (hn:(assignEach es X.env).length=n:=by rfl) (hst:(assignEach es X.env).findIdx? (·.1)=none:=by rfl):PG X (.Tuple es k pos) (B3 X.K n t):=by
 intro pins s σ H v u Q I r hw
 obtain⟨a,xs,e1,hq,hl,hw⟩:=hw
 subst e1
 cases r
 obtain⟨its,rv,ht,hz⟩:=I.tuple hq
 refine assign_Tuple_tuple (I.ok.hd hc) ht (by simp[hn,← hl,rv.length]) hst fun h' hx=>?_
 have I1:Inv X pins σ H { s with heap:=h' }:=I.kept (t':=s.toks) fun b o e=>hx b o (Nat.ne_of_lt (Heap.lt_size e)) e
 exact h pins _ σ H xs _ Q I1 (by simpa using rv) hw
def CP(to ti:TE)(t:xl):TG:=fun v σ H Q=>to σ H fun o H1=>ti σ H1 fun i H2=>t o i v H2 fun H3=>Q σ H3
theorem wG{o i:Expr}{to ti:TE}{t:xl}(ho:PE X o to)(hi:PE X i ti)(hs:iR X t)
  (ha:∀v,assign (.Subscript o i pos) X.env v=(do
   let ov←holding [v] (eval o X.env)
   let iv←holding [v,ov] (eval i X.env)
   standAt pos
   holding [v,ov,iv] (setItem ov iv v)
   release [v,ov,iv] []):=by intro _;rfl):PG X (.Subscript o i pos) (CP to ti t):=by
 intro pins s σ H v u Q I r h
 rw[ha]
 refine wpAny_bind (wpAny_holding (thn (ho pins s σ H _ I h) fun ov s1 ⟨x,H1,I1,r1,q1⟩=>?_))
 refine wpAny_bind (wpAny_holding (thn (hi pins s1 σ H1 _ I1 q1) fun iv s2 ⟨y,H2,I2,r2,q2⟩=>?_))
 refine wpAny_bind (wpAny_standAt (wpAny_bind (wpAny_holding (thn (hs pins s2 σ H2 x y v ov iv u _ I2 r1 r2 r q2) fun _ s3 ⟨H3,I3,q3⟩=>?_))))
 exact wpAny_release ⟨σ,H3,I3,q3⟩
def uw(te:TE)(g:TG):TS:=fun D σ H=>te σ H fun x H1=>g x σ H1 D.nx
theorem xF{tg e:Expr}{te:TE}{g:TG}(he:PE X e te)(hg:PG X tg g)(hs:swapsWithSole [tg] e pos.line X.env=pure false:=by rfl)(hw:swappedStores [tg] e X.env=pure none:=by rfl)
  (h1:(assignEach [tg] X.env).map (·.2)=[assign tg X.env]:=by rfl):PS X (.Assign [tg] e pos) (uw te g):=by
 intro pins s σ H D I h
 refine wpAny_Assign_stores (thn (he pins s σ H _ I h) fun v s1 ⟨x,H1,I1,r1,q1⟩=>?_) hs hw
 rw[h1]
 exact thn (hg pins s1 σ H1 x v _ I1 r1 q1) fun _ s2 q=>q
theorem xB{i:Nat}{x:Str}{e:Expr}{te:TE}{pos':Pos}(hN:X.N.Nodup)(hi:X.N[i]?=some x)(hx:Loc X.env.scope x)(he:PE X e te)(hs:swapsWith e (some (.Name x pos')) pos.line X.env=pure false:=by rfl)(hf:X.fn x=true∨X.env.scope.names.lookup x=some .local:=by first | exact .inl rfl | exact .inr rfl | assumption) :
  PS X (.Assign [.Name x pos'] e pos) (uw te (mJ i)):=by
 intro pins s σ H D I h
 refine wpAny_Assign_Name (thn (he pins s σ H _ I h) fun v s1 ⟨y,H1,I1,r1,q1⟩=>?_) hs
 exact kY I1 hN hi hx r1 (fun s2 I2=>⟨_,H1,I2,q1⟩) hf
end
section
variable {X:Cx}{pos:Pos}
def pN(c:TT)(tb:TS):TS:=fun D σ H=>∃W:Nat->St->Hp->Prop,(∃m,W m σ H)/\∀m σ H,W m σ H ->
 c σ H fun b H1=>if b=true then ∃N:St->Hp->Prop,(∀σ' H',N σ' H'->∃m',m'<m/\W m' σ' H')/\tb { D with nx:=N,ct:=N,bk:=D.nx } σ H1 else D.nx σ H1
theorem rj{c:Expr}{body:List Stmt}{tc:TT}{tb:TS}(hp:PassesOwn (model X.prog X.w) X.A X.env X.xe)(hc:PT X c tc)(hb:PSs X body tb):PS X (.While c body [] pos) (pN tc tb):=by
 intro pins s σ H D I h
 obtain⟨W,⟨m0,w0⟩,turn⟩:=h
 refine wpAny_While (codeAny_whileLoop (fun n s'=>∃σ' H',Inv X pins σ' H' s'/\W n σ' H') ?_ m0 ⟨σ,H,I,w0⟩)
 rintro n s1 ⟨σ1,H1,I1,w1⟩
 refine wpAny_passesOwn hp (thn (hc pins s1 σ1 H1 _ I1 (turn n σ1 H1 w1)) fun b s2 ⟨H2,I2,q2⟩=>?_)
 cases b with
 | true =>
  obtain⟨N,hN,q2⟩:=q2
  rw[if_pos rfl]
  refine wpAny_passesOwn hp (thn (hb pins s2 σ1 H2 _ I2 q2) fun f s3 q3=>?_)
  cases f with
  | next =>
   obtain⟨σ3,H3,I3,n3⟩:=q3
   obtain⟨m',hm,w3⟩:=hN σ3 H3 n3
   exact⟨m',hm,σ3,H3,I3,w3⟩
  | cont =>
   obtain⟨σ3,H3,I3,n3⟩:=q3
   obtain⟨m',hm,w3⟩:=hN σ3 H3 n3
   exact⟨m',hm,σ3,H3,I3,w3⟩
  | brk=>exact q3
  | ret v=>exact q3
 | false =>
  rw[if_neg Bool.false_ne_true]
  exact wpAny_execs_nil ⟨σ1,H2,I2,q2⟩
end
structure It where
 go:Nat->Hp->Prop
 yld:Nat->Hp->V->Hp->Prop
 stop:Nat->Hp->Prop
def fK(X:Cx)(pins:List (Addr×Obj))(H:Hp)(b:Addr):Prop :=
 H b=none/\b≠X.env.locals/\b∉X.fs/\(b∈X.ex∨X.s₀.heap.objs.size≤b)/\(∀x c,X.env.cells.lookup x=some c->c≠b)/\∀p∈X.pn++pins,p.1≠b
theorem Inv.fpOk{X:Cx}{pins:List (Addr×Obj)}{σ:St}{H H':Hp}{s:Shared}{b:Addr}(I:Inv X pins σ H s)(hb:s.heap.objs.size≤b)(hn:H' b=none):fK X pins H' b:=by
 refine⟨hn,Nat.ne_of_gt (Nat.lt_of_lt_of_le I.lt hb),I.nofs hb,.inr (Nat.le_trans I.sz hb),fun x c e z=>?_,fun p hp z=>?_⟩
 ·obtain⟨v,q⟩:=I.cell x c e
  exact absurd (Nat.lt_of_lt_of_le q.lt (by rw[z];exact hb)) (Nat.lt_irrefl _)
 ·exact absurd (Nat.lt_of_lt_of_le (Heap.lt_size (I.pin p hp).1) (by rw[z];exact hb)) (Nat.lt_irrefl _)
structure Turn (P:Program) (w:World) (K:PySem.W.Frag) (tg:Expr) (J:It) (fp:List Addr) (it:Addr) (tn:Nat→Heap→Prop):Prop where
 mem:it∈fp
 obj:∀i h,tn i h->∀b∈fp,∃o,h.get? b=some o/\∀v,o.data≠.cell v
 keep:∀i h h',tn i h->(∀b∈fp,∀o,h.get? b=some o->h'.get? b=some o)->tn i h'
 item:∀(X:Cx),X.prog=P->X.w=w->X.K=K->X.calm=true->∀(i:Nat) (pins:List (Addr×Obj)) (s:Shared) (σ:St) (H:Hp) (E:Value->Shared->Prop),Inv X pins σ H s->(∀b∈fp,fK X pins H b)->tn i s.heap->J.go i H ->
  wpAny (model P w) X.A (pyNext (.ref it)) (fun r s1=>∃u,r=some u /\
   wpAny (model P w) X.A (letOwnedTupleGo tg (.ref it) u) (fun _ s2=>∃x H',Inv X pins σ H' s2/\RelV x u/\J.yld i H x H'/\tn (i+1) s2.heap/\∀b∈fp,H' b=none) E s1) E s
 done:∀(X:Cx),X.prog=P->X.w=w->X.K=K->X.calm=true->∀(i:Nat) (pins:List (Addr×Obj)) (s:Shared) (σ:St) (H:Hp) (E:Value->Shared->Prop),Inv X pins σ H s->(∀b∈fp,fK X pins H b)->tn i s.heap->J.stop i H ->
  wpAny (model P w) X.A (pyNext (.ref it)) (fun r s1=>r=none/\Inv X pins σ H s1) E s
 self:∀(A:Around) (i:Nat) (s:Shared) (Q:Value->Shared->Prop) (E:Value->Shared->Prop),tn i s.heap->Q (.ref it) s->wpAny (model P w) A (pyIter (.ref it)) Q E s
abbrev TI:=St->Hp->(It->Hp->Prop)->Prop
def PIE(X:Cx)(pins:List (Addr×Obj))(σ:St)(tg:Expr)(R:It->Hp->Prop)(itv:Value)(s2:Shared):Prop :=
 ∃(it:Addr) (fp:List Addr) (tn:Nat->Heap->Prop) (J:It) (H':Hp),itv=.ref it/\Inv X pins σ H' s2/\Turn X.prog X.w X.K tg J fp it tn/\tn 0 s2.heap/\(∀b∈fp,fK X pins H' b)/\R J H'
def PI(X:Cx)(tg iter:Expr)(wi:TI):Prop :=
 ∀(pins:List (Addr×Obj)) (s:Shared) (σ:St) (H:Hp) (R:It->Hp->Prop),Inv X pins σ H s->wi σ H R ->
  wpAny (model X.prog X.w) X.A (eval iter X.env) (fun v s1=>wpAny (model X.prog X.w) X.A (pyIter v) (PIE X pins σ tg R) X.xe s1) X.xe s
theorem ki{M:Model}{A:Around}{E:Value->Shared->Prop}{s:Shared}{tg:Expr}{it:Addr}{u:Value}{o:Obj}{n:String}{vs:Array Value}{Q:Unit->Shared->Prop}(ho:s.heap.get? it=some o)(hc:o.cls=.type n)(hd:o.data=.fields vs)
  (hn:["enumerate","zip","dict_itemiterator","dict_reverseitemiterator","odict_iterator","itertools.zip_longest","itertools.pairwise"].contains n=false) (hQ:Q () s):wpAny M A (letOwnedTupleGo tg (.ref it) u) Q E s:=by
 unfold letOwnedTupleGo
 cases tg<;>first
  | exact wpAny_pure hQ
  |(cases u<;>first
    | exact wpAny_pure hQ
    | (refine wpAny_bind (wpAny_load ho ?_)
       rw [hc,hd]
       show wpAny M A (if (["enumerate","zip","dict_itemiterator","dict_reverseitemiterator","odict_iterator","itertools.zip_longest","itertools.pairwise"].contains n && vs[0]? == some (rawInt _))=true then _ else _) Q E s
       rw [if_neg (by intro h; rw [hn,Bool.false_and] at h; cases h)]
       exact wpAny_pure hQ))
def Itl(K:PySem.W.Frag)(a:Addr):It :=
 ⟨fun i H=>∃xs x,SqL K H a xs/\xs[i]?=some x,fun i H x H'=>H'=H/\∀xs,SqL K H a xs->xs[i]?=some x,fun i H=>∃xs,SqL K H a xs/\xs.length≤i⟩
def Itt(K:PySem.W.Frag)(a:Addr):It :=
 ⟨fun i H=>∃xs x,SqT K H a xs/\xs[i]?=some x,fun i H x H'=>H'=H/\∀xs,SqT K H a xs->xs[i]?=some x,fun i H=>∃xs,SqT K H a xs/\xs.length≤i⟩
def Itr(lo:Int)(n:Nat):It:=⟨fun i _=>i<n,fun i H x H'=>H'=H/\x=.int (lo+i),fun i _=>n≤i⟩
theorem oI{P:Program}{w:World}{K:PySem.W.Frag}{tg:Expr}(a it:Addr):Turn P w K tg (Itl K a) [it] it (fun i h=>h.IsListIter it a i) where
 mem:=by simp
 obj:=fun i h st b hb=>by
  have e:b=it:=by simpa using hb
  subst e
  obtain⟨o,e,c,d⟩:=st
  exact⟨o,e,fun v z=>by rw[d]at z;cases z⟩
 keep:=fun i h h' st k=>st.at fun o e=>k it (by simp) o e
 item:=by
  intro X hP hw hK hc i pins s σ H E I hf st hg
  subst hP hw hK
  obtain⟨xs,x,hq,hx⟩:=hg
  obtain⟨its,rv,p,hz⟩:=I.list hq
  obtain⟨u,hu,ru⟩:=rv.get hx
  obtain⟨f0,f1,f2,f3,f4,f5⟩:=hf it (by simp)
  refine wpAny_pyNext_list_item st p.isList (x:=u) (by simpa using hu) fun h' st' sb=>?_
  have I1:Inv X pins σ H { s with heap:=h' }:=I.turned (t':=s.toks) (fun b o hb e=>(sb.2 b hb).trans e) f0 f1 f3 f4 f5
  obtain⟨o,e,c,d⟩:=id st'
  exact⟨u,rfl,ki (s:={ s with heap:=h' }) e c d (by decide) ⟨x,H,I1,ru,⟨rfl,fun ys hy=>by rw[I.list_inj hy hq];exact hx⟩,st',fun b hb=>(hf b hb).1⟩⟩
 done:=by
  intro X hP hw hK hc i pins s σ H E I hf st hg
  subst hP hw hK
  obtain⟨xs,hq,hx⟩:=hg
  obtain⟨its,rv,p,hz⟩:=I.list hq
  obtain⟨f0,f1,f2,f3,f4,f5⟩:=hf it (by simp)
  have hl:=rv.length
  exact wpAny_pyNext_list_end (I.ok.hd hc) st p.isList (by simp;omega) fun h' eb=>⟨rfl,I.turned (t':=s.toks) (fun b o hb e=>eb b o hb e) f0 f1 f3 f4 f5⟩
 self:=fun _ _ _ _ _ st h=>wpAny_pyIter_listiter st h
theorem mw{P:Program}{w:World}{K:PySem.W.Frag}{tg:Expr}(a it:Addr):Turn P w K tg (Itt K a) [it] it (fun i h=>h.IsTupleIter it a i) where
 mem:=by simp
 obj:=fun i h st b hb=>by
  have e:b=it:=by simpa using hb
  subst e
  obtain⟨o,e,c,d⟩:=st
  exact⟨o,e,fun v z=>by rw[d]at z;cases z⟩
 keep:=fun i h h' st k=>st.at fun o e=>k it (by simp) o e
 item:=by
  intro X hP hw hK hc i pins s σ H E I hf st hg
  subst hP hw hK
  obtain⟨xs,x,hq,hx⟩:=hg
  obtain⟨its,rv,p,hz⟩:=I.tuple hq
  obtain⟨u,hu,ru⟩:=rv.get hx
  obtain⟨f0,f1,f2,f3,f4,f5⟩:=hf it (by simp)
  refine wpAny_pyNext_tuple_item st (show s.heap.IsTuple a its.toArray from p) (x:=u) (by simpa using hu) fun h' st' sb=>?_
  have I1:Inv X pins σ H { s with heap:=h' }:=I.turned (t':=s.toks) (fun b o hb e=>(sb.2 b hb).trans e) f0 f1 f3 f4 f5
  obtain⟨o,e,c,d⟩:=id st'
  exact⟨u,rfl,ki (s:={ s with heap:=h' }) e c d (by decide) ⟨x,H,I1,ru,⟨rfl,fun ys hy=>by rw[I.tuple_inj hy hq];exact hx⟩,st',fun b hb=>(hf b hb).1⟩⟩
 done:=by
  intro X hP hw hK hc i pins s σ H E I hf st hg
  subst hP hw hK
  obtain⟨xs,hq,hx⟩:=hg
  obtain⟨its,rv,p,hz⟩:=I.tuple hq
  obtain⟨f0,f1,f2,f3,f4,f5⟩:=hf it (by simp)
  have hl:=rv.length
  exact wpAny_pyNext_tuple_end (I.ok.hd hc) st (show s.heap.IsTuple a its.toArray from p) (by simp;omega) fun h' eb=>⟨rfl,I.turned (t':=s.toks) (fun b o hb e=>eb b o hb e) f0 f1 f3 f4 f5⟩
 self:=fun _ _ _ _ _ st h=>wpAny_pyIter_tupleiter st h
theorem mh{P:Program}{w:World}{K:PySem.W.Frag}{tg:Expr}(it:Addr)(lo:Int)(n:Nat):Turn P w K tg (Itr lo n) [it] it (fun i h=>IsRangeIter h it (lo+(i:Nat)*1) ((n:Int) - (i:Nat)) 1) where
 mem:=by simp
 obj:=fun i h st b hb=>by
  have e:b=it:=by simpa using hb
  subst e
  exact⟨_,st,fun v z=>by
   have z':Data.fields _=Data.cell v:=z
   cases z'⟩
 keep:=fun i h h' st k=>k it (by simp) _ st
 item:=by
  intro X hP hw hK hc i pins s σ H E I hf st hg
  subst hP hw hK
  obtain⟨f0,f1,f2,f3,f4,f5⟩:=hf it (by simp)
  have W:=Walks.range (prog:=X.prog) (w:=X.w) (I.ok.hd hc) it lo 1 n
  refine W.item i s _ _ hg st fun v h' tk hv st' kk=>?_
  obtain⟨t,rfl⟩:=hv
  have I1:Inv X pins σ H { s with heap:=h',toks:=tk }:=I.turned (fun b o hb e=>kk b o (by simpa using hb) e) f0 f1 f3 f4 f5
  refine⟨_,rfl,ki (s:={ s with heap:=h',toks:=tk }) (n:="range_iterator") st' rfl rfl (by decide) ⟨.int (lo+i),H,I1,⟨t,?_⟩,⟨rfl,rfl⟩,st',fun b hb=>(hf b hb).1⟩⟩
  rw[Int.mul_one]
 done:=by
  intro X hP hw hK hc i pins s σ H E I hf st hg
  subst hP hw hK
  obtain⟨f0,f1,f2,f3,f4,f5⟩:=hf it (by simp)
  exact wpAny_pyNext_range_end (I.ok.hd hc) st (by have:n≤i:=hg;omega) fun h' eb=>⟨rfl,I.turned (t':=s.toks) (fun b o hb e=>eb b o hb e) f0 f1 f3 f4 f5⟩
 self:=fun _ _ _ _ _ st h=>wpAny_pyIter_rangeiter st h
end L2
namespace L2
open PySem PySem.Spec PyProof.Rows
section
variable {X:Cx}{tg:Expr}
theorem lB{pins:List (Addr×Obj)}{σ:St}{H:Hp}{s:Shared}{R:It->Hp->Prop}{E:Value->Shared->Prop}{lo hi:Int}{t u v:Tok}{tk:Nat}(I:Inv X pins σ H s)(h1:-(2 ^ 62)≤lo)(h2:lo<2 ^ 62)(h3:-(2 ^ 62)≤hi)(h4:hi<2 ^ 62)
  (q:R (Itr lo (hi - lo).toNat) H):wpAny (model X.prog X.w) X.A (pyIter (.ref s.heap.objs.size)) (PIE X pins σ tg R) E { s with heap:=s.heap.push { cls:=.type "range",data:=.fields #[.int lo t,.int hi u,.int 1 v] },toks:=tk }:=by
 refine wpAny_pyIter_range (IsRange.new ..) (small_one h1 h2 h3 h4) ?_
 have I1:Inv X pins σ H { s with heap:=s.heap.push { cls:=.type "range",data:=.fields #[.int lo t,.int hi u,.int 1 v] },toks:=tk }:=I.kept fun b o e=>Heap.get?_push_of_some _ e
 refine⟨(s.heap.push { cls:=.type "range",data:=.fields #[.int lo t,.int hi u,.int 1 v] }).objs.size,[(s.heap.push { cls:=.type "range",data:=.fields #[.int lo t,.int hi u,.int 1 v] }).objs.size],_,_,H,rfl,
  I1.kept (t':=tk) fun b o e=>Heap.get?_push_of_some _ e,mh _ lo (hi - lo).toNat,?_,fun b hb=>?_,q⟩
 ·have e1:lo+((0:Nat):Int)*1=lo:=by simp
  have e2:(((hi - lo).toNat:Nat):Int) - ((0:Nat):Int)=Builtin.Range.rangeSize lo hi 1:=by rw[rangeSize_one];split<;>omega
  show IsRangeIter _ _ (lo+((0:Nat):Int)*1) ((((hi - lo).toNat:Nat):Int) - ((0:Nat):Int)) 1
  rw[e1,e2]
  exact Heap.get?_push_size _ rfl
 ·have e:b=(s.heap.push { cls:=.type "range",data:=.fields #[.int lo t,.int hi u,.int 1 v] }).objs.size:=by simpa using hb
  subst e
  exact I1.fpOk (Nat.le_refl _) (I1.hok.fresh (Nat.le_refl _))
def AQ(ta:TA):TI:=fun σ H R=>ta σ H fun vs H1=>∃j:Int,vs=[.int j]/\-(2 ^ 62)≤j/\j<2 ^ 62/\R (Itr 0 j.toNat) H1
def yZ(ta:TA):TI:=fun σ H R=>ta σ H fun vs H1=>∃i j:Int,vs=[.int i,.int j]/\(-(2 ^ 62)≤i/\i<2 ^ 62/\-(2 ^ 62)≤j/\j<2 ^ 62)/\R (Itr i (j - i).toNat) H1
theorem om{a:Expr}{ta:TA}{p pos:Pos}(hg:Gl X "range")(hm:X.mg "range"=none)(ha:PA X [a] ta)(hs:starEach [a] X.env=[(false,eval a X.env)]:=by rfl):PI X tg (.Call (.Name "range" p) [a] [] pos) (AQ ta):=by
 intro pins s σ H R I h
 refine Call_ (dW I hg hm boot_range (PyProof.Rows.callWith_type1 (thn (ha pos pins s σ H _ I h) fun us s1 ⟨vs,H1,I1,r1,q1⟩=>?_) hs rfl))
 obtain⟨j,e,q1,q2,q⟩:=q1
 subst e
 cases r1 with
 | cons r rr =>
  cases rr
  obtain⟨t,rfl⟩:=r
  exact call_range_1 (lB I1 (by omega) (by omega) q1 q2 (by simpa using q))
theorem o7{a b:Expr}{ta:TA}{p pos:Pos}(hg:Gl X "range")(hm:X.mg "range"=none)(ha:PA X [a,b] ta)(hs:starEach [a,b] X.env=[(false,eval a X.env),(false,eval b X.env)]:=by rfl)(hs2:starEach [b] X.env=[(false,eval b X.env)]:=by rfl) :
  PI X tg (.Call (.Name "range" p) [a,b] [] pos) (yZ ta):=by
 intro pins s σ H R I h
 refine Call_ (dW I hg hm boot_range (PyProof.Rows.callWith_type1 (thn (ha pos pins s σ H _ I h) fun us s1 ⟨vs,H1,I1,r1,q1⟩=>?_) (by rw[hs,hs2]) (by rw[hs2];rfl)))
 obtain⟨i,j,e,⟨q1,q2,q3,q4⟩,q⟩:=q1
 subst e
 cases r1 with
 | cons r rr =>
  cases rr with
  | cons r' rr =>
   cases rr
   obtain⟨t,rfl⟩:=r
   obtain⟨t',rfl⟩:=r'
   exact call_range_2 (lB I1 q1 q2 q3 q4 q)
def CJ(wi:TI)(g:TG)(tb:TS):TS:=fun D σ H=>wi σ H fun J H1=>∃W:Nat->Nat->St->Hp->Prop,(∃m,W 0 m σ H1)/\∀i m σ H,W i m σ H ->
 (J.stop i H/\D.nx σ H)∨(J.go i H/\∃N:St->Hp->Prop,(∀σ' H',N σ' H'->∃m',m'<m/\W (i+1) m' σ' H')/\∀x H',J.yld i H x H'->g x σ H' fun σ2 H2=>tb { D with nx:=N,ct:=N,bk:=D.nx } σ2 H2)
def iB(fp:List Addr)(h:Heap):List (Addr×Obj):=fp.filterMap fun b=>(h.get? b).map fun o=>(b,o)
theorem dC{fp:List Addr}{h:Heap}{b:Addr}{o:Obj}(hb:b∈fp)(e:h.get? b=some o):(b,o)∈iB fp h:=List.mem_filterMap.mpr ⟨b,hb,by rw[e];rfl⟩
theorem oj{fp:List Addr}{h:Heap}{p:Addr×Obj}(hp:p∈iB fp h):p.1∈fp/\h.get? p.1=some p.2:=by
 obtain⟨b,hb,e⟩:=List.mem_filterMap.mp hp
 cases q:h.get? b with
 | none=>rw[q]at e;cases e
 | some o =>
  rw[q]at e
  have e':(b,o)=p:=Option.some.inj e
  subst e'
  exact⟨hb,q⟩
theorem Inv.pinned{pins:List (Addr×Obj)}{σ:St}{H:Hp}{s:Shared}{fp:List Addr}(I:Inv X pins σ H s)(hf:∀b∈fp,fK X pins H b)(ho:∀b∈fp,∃o,s.heap.get? b=some o/\∀v,o.data≠.cell v):Inv X (pins++iB fp s.heap) σ H s :=
 I.pins_of fun p hp=>(List.mem_append.mp hp).elim (fun z=>I.pin p (List.mem_append_right _ z)) fun z=>by
  obtain⟨hb,e⟩:=oj z
  obtain⟨f0,f1,f2,_⟩:=hf p.1 hb
  obtain⟨o,e',d⟩:=ho p.1 hb
  rw[e]at e';cases e'
  exact⟨e,f0,f1,f2,d⟩
theorem Inv.unpinned{pins pl:List (Addr×Obj)}{σ:St}{H:Hp}{s:Shared}(I:Inv X (pins++pl) σ H s):Inv X pins σ H s:=I.pins_of fun p hp=>I.pin p (List.mem_append_right _ (List.mem_append_left _ hp))
theorem rF{iter:Expr}{body:List Stmt}{wi:TI}{g:TG}{tb:TS}{pos:Pos}(hp:PassesOwn (model X.prog X.w) X.A X.env X.xe)(hc:X.calm=true)(hi:PI X tg iter wi)(hg:PG X tg g)(hb:PSs X body tb)
  (hs:∀x,foldedSetIterable iter X.env x=pure x:=by intro _;rfl):PS X (.For tg iter body [] pos) (CJ wi g tb):=by
 intro pins s σ H D I h
 refine wpAny_For (thn (hi pins s σ H _ I h) fun v s1 h1=>thn h1 fun itv s2 h2=>?_) hs
 obtain⟨it,fp,tn,J,H2,e,I2,T,st2,f2,W,⟨m0,w0⟩,turn⟩:=h2
 subst e
 -- what stays true of the iterator's objects through the loop
 have stat:∀{H':Hp},(∀b∈fp,H' b=none)->∀b∈fp,fK X pins H' b:=fun hn b hb=>⟨hn b hb,(f2 b hb).2⟩
 refine codeAny_forLoop_any (fun n s'=>∃i σ' H',Inv X pins σ' H' s'/\tn i s'.heap/\(∀b∈fp,H' b=none)/\W i n σ' H') ?_ m0 ⟨0,σ,H2,I2,st2,fun b hb=>(f2 b hb).1,w0⟩
 rintro n s3 ⟨i,σ3,H3,I3,st3,fr3,w3⟩
 rcases turn i n σ3 H3 w3 with⟨stop,qn⟩ |⟨go,N,hN,step⟩
 ·refine wpAny_passesOwn hp (thn (T.done X rfl rfl rfl hc i pins s3 σ3 H3 X.xe I3 (stat fr3) st3 stop) fun r s4 ⟨hr,I4⟩=>?_)
  subst hr
  exact wpAny_execs_nil ⟨σ3,H3,I4,qn⟩
 ·refine wpAny_passesOwn hp (thn (T.item X rfl rfl rfl hc i pins s3 σ3 H3 X.xe I3 (stat fr3) st3 go) fun r s4 ⟨u,hr,h4⟩=>?_)
  subst hr
  refine wpAny_passesOwn hp (thn h4 fun _ s5 ⟨x,H5,I5,r5,y5,st5,fr5⟩=>?_)
  have I5':=I5.pinned (stat fr5) (T.obj _ _ st5)
  refine wpAny_passesOwn hp (thn (hg _ s5 σ3 H5 x u _ I5' r5 (step x H5 y5)) fun _ s6 ⟨σ6,H6,I6,q6⟩=>?_)
  refine wpAny_passesOwn hp (thn (hb _ s6 σ6 H6 _ I6 q6) fun f s7 q7=>?_)
  have again:∀{σ7:St} {H7:Hp},Inv X (pins++iB fp s5.heap) σ7 H7 s7->N σ7 H7->∃m,m<n/\∃i σ' H',Inv X pins σ' H' s7/\tn i s7.heap/\(∀b∈fp,H' b=none)/\W i m σ' H':=fun {σ7 H7} I7 n7=>by
   obtain⟨m',hm,w7⟩:=hN σ7 H7 n7
   refine⟨m',hm,i+1,σ7,H7,I7.unpinned,T.keep _ _ _ st5 fun b hb o e=>(I7.pin (b,o) (List.mem_append_right _ (List.mem_append_right _ (dC hb e)))).1,fun b hb=>?_,w7⟩
   obtain⟨o,e,d⟩:=T.obj _ _ st5 b hb
   exact(I7.pin (b,o) (List.mem_append_right _ (List.mem_append_right _ (dC hb e)))).2.1
  cases f with
  | next=>obtain⟨σ7,H7,I7,n7⟩:=q7;exact again I7 n7
  | cont=>obtain⟨σ7,H7,I7,n7⟩:=q7;exact again I7 n7
  | brk=>obtain⟨σ7,H7,I7,q7⟩:=q7;exact⟨σ7,H7,I7.unpinned,q7⟩
  | ret v=>obtain⟨x7,σ7,H7,I7,r7,q7⟩:=q7;exact⟨x7,σ7,H7,I7.unpinned,r7,q7⟩
end
theorem dM{c:TT}{tb:TS}{D:Ends}{σ:St}{H:Hp}(Pv:St->Hp->Prop)(μ:St->Hp->Nat)(h0:Pv σ H)
  (hs:∀σ H,Pv σ H->c σ H fun b H1=>if b=true then tb { D with nx:=fun σ' H'=>Pv σ' H'/\μ σ' H'<μ σ H,ct:=fun σ' H'=>Pv σ' H'/\μ σ' H'<μ σ H,bk:=D.nx } σ H1 else D.nx σ H1)
  (mono:∀σ H Q Q',(∀b H1,Q b H1->Q' b H1)->c σ H Q->c σ H Q'):pN c tb D σ H:=by
 refine⟨fun m σ H=>m=μ σ H/\Pv σ H,⟨_,rfl,h0⟩,?_⟩
 rintro m σ H ⟨rfl,p⟩
 refine mono σ H _ _ (fun b H1 q=>?_) (hs σ H p)
 cases b with
 | true=>exact⟨_,fun σ' H' ⟨p',l⟩=>⟨_,l,rfl,p'⟩,q⟩
 | false=>exact q
end L2
namespace L2
open PySem PySem.Spec PyProof.Rows
abbrev R2:=V->V->Hp->VK->Prop
def OpR(X:Cx)(f:Value->Value->Sem Value)(r:R2):Prop :=
 ∀(pins:List (Addr×Obj)) (s:Shared) (σ:St) (H:Hp) (x y:V) (v u:Value) (Q:VK),Inv X pins σ H s->RelV x v->RelV y u->r x y H Q ->
  wpAny (model X.prog X.w) X.A (f v u) (EP X pins σ Q) X.xe s
def UnR(X:Cx)(f:Value->Sem Value)(r:V->Hp->VK->Prop):Prop :=
 ∀(pins:List (Addr×Obj)) (s:Shared) (σ:St) (H:Hp) (x:V) (v:Value) (Q:VK),Inv X pins σ H s->RelV x v->r x H Q ->
  wpAny (model X.prog X.w) X.A (f v) (EP X pins σ Q) X.xe s
def cb(X:Cx)(f:Value)(r:List V->Hp->VK->Prop):Prop :=
 ∀(pins:List (Addr×Obj)) (s:Shared) (σ:St) (H:Hp) (xs:List V) (us:List Value) (Q:VK),Inv X pins σ H s->Vals xs us->r xs H Q ->
  wpAny (model X.prog X.w) X.A (call f us) (EP X pins σ Q) X.xe s
def tOp(r:R2)(ta tb:TE):TE:=fun σ H Q=>ta σ H fun x H1=>tb σ H1 fun y H2=>r x y H2 Q
def tUn(r:V->Hp->VK->Prop)(ta:TE):TE:=fun σ H Q=>ta σ H fun x H1=>r x H1 Q
def rI(C:Int->Int->Prop)(g:Int->Int->V):R2:=fun x y H Q=>∃i j,x=.int i/\y=.int j/\C i j/\Q (g i j) H
def rI0(g:Int->Int->V):R2:=fun x y H Q=>∃i j,x=.int i/\y=.int j/\Q (g i j) H
def rU(g:Int->V):V->Hp->VK->Prop:=fun x H Q=>∃i,x=.int i/\Q (g i) H
section
variable {X:Cx}{a b c:Expr}{ta tb tc:TE}{pos:Pos}
theorem xP(ha:PE X a ta)(hb:PE X b tb){pins:List (Addr×Obj)}{s:Shared}{σ:St}{H:Hp}{R:V->V->Hp->Prop}(I:Inv X pins σ H s)
  (h:ta σ H fun x H1=>tb σ H1 fun y H2=>R x y H2) {Q:Value->Shared->Prop} {f:Value->Value->Sem Value}
  (hf:∀v u s2 x y H2,Inv X pins σ H2 s2->RelV x v->RelV y u->R x y H2->wpAny (model X.prog X.w) X.A (f v u) Q X.xe s2) :
  wpAny (model X.prog X.w) X.A (eval a X.env) (fun v s₁=>wpAny (model X.prog X.w) X.A (eval b X.env) (fun u s₂=>wpAny (model X.prog X.w) X.A (f v u) Q X.xe s₂) X.xe s₁) X.xe s:=by
 refine thn (ha pins s σ H _ I h) fun v s1 ⟨x,H1,I1,r1,q1⟩=>?_
 refine thn (hb pins s1 σ H1 _ I1 q1) fun u s2 ⟨y,H2,I2,r2,q2⟩=>?_
 exact hf v u s2 x y H2 I2 r1 r2 q2
theorem zJ{op:Operator}{r:R2}(ho:OpR X (binaryOp op) r)(ha:PE X a ta)(hb:PE X b tb):PE X (.BinOp a op b pos) (tOp r ta tb):=by
 intro pins s σ H Q I h
 exact wpAny_BinOp (xP ha hb I h fun v u s2 x y H2 I2 rx ry q=>ho pins s2 σ H2 x y v u Q I2 rx ry q)
theorem Ab{op:UnaryOp}{r:V->Hp->VK->Prop}(ho:UnR X (unaryOp op) r)(ha:PE X a ta):PE X (.UnaryOp op a pos) (tUn r ta):=by
 intro pins s σ H Q I h
 exact UnaryOp_ (thn (ha pins s σ H _ I h) fun v s1 ⟨x,H1,I1,r1,q1⟩=>ho pins s1 σ H1 x v Q I1 r1 q1)
theorem opI{f:Value->Value->Sem Value}{C:Int->Int->Prop}{g:Int->Int->Int}
  (rule:∀(i j:Int) (t u:Tok) (s:Shared) (Q:Value->Shared->Prop) (E:Value->Shared->Prop),C i j->Q (.int (g i j) s.toks) { s with toks:=s.toks+1 }->wpAny (model X.prog X.w) X.A (f (.int i t) (.int j u)) Q E s) :
  OpR X f (rI C fun i j=>.int (g i j)):=by
 intro pins s σ H x y v u Q I rx ry h
 obtain⟨i,j,rfl,rfl,hc,q⟩:=h
 obtain⟨t,rfl⟩:=rx
 obtain⟨t',rfl⟩:=ry
 exact rule i j t t' s _ _ hc ⟨.int (g i j),H,I.tok _,⟨_,rfl⟩,q⟩
theorem vZ{f:Value->Value->Sem Value}{g:Int->Int->Int}
  (rule:∀(i j:Int) (t u:Tok) (s:Shared) (Q:Value->Shared->Prop) (E:Value->Shared->Prop),Q (.int (g i j) s.toks) { s with toks:=s.toks+1 }->wpAny (model X.prog X.w) X.A (f (.int i t) (.int j u)) Q E s) :
  OpR X f (rI0 fun i j=>.int (g i j)):=by
 intro pins s σ H x y v u Q I rx ry h
 obtain⟨i,j,rfl,rfl,q⟩:=h
 obtain⟨t,rfl⟩:=rx
 obtain⟨t',rfl⟩:=ry
 exact rule i j t t' s _ _ ⟨.int (g i j),H,I.tok _,⟨_,rfl⟩,q⟩
theorem ua{f:Value->Value->Sem Value}{g:Int->Int->Bool}
  (rule:∀(i j:Int) (t u:Tok) (s:Shared) (Q:Value->Shared->Prop) (E:Value->Shared->Prop),Q (.bool (g i j)) s->wpAny (model X.prog X.w) X.A (f (.int i t) (.int j u)) Q E s) :
  OpR X f (rI0 fun i j=>.bl (g i j)):=by
 intro pins s σ H x y v u Q I rx ry h
 obtain⟨i,j,rfl,rfl,q⟩:=h
 obtain⟨t,rfl⟩:=rx
 obtain⟨t',rfl⟩:=ry
 exact rule i j t t' s _ _ ⟨.bl (g i j),H,I,rfl,q⟩
def xS(i j:Int):Prop:=(-(2 ^ 64)<i/\i<2 ^ 64)∨(-(2 ^ 64)<j/\j<2 ^ 64)
theorem xS.ok{i j:Int}(h:xS i j):IntMulOk i j:=by
 rcases h with⟨h1,h2⟩ |⟨h1,h2⟩
 ·exact .of_left (intBits_le_64 h1 h2)
 ·exact .of_right (intBits_le_64 h1 h2)
theorem lY(k:Nat):(0:Int)≤2 ^ k:=by
 rw[two_pow_cast]
 exact Int.natCast_nonneg _
theorem xR:OpR X (binaryOp .Add) (rI0 fun i j=>.int (i+j)):=vZ fun _ _ _ _ _ _ _ q=>add_int q
theorem xa:OpR X (binaryOp .Sub) (rI0 fun i j=>.int (i - j)):=vZ fun _ _ _ _ _ _ _ q=>sub_int q
theorem ur:OpR X (binaryOp .Mod) (rI (fun _ j=>j≠0) fun i j=>.int (i.fmod j)):=opI fun _ _ _ _ _ _ _ hc q=>mod_int' hc q
theorem xq:OpR X (binaryOp .RShift) (rI (fun _ j=>0≤j) fun i j=>.int (i / 2 ^ j.toNat)):=opI fun i j _ _ _ _ _ hc q =>
 rshift_int hc (by rw[Int.fdiv_eq_ediv_of_nonneg i (lY _)];exact q)
theorem wm:OpR X (binaryOp .BitAnd) (rI0 fun i j=>.int (Builtin.bitAnd i j)):=vZ fun _ _ _ _ _ _ _ q=>and_int q
theorem unI{f:Value->Sem Value}{g:Int->Int}
  (rule:∀(i:Int) (t:Tok) (s:Shared) (Q:Value->Shared->Prop) (E:Value->Shared->Prop),Q (.int (g i) s.toks) { s with toks:=s.toks+1 }->wpAny (model X.prog X.w) X.A (f (.int i t)) Q E s) :
  UnR X f (rU fun i=>.int (g i)):=by
 intro pins s σ H x v Q I rx h
 obtain⟨i,rfl,q⟩:=h
 obtain⟨t,rfl⟩:=rx
 exact rule i t s _ _ ⟨.int (g i),H,I.tok _,⟨_,rfl⟩,q⟩
theorem wX:UnR X (unaryOp .USub) (rU fun i=>.int (-i)):=unI fun _ _ _ _ _ q=>neg_int q
end
section
variable {X:Cx}{a b c:Expr}{ta tb tc:TE}{pos:Pos}
theorem fg:OpR X (compareOp .Lt) (rI0 fun i j=>.bl (decide (i<j))):=ua fun _ _ _ _ _ _ _ q=>lt_int q
theorem vB:OpR X (compareOp .LtE) (rI0 fun i j=>.bl (decide (i≤j))):=ua fun _ _ _ _ _ _ _ q=>le_int q
theorem gF:OpR X (compareOp .Gt) (rI0 fun i j=>.bl (decide (j<i))):=ua fun _ _ _ _ _ _ _ q=>gt_int q
theorem m9:OpR X (compareOp .GtE) (rI0 fun i j=>.bl (decide (j≤i))):=ua fun _ _ _ _ _ _ _ q=>ge_int q
theorem aI(b:Expr){op:CmpOp}(h:op≠.In:=by decide)(h2:op≠.NotIn:=by decide):behindInMarks op b=false:=by
 have e1:(op==CmpOp.In)=false:=by cases op<;>first | rfl | exact absurd rfl h
 have e2:(op==CmpOp.NotIn)=false:=by cases op<;>first | rfl | exact absurd rfl h2
 cases b<;>simp[behindInMarks,e1,e2]
theorem sx{op:CmpOp}{r:R2}(ho:OpR X (compareOp op) r)(ha:PE X a ta)(hb:PE X b tb)(hm:behindInMarks op b=false):PE X (.Compare a [op] [b] pos) (tOp r ta tb):=by
 intro pins s σ H Q I h
 exact wpAny_Compare1 (xP ha hb I h fun v u s2 x y H2 I2 rx ry q=>ho pins s2 σ H2 x y v u Q I2 rx ry q) hm
def vT(t:TE):TT:=fun σ H Q=>t σ H fun x H'=>∃k,x=.bl k/\Q k H'
theorem sL{op:CmpOp}{r:R2}(ho:OpR X (compareOp op) r)(ha:PE X a ta)(hb:PE X b tb)(hm:behindInMarks op b=false):PT X (.Compare a [op] [b] pos) (vT (tOp r ta tb)):=by
 intro pins s σ H Q I h
 refine wpAny_isTrue_Compare1 (thn (ha pins s σ H _ I h) fun v s1 ⟨x,H1,I1,r1,q1⟩=>thn (hb pins s1 σ H1 _ I1 q1) fun u s2 ⟨y,H2,I2,r2,q2⟩ =>
  thn (ho pins s2 σ H2 x y v u _ I2 r1 r2 q2) fun c s3 ⟨z,H3,I3,r3,k,e,q3⟩=>?_) hm
 subst e
 cases r3
 exact wpAny_truthy_bool ⟨H3,I3,q3⟩
theorem jR:(sizeLine:Nat)<2 ^ 63:=by rw[sizeLine_eq];decide
theorem vals1{x:V}{us:List Value}(r:Vals [x] us):∃u,us=[u]/\RelV x u:=by
 cases r with
 | cons r1 r2=>cases r2;exact⟨_,rfl,r1⟩
theorem vals2{x y:V}{us:List Value}(r:Vals [x,y] us):∃u w',us=[u,w']/\RelV x u/\RelV y w':=by
 cases r with
 | cons r1 r2 =>
  cases r2 with
  | cons r3 r4=>cases r4;exact⟨_,_,rfl,r1,r3⟩
theorem oe(hc:X.calm=true):cb X (.builtin "max") (fun xs H Q=>∃i j,xs=[.int i,.int j]/\Q (.int (if j>i then j else i)) H):=by
 intro pins s σ H xs us Q I r h
 obtain⟨i,j,rfl,q⟩:=h
 obtain⟨u,w',rfl,⟨t,rfl⟩,⟨t',rfl⟩⟩:=vals2 r
 refine max_two_ints (I.ok.hd hc) fun h' tk k=>⟨_,H,I.kept k,?_,q⟩
 by_cases hj:j>i
 ·rw[if_pos hj,if_pos hj];exact⟨_,rfl⟩
 ·rw[if_neg hj,if_neg hj];exact⟨_,rfl⟩
theorem oC(hc:X.calm=true):cb X (.builtin "min") (fun xs H Q=>∃i j,xs=[.int i,.int j]/\Q (.int (if j<i then j else i)) H):=by
 intro pins s σ H xs us Q I r h
 obtain⟨i,j,rfl,q⟩:=h
 obtain⟨u,w',rfl,⟨t,rfl⟩,⟨t',rfl⟩⟩:=vals2 r
 refine min_two_ints (I.ok.hd hc) fun h' tk k=>⟨_,H,I.kept k,?_,q⟩
 by_cases hj:j<i
 ·rw[if_pos hj,if_pos hj];exact⟨_,rfl⟩
 ·rw[if_neg hj,if_neg hj];exact⟨_,rfl⟩
end
end L2
namespace L2
open PySem PySem.Spec PyProof.Rows
structure lT (h:Heap) (x dx C:Addr) (mA:Str→Option Value):Prop where
 obj:h.get? x=some (PySem.W.instObj C dx)
 ns:h.Ns1 dx mA
 ne:dx≠x
theorem oA{h:Heap}{dx:Addr}{mA:Str->Option Value}(n:h.Ns1 dx mA):∃od,h.get? dx=some od/\∀name,PySem.W.lookIn name od=some (mA name):=by
 obtain⟨o,es,ep,ho,hd,hk,_,hm⟩:=n
 refine⟨o,ho,fun name=>?_⟩
 have e:=hm name
 unfold nsFind findBy at e
 rw[←Array.find?_toList]at e
 unfold PySem.W.lookIn
 rw[hd]
 dsimp only
 split
 ·rename_i y q
  rw[q]at e
  exact congrArg some e
 ·rename_i q
  rw[q]at e
  have a:es.toList.any (·.refKey)=false:=by
   rw[List.any_eq_false]
   intro y hy
   obtain⟨z,t,hkey⟩:=hk y (Array.mem_toList_iff.mp hy)
   simp[DictEntry.refKey,hkey]
  have a':¬es.toList.any (·.refKey)=true:=by rw[a];exact Bool.false_ne_true
  rw[if_neg a']
  exact congrArg some e
theorem lT.look{h:Heap}{x dx C:Addr}{mA:Str->Option Value}(I:lT h x dx C mA):∃od,PySem.W.InstAt h x (PySem.W.instObj C dx) C (some od)/\∀name,PySem.W.lookIn name od=some (mA name) :=
 let ⟨od,ho,hl⟩:=oA I.ns
 ⟨od,⟨I.obj,rfl,rfl,ho⟩,hl⟩
section
variable {prog:Program}{w:World}{A:Around}{E:Value->Shared->Prop}{s:Shared}{K:PySem.W.Frag}{x dx C f:Addr}{mA:Str->Option Value}{name:Str}{v:Value}
theorem get_map{expr:Bool}{Q:Value->Shared->Prop}(X:K.In s.heap)(I:lT s.heap x dx C mA)(hg:PySem.W.plainGet K C name=true)(hh:PySem.W.hasDictIn K C=true)
  (ha:PySem.W.findIn K (.ref C) name=some none) (hv:mA name=some v) (hv':PySem.W.handedIn v=true) (h:Q v { s with toks:=s.toks+1 }) :
  wpAny (model prog w) A (getAttr (.ref x) name expr) Q E s:=by
 obtain⟨od,J,hl⟩:=I.look
 exact PySem.W.get_value X J (PySem.W.plainGet_of hg).1 (PySem.W.findObj_own hh ha rfl (by rw[hl,hv])) hv' h
theorem rg{pl:Sem Bool}{Q:Value×List Value->Shared->Prop}(X:K.In s.heap)(I:lT s.heap x dx C mA)(hg:PySem.W.plainGet K C name=true)
  (hf:PySem.W.findIn K (.ref C) name=some (some (.ref f))) (ht:PySem.W.isFn K (.ref f)=true) (hv:mA name=none) (h:Q (.ref f,[.ref x]) s) :
  wpAny (model prog w) A (getMethod (.ref x) name pl) Q E s:=by
 obtain⟨od,J,hl⟩:=I.look
 exact PySem.W.method_fn X J (PySem.W.plainGet_of hg).1 (PySem.W.plainGet_of hg).2 hf (beq_iff_eq.mp ht) (by show(PySem.W.lookIn name od).map (·.isSome)=some false;rw[hl,hv];rfl) h
theorem tG{ns:List Str}{Q:Unit->Shared->Prop}(X:K.In s.heap)(I:lT s.heap x dx C mA)
  (hs:PySem.W.findIn K (.ref C) "__setattr__"=some (some (.builtin "object.__setattr__"))) (hp:PySem.W.plainOver K C=true) (ht:PySem.W.takerIn K C name=some none) (hh:PySem.W.hasDictIn K C=true)
  (hw:PySem.Within mA ns) (hsz:ns.length≤sizeLine)
  (h:∀h',lT h' x dx C (fun y=>if y=name then some v else mA y)->Heap.SameBut dx s.heap h'->Q () { s with heap:=h',toks:=s.toks+2 }) :
  wpAny (model prog w) A (setAttr (.ref x) name v) Q E s:=by
 obtain⟨od,J,hl⟩:=I.look
 refine PySem.W.set_plain X J hs (PySem.W.osa_open (s:={ s with toks:=s.toks+1 }) (r:=none) X J hp ht fun b=>?_)
 obtain⟨cd,hc,hd'⟩:=PySem.W.any_some hh
 have hx:s.heap.get? x=some ⟨.ref C,some dx,.plain,#[]⟩:=I.obj
 refine wpAny_bind (wpAny_pure (wpAny_bind (wpAny_bind (wpAny_loadPart hx (wpAny_bind (PySem.W.Looks.here (s:={ s with toks:=s.toks+1 }) (PySem.W.looks_clsIn X hc) ?_))))))
 rw[hd']
 refine wpAny_pure (a:=some dx) (wpAny_bind (wpAny_pure (wpAny_bind ?_)))
 refine wpAny_nsSet1 (s:={ s with toks:=s.toks+1 }) I.ns fun h' hn2 hs2=>?_
 obtain⟨oD,esD,epD,hoD,hdD,hcD⟩:=hn2.count (PySem.Within.cons name v hw)
 refine wpAny_bind (wpAny_lookBehind hoD (by rw[hdD];exact pastItsLine_dict (Nat.le_trans hcD (by rw[List.length_cons];omega))) ?_)
 exact wpAny_pure (h _ ⟨(hs2.2 _ (Ne.symm I.ne)).trans I.obj,hn2,I.ne⟩ hs2)
theorem qu{R:Result->Shared->Prop}{vs:List Value}{kw:List (Str×Value)}(X:K.In s.heap)(hm:PySem.W.makesIn K C=true)
  (hi:PySem.W.findIn K (.ref C) "__init__"=some (some (.ref f))) (hf:PySem.W.typeIn K (.ref f)=some (.type "function"))
  (h:codeAny (model prog w) (A.under (.builtin "type.__call__" ⟨.ref C::vs,kw⟩)) (.call (.ref f) ⟨.ref (s.heap.objs.size+1)::vs,kw⟩) (PySem.W.InitBack (s.heap.objs.size+1) R)
   { s with heap:=(s.heap.push PySem.W.emptyDict).push (PySem.W.instObj C s.heap.objs.size) }) :
  codeAny (model prog w) A (.call (.ref C) ⟨vs,kw⟩) R s:=by
 obtain⟨hh,g,d,t,os⟩:=s
 exact PySem.W.make_core (PySem.W.makes_of X hm) (PySem.W.looks_findIn X hi) (fun self=>PySem.W.bind_fn X self hf) (.inl rfl) h
end
def dq(f:Str)(v:V):List (Str×V)->List (Str×V)
 | []=>[(f,v)]
 |(g,x)::r=>if g=f then(g,v)::r else(g,x)::dq f v r
theorem gD(f g:Str)(v:V):∀fs:List (Str×V),(dq f v fs).lookup g=if g=f then some v else fs.lookup g
 | []=>by
  show List.lookup g [(f,v)]=_
  by_cases h:g=f
  ·have hb:(g==f)=true:=beq_iff_eq.mpr h
   simp only[List.lookup,hb,if_pos h]
  ·have hb:(g==f)=false:=beq_eq_false_iff_ne.mpr h
   simp only[List.lookup,hb,if_neg h]
 |(k,x)::r=>by
  have ih:=gD f g v r
  rw[show dq f v ((k,x)::r)=(if k=f then(k,v)::r else(k,x)::dq f v r)from rfl]
  by_cases hk:k=f
  ·rw[if_pos hk]
   by_cases h:g=k
   ·have hb:(g==k)=true:=beq_iff_eq.mpr h
    simp only[List.lookup,hb,if_pos (h.trans hk)]
   ·have hb:(g==k)=false:=beq_eq_false_iff_ne.mpr h
    simp only[List.lookup,hb,if_neg (fun e:g=f=>h (e.trans hk.symm))]
  ·rw[if_neg hk]
   by_cases h:g=k
   ·have hb:(g==k)=true:=beq_iff_eq.mpr h
    simp only[List.lookup,hb,if_neg (fun e:g=f=>hk (h.symm.trans e))]
   ·have hb:(g==k)=false:=beq_eq_false_iff_ne.mpr h
    simp only[List.lookup,hb]
    exact ih
theorem fZ(f:Str)(v:V):∀fs:List (Str×V),f∈(dq f v fs).map (·.1)/\∀g,g∈fs.map (·.1)->g∈(dq f v fs).map (·.1)
 | []=>⟨by simp[dq],fun g h=>by simp at h⟩
 |(k,x)::r=>by
  obtain⟨i1,i2⟩:=fZ f v r
  rw[show dq f v ((k,x)::r)=(if k=f then(k,v)::r else(k,x)::dq f v r)from rfl]
  by_cases hk:k=f
  ·rw[if_pos hk]
   subst hk
   exact⟨by simp,fun g h=>by simpa using h⟩
  ·rw[if_neg hk]
   refine⟨?_,fun g h=>?_⟩
   ·rw[List.map_cons]
    exact List.mem_cons_of_mem _ i1
   ·rw[List.map_cons]at h ⊢
    rcases List.mem_cons.mp h with e | e
    ·exact List.mem_cons.mpr (.inl e)
    ·exact List.mem_cons_of_mem _ (i2 g e)
theorem gx(f:Str)(v:V):∀fs:List (Str×V),(dq f v fs).length≤fs.length+1
 | []=>by simp[dq]
 |(k,x)::r=>by
  have ih:=gx f v r
  rw[show dq f v ((k,x)::r)=(if k=f then(k,v)::r else(k,x)::dq f v r)from rfl]
  by_cases hk:k=f
  ·rw[if_pos hk,List.length_cons,List.length_cons];omega
  ·rw[if_neg hk,List.length_cons,List.length_cons];omega
theorem iT.some_of{v:V}{o:Option Value}(r:iT (some v) o):∃u,o=some u/\RelV v u:=by
 cases o with
 | none=>exact(show False from r).elim
 | some u=>exact⟨u,rfl,r⟩
theorem iT.none_of{o:Option Value}(r:iT none o):o=none:=by
 cases o with
 | none=>rfl
 | some u=>exact(show False from r).elim
theorem oF{v:V}{u:Value}(r:RelV v u):PySem.W.handedIn u=true:=by
 cases v with
 | non=>cases (show u=Value.none from r);rfl
 | bl b=>cases (show u=Value.bool b from r);rfl
 | int i=>obtain⟨t,e⟩:=(show ∃t,u=Value.int i t from r);cases e;rfl
 | str x=>obtain⟨t,e⟩:=(show ∃t,u=Value.str x t from r);cases e;rfl
 | byt b=>obtain⟨t,e⟩:=(show ∃t,u=Value.bytes b t from r);cases e;rfl
 | flt b=>obtain⟨t,e⟩:=(show ∃t,u=Value.float b t from r);cases e;rfl
 | ref a=>cases (show u=Value.ref a from r);rfl
 | ty n=>cases (show u=Value.type n from r);rfl
section
variable {P:Program}{w:World}{H H':Hp}{h h':Heap}{a C dx:Addr}{fs fs':List (Str×V)}
theorem gP(hok:HOk P w H h)(e:H a=some (.ins C dx fs)):∃mA,lT h a dx C mA/\(∀f,iT (fs.lookup f) (mA f))/\PySem.Within mA (fs.map (·.1))/\fs.length≤1000/\H dx=some (.own a):=by
 obtain⟨d,z,ne,ob,mA,n,r,q⟩:=(show bQ P w H h a (.ins C dx fs)from hok a _ e)
 exact⟨mA,⟨ob,n,ne⟩,r,q,z,d⟩
end
structure Cls (K:PySem.W.Frag) (C:Addr):Prop where
 pg:PySem.W.plainGet K C Str.empty=true
 hd:PySem.W.hasDictIn K C=true
 po:PySem.W.plainOver K C=true
 sa:PySem.W.findIn K (.ref C) "__setattr__"=some (some (.builtin "object.__setattr__"))
theorem Cls.get{K:PySem.W.Frag}{C:Addr}(c:Cls K C)(f:Str):PySem.W.plainGet K C f=true:=c.pg
def cR(K:PySem.W.Frag)(C:Addr)(f:Str):Prop:=PySem.W.findIn K (.ref C) f=some none
theorem cR.taker{K:PySem.W.Frag}{C:Addr}{f:Str}(n:cR K C f):PySem.W.takerIn K C f=some none:=by
 unfold PySem.W.takerIn
 rw[show PySem.W.findIn K (.ref C) f=some none from n]
 rfl
structure Meth (K:PySem.W.Frag) (C:Addr) (m:Str) (f:Addr):Prop where
 at_:PySem.W.findIn K (.ref C) m=some (some (.ref f))
 fn:PySem.W.isFn K (.ref f)=true
 kp:PySem.W.keepIn K (.ref f)=true
section
variable {X:Cx}{pins:List (Addr×Obj)}{σ:St}{H:Hp}{s:Shared}{a C dx:Addr}{fs:List (Str×V)}{f:Str}{v:V}{A:Around}{E:Value->Shared->Prop}
theorem mf{b:Bool}{Q:Value->Shared->Prop}(I:Inv X pins σ H s)(e:H a=some (.ins C dx fs))(c:Cls X.K C)(n:cR X.K C f)(l:fs.lookup f=some v)
  (h:∀u s',Inv X pins σ H s'->RelV v u->Q u s'):wpAny (model X.prog X.w) A (getAttr (.ref a) f b) Q E s:=by
 obtain⟨mA,O,r,_,_,_⟩:=gP I.hok e
 obtain⟨u,hu,ru⟩:=iT.some_of (v:=v) (o:=mA f) (by rw[←l];exact r f)
 exact get_map I.kIn O (c.get f) c.hd n hu (oF ru) (h u _ (I.tok _) ru)
theorem ib{m:Str}{g:Addr}{pl:Sem Bool}{Q:Value×List Value->Shared->Prop}(I:Inv X pins σ H s)(e:H a=some (.ins C dx fs))(c:Cls X.K C)(k:Meth X.K C m g)(l:fs.lookup m=none)
  (h:Q (.ref g,[.ref a]) s):wpAny (model X.prog X.w) A (getMethod (.ref a) m pl) Q E s:=by
 obtain⟨mA,O,r,_,_,_⟩:=gP I.hok e
 have hn:mA m=none:=iT.none_of (by rw[←l];exact r m)
 exact rg I.kIn O (c.get m) k.at_ k.fn hn h
theorem l8{y:V}{u:Value}{Q:Unit->Shared->Prop}(I:Inv X pins σ H s)(e:H a=some (.ins C dx fs))(c:Cls X.K C)(n:cR X.K C f)(hl:fs.length<1000)(ry:RelV y u)
  (h:∀s',Inv X pins σ (upd H a (.ins C dx (dq f y fs))) s'->Q () s'):wpAny (model X.prog X.w) A (setAttr (.ref a) f u) Q E s:=by
 obtain⟨mA,O,r,wi,_,ho⟩:=gP I.hok e
 have hz:(fs.map (·.1)).length≤sizeLine:=by rw[List.length_map,sizeLine_eq];omega
 refine tG I.kIn O c.sa c.po n.taker c.hd wi hz fun h' O' sb=>h _ ?_
 have hd:∃o,h'.get? dx=some o:=let ⟨o,_,_,e',_⟩:=O'.ns;⟨o,e'⟩
 refine I.write (x:=a) (e:=dx) (by rw[e];exact True.intro) (.inr ho) (fun b q hb z=>(sb.2 b hb).trans z) hd ?_
 refine⟨by rw[aV O.ne];exact ho,?_,O.ne,O'.obj,_,O'.ns,fun g=>?_,fun g hg=>?_⟩
 ·have:=gx f y fs;omega
 ·show iT ((dq f y fs).lookup g) (if g=f then some u else mA g)
  rw[gD]
  by_cases q:g=f
  ·rw[if_pos q,if_pos q];exact ry
  ·rw[if_neg q,if_neg q];exact r g
 ·by_cases q:g=f
  ·rw[q];exact(fZ f y fs).1
  ·refine(fZ f y fs).2 g (wi g fun z=>hg ?_)
   show(if g=f then some u else mA g)=none
   rw[if_neg q];exact z
theorem Inv.made(I:Inv X pins σ H s):Inv X pins σ (upd (upd H s.heap.objs.size (.own (s.heap.objs.size+1))) (s.heap.objs.size+1) (.ins C s.heap.objs.size []))
  { s with heap:=(s.heap.push PySem.W.emptyDict).push (PySem.W.instObj C s.heap.objs.size) }:=by
 have e1:(s.heap.push PySem.W.emptyDict).get? s.heap.objs.size=some PySem.W.emptyDict:=Heap.get?_push_size s.heap rfl
 have e2:((s.heap.push PySem.W.emptyDict).push (PySem.W.instObj C s.heap.objs.size)).get? (s.heap.objs.size+1)=some (PySem.W.instObj C s.heap.objs.size):=by
  have:=Heap.get?_push_size (s.heap.push PySem.W.emptyDict) (o:=PySem.W.instObj C s.heap.objs.size) rfl
  rwa [Heap.size_push]at this
 have e3:(s.heap.push PySem.W.emptyDict).Ns s.heap.objs.size (fun _=>none):=⟨PySem.W.emptyDict,#[],_,e1,rfl,(fun e he=>absurd he (by simp)),fun _=>rfl⟩
 have I1:=I.laid (a:=s.heap.objs.size) (o:=.own (s.heap.objs.size+1)) (h':=s.heap.push PySem.W.emptyDict) (t':=s.toks) (fun b u q=>Heap.get?_push_of_some _ q) (Nat.le_refl _) ⟨_,e1⟩
 refine I1.laid (a:=s.heap.objs.size+1) (o:=.ins C s.heap.objs.size []) (t':=s.toks) (fun b u q=>Heap.get?_push_of_some _ q) (Nat.le_of_eq (Heap.size_push _ _)) ?_
 have ne:s.heap.objs.size≠s.heap.objs.size+1:=Nat.ne_of_lt (Nat.lt_succ_self _)
 refine⟨by rw[aV ne,bB],Nat.zero_le _,ne,e2,fun _=>none,(Heap.Ns1.of_empty e3).at fun o q=>Heap.get?_push_of_some _ q,fun _=>True.intro,fun y hy=>absurd rfl hy⟩
theorem sE{prog:Program}{w:World}{env:Env}{e:Expr}{f:Str}{pos:Pos}{s:Shared}{Q:Value->Shared->Prop}(hb:attributeBase e f env (eval e env)=eval e env)
  (h:wpAny (model prog w) A (eval e env) (fun o s₁=>wpAny (model prog w) A (getAttr o f true) Q E s₁) E s):wpAny (model prog w) A (eval (.Attribute e f pos) env) Q E s :=
 Attribute_any_ h (by rw[arm_eval_Attribute,hb])
end
def CV(K:PySem.W.Frag)(ta:TE)(f:Str):TE:=fun σ H Q=>ta σ H fun x H1=>∃a C dx fs v,x=.ref a/\H1 a=some (.ins C dx fs)/\Cls K C/\cR K C f/\fs.lookup f=some v/\Q v H1
def Cp(K:PySem.W.Frag)(ta tv:TE)(f:Str):TS:=fun D σ H=>tv σ H fun y H1=>ta σ H1 fun x H2=>∃a C dx fs,x=.ref a/\H2 a=some (.ins C dx fs)/\Cls K C/\cR K C f/\fs.length<1000 /\
 D.nx σ (upd H2 a (.ins C dx (dq f y fs)))
section
variable {X:Cx}{o e value:Expr}{f:Str}{pos pos' tpos:Pos}{ta tv:TE}
theorem wY(he:PE X e ta)(hb:attributeBase e f X.env (eval e X.env)=eval e X.env):PE X (.Attribute e f pos) (CV X.K ta f):=by
 intro pins s σ H Q I h
 refine sE hb (thn (he pins s σ H _ I h) fun u s1 ⟨x,H1,I1,rx,a,C,dx,fs,v,ex,ea,c,n,l,q⟩=>?_)
 subst ex
 obtain rfl:u=Value.ref a:=rx
 exact mf I1 ea c n l fun u' s2 I2 ru=>⟨v,H1,I2,ru,q⟩
theorem xh(ha:PE X o ta)(hv:PE X value tv)(hs:swapsWith value (some (.Attribute o f pos')) pos.line X.env=pure false):PS X (.Assign [.Attribute o f pos'] value pos) (Cp X.K ta tv f):=by
 intro pins s σ H D I h
 refine plainObj_wpAny_Assign_Attribute (thn (hv pins s σ H _ I h) fun u s1 ⟨y,H1,I1,ry,q⟩=>thn (ha pins s1 σ H1 _ I1 q) fun ov s2 ⟨x,H2,I2,rx,a,C,dx,fs,ex,ea,c,n,l,q2⟩=>?_) hs
 subst ex
 obtain rfl:ov=Value.ref a:=rx
 exact l8 I2 ea c n l ry fun s3 I3=>⟨σ,_,I3,q2⟩
theorem vR{pl:Sem Bool}{m:Str}{apos:Pos}{args:List Expr}{pins:List (Addr×Obj)}{s:Shared}{σ:St}{H:Hp}{Q:Value->Shared->Prop}{te:TE}(he:PE X e te)(I:Inv X pins σ H s)
  (h:te σ H fun x H1=>∃a C dx fs g,x=.ref a/\H1 a=some (.ins C dx fs)/\Cls X.K C/\Meth X.K C m g/\fs.lookup m=none /\
   ∀s1,Inv X pins σ H1 s1->wpAny (model X.prog X.w) X.A (callWith pos (.ref g) [.ref a] (backTo pos (starEach args X.env)) (backToKw pos (keywordEach [] X.env))) Q X.xe s1)
  (ht:eval (.Call (.Attribute e m apos) args [] pos) X.env=(do
   let ov←eval e X.env
   standAt apos.atName
   let (f,first)←holding [ov] (getMethod ov m pl)
   callWith pos f first (backTo pos (starEach args X.env)) (backToKw pos (keywordEach [] X.env)))) :
  wpAny (model X.prog X.w) X.A (eval (.Call (.Attribute e m apos) args [] pos) X.env) Q X.xe s:=by
 refine PySem.W.methodCall_KW (pl:=pl) (thn (he pins s σ H _ I h) fun u s1 ⟨x,H1,I1,rx,a,C,dx,fs,g,ex,ea,c,k,l,q⟩=>?_) ht
 subst ex
 obtain rfl:u=Value.ref a:=rx
 exact ib I1 ea c k l (q s1 I1)
end
section
variable {X:Cx}{pins:List (Addr×Obj)}{σ:St}{H:Hp}{s:Shared}{A:Around}{E:Value->Shared->Prop}{Q:Value->Shared->Prop}{c:Value}{b:Bool}
inductive gJ (K:PySem.W.Frag) (H:Hp):V→Value→Prop where
 | non:gJ K H .non (.type "NoneType")
 | bl (x:Bool):gJ K H (.bl x) (.type "bool")
 | int (i:Int):gJ K H (.int i) (.type "int")
 | str (x:Str):gJ K H (.str x) (.type "str")
 | flt (x:UInt64):gJ K H (.flt x) (.type "float")
 | lst {a:Addr} {xs:List V} (e:H a=some (.lst xs)):gJ K H (.ref a) (.type "list")
 | frz {a:Addr} {o:Obj} {xs:List V} (e:H a=some (.frz o (.lst xs))):gJ K H (.ref a) (.type "list")
 | tup {a:Addr} {xs:List V} (e:H a=some (.tup xs)):gJ K H (.ref a) (.type "tuple")
 | dK {a:Addr} {kvs:List (Key×V)} (e:H a=some (.dK kvs)):gJ K H (.ref a) (.type "dict")
 | dT {a:Addr} {kvs:List (List Key×V)} (e:H a=some (.dT kvs)):gJ K H (.ref a) (.type "dict")
 | ins {a C dx:Addr} {fs:List (Str×V)} (e:H a=some (.ins C dx fs)) (cl:Cls K C) (ha:PySem.W.findIn K (.ref C) "__class__"=some (some (.builtin "object.__class__")))
   (hn:PySem.W.specialIn K (.builtin "object.__class__") "__get__"=some (some (.builtin "getset_descriptor.__get__"))) (htk:PySem.W.takesIn K (.builtin "object.__class__")=some true)
   (hm:PySem.W.mroIn K C (.type "object")=some true):gJ K H (.ref a) (.ref C)
theorem d3{x:V}{u t:Value}(I:Inv X pins σ H s)(rx:RelV x u)(ty:gJ X.K H x t)(e:PySem.W.kitOne X.K t c=some b)(h:∀tk,Q (.bool b) { s with toks:=tk }) :
  wpAny (model X.prog X.w) A (call (.builtin "isinstance") [u,c]) Q E s:=by
 cases ty with
 | non=>cases (show u=Value.none from rx);exact PySem.W.kia_one PySem.W.kitx_none I.kIn True.intro e (fun z=>nomatch z) h
 | bl y=>cases (show u=Value.bool y from rx);exact PySem.W.kia_one PySem.W.kitx_bool I.kIn True.intro e (fun z=>nomatch z) h
 | int i=>obtain⟨t,q⟩:=(show ∃t,u=Value.int i t from rx);cases q;exact PySem.W.kia_one PySem.W.kitx_int I.kIn True.intro e (fun z=>nomatch z) h
 | str y=>obtain⟨t,q⟩:=(show ∃t,u=Value.str y t from rx);cases q;exact PySem.W.kia_one PySem.W.kitx_str I.kIn True.intro e (fun z=>nomatch z) h
 | flt y=>obtain⟨t,q⟩:=(show ∃t,u=Value.float y t from rx);cases q;exact PySem.W.kia_one PySem.W.kitx_float I.kIn True.intro e (fun z=>nomatch z) h
 | @lst a xs ea =>
  cases (show u=Value.ref a from rx)
  obtain⟨_,_,n,_,h1⟩:=(show bQ X.prog X.w H s.heap a (.lst xs)from I.hok a _ ea)
  exact PySem.W.kia_one PySem.W.kitx_list I.kIn ⟨_,h1,rfl⟩ e (fun z=>nomatch z) h
 | @frz a ob xs ea =>
  cases (show u=Value.ref a from rx)
  obtain⟨_,_,_,n,_,h1⟩:=(show bQ X.prog X.w H s.heap a (.frz ob (.lst xs))from I.hok a _ ea)
  exact PySem.W.kia_one PySem.W.kitx_list I.kIn ⟨_,h1,rfl⟩ e (fun z=>nomatch z) h
 | @tup a xs ea =>
  cases (show u=Value.ref a from rx)
  obtain⟨_,_,_,p⟩:=(show bQ X.prog X.w H s.heap a (.tup xs)from I.hok a _ ea)
  obtain⟨o,h1,h2,_⟩:=p
  exact PySem.W.kia_one PySem.W.kitx_tuple I.kIn ⟨o,h1,h2⟩ e (fun z=>nomatch z) h
 | @dK a kvs ea =>
  cases (show u=Value.ref a from rx)
  obtain⟨_,_,vs,_,p⟩:=(show bQ X.prog X.w H s.heap a (.dK kvs)from I.hok a _ ea)
  obtain⟨o,es,ep,h1,h2,_⟩:=p
  exact PySem.W.kia_one PySem.W.kitx_dict I.kIn ⟨o,h1,h2.1⟩ e (fun z=>nomatch z) h
 | @dT a kvs ea =>
  cases (show u=Value.ref a from rx)
  obtain⟨_,_,xs,_,o,es,ep,h1,h2,_⟩:=(show bQ X.prog X.w H s.heap a (.dT kvs)from I.hok a _ ea)
  exact PySem.W.kia_one PySem.W.kitx_dict I.kIn ⟨o,h1,h2.1⟩ e (fun z=>nomatch z) h
 | @ins a C dx fs ea cl ha hn htk hm =>
  cases (show u=Value.ref a from rx)
  obtain⟨mA,O,_⟩:=gP I.hok ea
  obtain⟨od,J,_⟩:=O.look
  exact PySem.W.kia_one (PySem.W.kitx_own (cl.get _) cl.hd ha hn htk hm) I.kIn J e (fun z=>nomatch z) h
end
end L2
namespace L2
open PySem PySem.Spec PyProof.Rows
structure cf (k:Nat) (A:Around):Prop where
 hd:A.handled=none
 dp:A.depth+3*k+5<recursionLimit
 un:A.units+16*k+200<cLine
theorem cf.mono{j k:Nat}{A:Around}(r:cf k A)(h:j≤k):cf j A:=⟨r.hd,by have:=r.dp;omega,by have:=r.un;omega⟩
theorem cf.deeper{k:Nat}{A:Around}(r:cf (k+1) A)(env:Env):cf k (A.deeper env) :=
 ⟨r.hd,by have:=r.dp;show A.depth+1+3*k+5<_;omega,by have:=r.un;show A.units+3+16*k+200<_;omega⟩
theorem mq{A:Around}{C:Addr}{us:List Value}{kw:List (Str×Value)}:(A.under (.builtin "type.__call__" ⟨.ref C::us,kw⟩)).depth=A.depth+1:=by
 first | rfl | simp[Around.under,Code.weight,Code.isCreation,Code.isGuard,Code.isCaller,Code.frames,Code.isFrame,guardIds]
theorem my{A:Around}{C:Addr}{us:List Value}{kw:List (Str×Value)}:(A.under (.builtin "type.__call__" ⟨.ref C::us,kw⟩)).units=A.units+1:=by
 first | rfl | simp[Around.under,Code.cUnits,Code.frames,Code.isFrame]
theorem cf.make{k:Nat}{A:Around}(r:cf (k+1) A)(C:Addr)(us:List Value)(kw:List (Str×Value)):cf k (A.under (.builtin "type.__call__" ⟨.ref C::us,kw⟩)) :=
 ⟨r.hd,by have:=r.dp;rw[mq];omega,by have:=r.un;rw[my];omega⟩
theorem cf.depth{k:Nat}{A:Around}(r:cf k A):A.depth<recursionLimit:=by have:=r.dp;omega
theorem cf.units{k:Nat}{A:Around}(r:cf k A):A.units+64<cLine:=by have:=r.un;omega
def DY:TA:=fun _ H Q=>Q [] H
def Ak(ta:TE)(tr:TA):TA:=fun σ H Q=>ta σ H fun x H1=>tr σ H1 fun xs H2=>Q (x::xs) H2
section
variable {X:Cx}{e:Expr}{es:List Expr}{te:TE}{t:TA}{pos:Pos}
theorem dB:PA X [] DY:=fun _ _ _ _ H Q I h=>Calls.spliced_nil ⟨[],H,I,.nil,h⟩
theorem cD(ha:PE X e te)(hr:PA X es t)(hs:starEach (e::es) X.env=(false,eval e X.env)::starEach es X.env:=by rfl):PA X (e::es) (Ak te t):=by
 intro pos pins s σ H Q I h
 rw[hs]
 show wpAny _ _ (spliced ((false,eval e X.env)::backTo pos (starEach es X.env))) _ _ s
 refine Calls.spliced_cons (thn (ha pins s σ H _ I h) fun u s1 ⟨x,H1,I1,r1,q1⟩=>?_)
 exact thn (hr pos pins s1 σ H1 _ I1 q1) fun us s2 ⟨xs,H2,I2,r2,q2⟩=>⟨x::xs,H2,I2,.cons r1 r2,q2⟩
def BQ(t:TA):TE:=fun σ H Q=>t σ H fun xs H1=>xs.length≤sizeLine/\∀p,H1 p=none->Q (.ref p) (upd H1 p (.tup xs))
def Ct(t:TA):TE:=fun σ H Q=>t σ H fun xs H1=>xs.length≤sizeLine/\∀p,H1 p=none->Q (.ref p) (upd H1 p (.lst xs))
theorem xi{x1}(h:PA X es t):PE X (.Tuple es x1 pos) (BQ t):=by
 intro pins s σ H Q I hq
 refine wpAny_Tuple_spliced (thn (h pos pins s σ H _ I hq) fun us s1 ⟨xs,H1,I1,r,z,q⟩=>⟨by rw[←r.length];exact z,?_⟩)
 have hf:H1 s1.heap.objs.size=none:=I1.hok.fresh (Nat.le_refl _)
 refine⟨.ref s1.heap.objs.size,upd H1 s1.heap.objs.size (.tup xs),I1.laid (t':=s1.toks) (fun b u e=>Heap.get?_push_of_some _ e) (Nat.le_refl _) ?_,rfl,q _ hf⟩
 exact⟨z,us,r,⟨_,Heap.get?_push_size _ rfl,rfl,_,rfl⟩⟩
theorem wZ(h:PA X es t):PE X (.List es pos) (Ct t):=by
 intro pins s σ H Q I hq
 refine wpAny_List_spliced (thn (h pos pins s σ H _ I hq) fun us s1 ⟨xs,H1,I1,r,z,q⟩=>⟨by rw[←r.length];exact z,?_⟩)
 have hf:H1 s1.heap.objs.size=none:=I1.hok.fresh (Nat.le_refl _)
 refine⟨.ref s1.heap.objs.size,upd H1 s1.heap.objs.size (.lst xs),I1.laid (t':=s1.toks) (fun b u e=>Heap.get?_push_of_some _ e) (Nat.le_refl _) ?_,rfl,q _ hf⟩
 exact⟨z,us,0,r,Heap.get?_push_size _ rfl⟩
end
abbrev Sp:=List V->Hp->VK->XK->Prop
abbrev CXT:=List Env->Hp->Shared->XK->Value->Shared->Prop
structure mx (P:Program) (w:World) (K:PySem.W.Frag) (mg:Str→Option Value) (base:Heap) (A:Around) (outer:List Env) (s:Shared) (H:Hp):Prop where
 frames:A.frames=some outer
 mod:Mod K mg base
 bs:∀b o,base.get? b=some o->s.heap.get? b=some o/\H b=none
 bsz:base.objs.size≤s.heap.objs.size
 funs:s.heap.FunFrames base outer
 frf:∀b∈frs outer,H b=none
 hok:HOk P w H s.heap
 bare:AllBare s.gens
def CE(outer:List Env)(P:Program)(w:World)(H:Hp)(s:Shared)(Q:VK)(u:Value)(s':Shared):Prop :=
 ∃v H',s'.os=s.os/\AllBare s'.gens/\Un (frs outer) [] H H' s.heap s'.heap/\HOk P w H' s'.heap/\RelV v u/\Q v H'
def CR(CX:CXT)(outer:List Env)(P:Program)(w:World)(H:Hp)(s:Shared)(Q:VK)(E:XK)(r:Result)(s':Shared):Prop :=
 match r with
 | .ok (.ret u)=>CE outer P w H s Q u s'
 | .ok _=>False
 | .error e=>CX outer H s E e s'
structure iJ (P:Program) (w:World) (K:PySem.W.Frag) (mg:Str→Option Value) (base:Heap) (CX:CXT) (k:Nat) (f:Addr) (fd:FuncData) (ps:List Str) (sp:Sp):Prop where
 len:∀vs H Q E,sp vs H Q E->vs.length=ps.length
 run:∀(A:Around) (outer:List Env) (s:Shared) (H:Hp) (args:Args) (us:List Value) (vs:List V) (Q:VK) (E:XK),cf k A->mx P w K mg base A outer s H->BindsTo s fd args (ps.zip us)->Vals vs us->sp vs H Q E ->
  codeAny (model P w) A (.call (.ref f) args) (CR CX outer P w H s Q E) s
theorem mx.make{P:Program}{w:World}{K:PySem.W.Frag}{mg:Str->Option Value}{base:Heap}{A:Around}{outer:List Env}{s:Shared}{H:Hp}(e:mx P w K mg base A outer s H)(C:Addr)(us:List Value)(kw:List (Str×Value)) :
  mx P w K mg base (A.under (.builtin "type.__call__" ⟨.ref C::us,kw⟩)) outer s H:=⟨by first | exact e.frames |(simpa[Around.under,Code.envs,Code.isFrame,pushEnvs]using e.frames),e.mod,e.bs,e.bsz,e.funs,e.frf,e.hok,e.bare⟩
section
variable {X:Cx}{pins:List (Addr×Obj)}{σ:St}{H:Hp}{s s':Shared}
theorem Inv.env0(I:Inv X pins σ H s):mx X.prog X.w X.K X.mg X.base X.A X.stack s H :=
 ⟨I.ok.frames,I.ok.mod,I.bs,Nat.le_trans I.ok.bsz I.sz,I.stack,I.stkFree,I.hok,I.bare⟩
theorem Inv.after{Q:VK}{u:Value}(I:Inv X pins σ H s)(h:CE X.stack X.prog X.w H s Q u s'):EP X pins σ Q u s':=by
 obtain⟨v,H',os,bare,un,hok,r,q⟩:=h
 obtain⟨hh,g,d,t,os'⟩:=s'
 obtain rfl:os'=s.os:=os
 exact⟨v,H',I.call (h':=hh) (g':=g) (d':=d) (t':=t) (ch:=[]) un hok bare (fun b z=>absurd z (by simp)),r,q⟩
end
def vj(sp:Sp)(dvs:List V)(E:XK)(t:TA):TE:=fun σ H Q=>t σ H fun vs H1=>sp (vs++dvs) H1 Q E
def vo(C:Addr)(m:Str)(sp:Sp)(dvs:List V)(E:XK)(ta:TE)(t:TA):TE:=fun σ H Q=>ta σ H fun x H1=>∃a dx fs,x=.ref a/\H1 a=some (.ins C dx fs)/\fs.lookup m=none /\
 t σ H1 fun vs H2=>sp (x::(vs++dvs)) H2 Q E
def AR(C:Addr)(sp:Sp)(dvs:List V)(E:XK)(t:TA):TE:=fun σ H Q=>t σ H fun vs H1=>∀x dx,H1 x=none->H1 dx=none->dx≠x ->
 sp (.ref x::(vs++dvs)) (upd (upd H1 dx (.own x)) x (.ins C dx [])) (fun v H2=>v=.non/\Q (.ref x) H2) E
def Binds(K:PySem.W.Frag)(fd:FuncData)(ps:List Str)(ds:List Value):Prop :=
 ∀(s:Shared) (us:List Value),K.In s.heap->(us++ds).length=ps.length->BindsTo s fd ⟨us,[]⟩ (ps.zip (us++ds))
theorem Binds.all{K:PySem.W.Frag}{fd:FuncData}{ps:List Str}(h:∀us:List Value,us.length=ps.length->bindArgs fd ⟨us,[]⟩=pure (ps.zip us)):Binds K fd ps []:=fun s us _ hl=>by
 rw[List.append_nil]at hl ⊢
 exact .of_eq (h us hl)
def Passes(CX:CXT)(X:Cx)(E:XK):Prop:=∀(pins:List (Addr×Obj)) (σ:St) (H:Hp) (s:Shared) (e:Value) (s':Shared),Inv X pins σ H s->CX X.stack H s E e s'->X.xe e s'
section
variable {X:Cx}{CX:CXT}{k:Nat}{f C:Addr}{fd:FuncData}{ps:List Str}{sp:Sp}{dvs:List V}{ds:List Value}{E:XK}{x m:Str}{p pos apos:Pos}{e o:Expr}{es:List Expr}{ta:TE}{t:TA}
theorem qp{pins:List (Addr×Obj)}{σ:St}{H:Hp}{s:Shared}{Q:VK}{us:List Value}{vs:List V}(F:iJ X.prog X.w X.K X.mg X.base CX k f fd ps sp)(hr:cf k X.A)(hb:Binds X.K fd ps ds)(hd:Vals dvs ds)(hx:Passes CX X E)
  (I:Inv X pins σ H s) (r:Vals vs us) (h:sp (vs++dvs) H Q E):wpAny (model X.prog X.w) X.A (call (.ref f) us) (EP X pins σ Q) X.xe s:=by
 have r2:Vals (vs++dvs) (us++ds):=r.append hd
 have hl:(us++ds).length=ps.length:=by rw[←r2.length];exact F.len _ _ _ _ h
 refine wpAny_call (codeAny_mono (F.run X.A X.stack s H ⟨us,[]⟩ (us++ds) (vs++dvs) Q E hr I.env0 (hb s us I.kIn hl) r2 h) fun r s' hq=>?_)
 cases r with
 | error e=>exact hx pins σ H s e s' I hq
 | ok fl =>
  cases fl with
  | ret u=>exact I.after hq
  | next=>exact False.elim hq
  | brk=>exact False.elim hq
  | cont=>exact False.elim hq
theorem sP(F:iJ X.prog X.w X.K X.mg X.base CX k f fd ps sp)(hr:cf k X.A)(hg:Gl X x)(hm:X.mg x=some (.ref f))(hk:PySem.W.keepIn X.K (.ref f)=true)(hb:Binds X.K fd ps ds)(hd:Vals dvs ds)(hx:Passes CX X E)
  (ha:PA X (e::es) t) (hdb:(x==("__debug__":Str))=false:=by decide) (he:starEach (e::es) X.env=(false,eval e X.env)::starEach es X.env:=by rfl) (hpl:(backTo pos (starEach es X.env)).any (·.1)=false:=by rfl) :
  PE X (.Call (.Name x p) (e::es) [] pos) (vj sp dvs E t):=by
 intro pins s σ H Q I h
 refine wpAny_Call_Name_kw (jJ I hg hm ?_ hdb)
 refine PySem.W.callWith_K (h₀:=X.base) I.ok.mod.kin hk (thn (ha pos pins s σ H _ I h) fun us s1 ⟨vs,H1,I1,r,q⟩=>⟨I1.kIn,?_⟩) he hpl
 exact qp F hr hb hd hx I1 r q
theorem tf{pl:Sem Bool}(he:PE X o ta)(c:Cls X.K C)(hm:Meth X.K C m f)(F:iJ X.prog X.w X.K X.mg X.base CX k f fd ps sp)(hr:cf k X.A)(hb:Binds X.K fd ps ds)(hd:Vals dvs ds)(hx:Passes CX X E)(ha:PA X (e::es) t)
  (hst:starEach (e::es) X.env=(false,eval e X.env)::starEach es X.env:=by rfl) (hpl:(backTo pos (starEach es X.env)).any (·.1)=false:=by rfl)
  (ht:eval (.Call (.Attribute o m apos) (e::es) [] pos) X.env=(do
   let ov←eval o X.env
   standAt apos.atName
   let (f,first)←holding [ov] (getMethod ov m pl)
   callWith pos f first (backTo pos (starEach (e::es) X.env)) (backToKw pos (keywordEach [] X.env))):=by rfl) :
  PE X (.Call (.Attribute o m apos) (e::es) [] pos) (vo C m sp dvs E ta t):=by
 intro pins s σ H Q I h
 refine PySem.W.methodCall_KW (pl:=pl) (thn (he pins s σ H _ I h) fun u s1 ⟨x,H1,I1,rx,a,dx,fs,ex,ea,l,q⟩=>?_) ht
 subst ex
 obtain rfl:u=Value.ref a:=rx
 refine ib I1 ea c hm l ?_
 refine PySem.W.callWith_K (first:=[.ref a]) (h₀:=X.base) I.ok.mod.kin hm.kp (thn (ha pos pins s1 σ H1 _ I1 q) fun us s2 ⟨vs,H2,I2,r,q2⟩=>⟨I2.kIn,?_⟩) hst hpl
 exact qp (us:=.ref a::us) (vs:=.ref a::vs) F hr hb hd hx I2 (.cons rfl r) q2
structure Mk (K:PySem.W.Frag) (C f:Addr):Prop where
 makes:PySem.W.makesIn K C=true
 init:PySem.W.findIn K (.ref C) "__init__"=some (some (.ref f))
 fn:PySem.W.isFn K (.ref f)=true
 kp:PySem.W.keepIn K (.ref C)=true
theorem pJ{pins:List (Addr×Obj)}{σ:St}{H:Hp}{s:Shared}{Q:VK}{us:List Value}{vs:List V}(M:Mk X.K C f)(F:iJ X.prog X.w X.K X.mg X.base CX k f fd ps sp)(hr:cf (k+1) X.A)(hb:Binds X.K fd ps ds)(hd:Vals dvs ds)
  (hx:Passes CX X E) (I:Inv X pins σ H s) (r:Vals vs us)
  (h:∀x dx,H x=none->H dx=none->dx≠x->sp (.ref x::(vs++dvs)) (upd (upd H dx (.own x)) x (.ins C dx [])) (fun v H2=>v=.non/\Q (.ref x) H2) E) :
  wpAny (model X.prog X.w) X.A (call (.ref C) us) (EP X pins σ Q) X.xe s:=by
 have hq:=h (s.heap.objs.size+1) s.heap.objs.size (I.hok.fresh (Nat.le_succ _)) (I.hok.fresh (Nat.le_refl _)) (Nat.ne_of_lt (Nat.lt_succ_self _))
 have I2:=Inv.made (C:=C) I
 have r2:Vals (V.ref (s.heap.objs.size+1)::(vs++dvs)) (Value.ref (s.heap.objs.size+1)::(us++ds)):=.cons rfl (r.append hd)
 have hl:(Value.ref (s.heap.objs.size+1)::us++ds).length=ps.length:=by
  have e:=r2.length
  rw[F.len _ _ _ _ hq]at e
  exact e.symm
 refine wpAny_call (qu (f:=f) I.kIn M.makes M.init (beq_iff_eq.mp M.fn) (codeAny_mono (F.run _ X.stack _ _ ⟨Value.ref (s.heap.objs.size+1)::us,[]⟩ (Value.ref (s.heap.objs.size+1)::(us++ds)) _ _ E (hr.make C us [])
  (I2.env0.make C us []) (hb _ (Value.ref (s.heap.objs.size+1)::us) I2.kIn hl) r2 hq) fun r s' hq'=>?_))
 cases r with
 | error e=>exact hx pins σ _ _ e s' I2 hq'
 | ok fl =>
  cases fl with
  | ret u =>
   obtain⟨v,H',I3,rv,ev,q3⟩:=I2.after hq'
   subst ev
   exact⟨rv,⟨V.ref (s.heap.objs.size+1),H',I3,rfl,q3⟩⟩
  | next=>exact False.elim hq'
  | brk=>exact False.elim hq'
  | cont=>exact False.elim hq'
theorem uG(M:Mk X.K C f)(F:iJ X.prog X.w X.K X.mg X.base CX k f fd ps sp)(hr:cf (k+1) X.A)(hg:Gl X x)(hm:X.mg x=some (.ref C))(hb:Binds X.K fd ps ds)(hd:Vals dvs ds)(hx:Passes CX X E)
  (ha:PA X (e::es) t) (hdb:(x==("__debug__":Str))=false:=by decide) (he:starEach (e::es) X.env=(false,eval e X.env)::starEach es X.env:=by rfl) (hpl:(backTo pos (starEach es X.env)).any (·.1)=false:=by rfl) :
  PE X (.Call (.Name x p) (e::es) [] pos) (AR C sp dvs E t):=by
 intro pins s σ H Q I h
 refine wpAny_Call_Name_kw (jJ I hg hm ?_ hdb)
 refine PySem.W.callWith_K (h₀:=X.base) I.ok.mod.kin M.kp (thn (ha pos pins s σ H _ I h) fun us s1 ⟨vs,H1,I1,r,q⟩=>⟨I1.kIn,?_⟩) he hpl
 exact pJ M F hr hb hd hx I1 r q
end
section
variable {X:Cx}{CX:CXT}{k:Nat}{f C:Addr}{fd:FuncData}{ps ks:List Str}{sp:Sp}{E:XK}{x m:Str}{p pos apos kpos:Pos}{e o:Expr}{es:List Expr}{kws:List Keyword}{te ta:TE}{t tk:TA}{nm:Option Str}
variable {g:List Value->List Value->List Value}{gV:List V->List V->List V}
end
structure aE (N P:List Str) (sc:Scope):Prop where
 kind:sc.kind=.function
 co:sc.isCoroutine=false
 gen:sc.isGenerator=false
 nd:N.Nodup
 pre:N.take P.length=P
 par:∀x∈P,sc.names.lookup x=some .local∨sc.names.lookup x=some .cell
 nofree:∀y∈sc.names,y.2≠.free
theorem jl{kindOf:Str->Option NameKind}{x:Str}:∀{binds:List (Str×Value)} {m:Str->Option Value},(∀v,(x,v)∉binds)->bindL kindOf binds m x=m x
 | [],_,_=>rfl
 |(n,v)::r,m,h=>by
  unfold bindL
  rw[jl fun w hw=>h w (List.mem_cons_of_mem _ hw)]
  split
  ·have:x≠n:=by rintro rfl;exact h v List.mem_cons_self
   simp[this]
  ·rfl
theorem jg{kindOf:Str->Option NameKind}{x:Str}:∀{binds:List (Str×Value)} {m:Str->Option Value},(∀v,(x,v)∉binds)->bindC kindOf binds m x=m x
 | [],_,_=>rfl
 |(n,v)::r,m,h=>by
  unfold bindC
  rw[jg fun w hw=>h w (List.mem_cons_of_mem _ hw)]
  split
  ·rfl
  ·have:x≠n:=by rintro rfl;exact h v List.mem_cons_self
   simp[this]
theorem jd{kindOf:Str->Option NameKind}{x:Str}{v:Value}:∀{P:List Str} {vs:List Value} {i:Nat} {m:Str->Option Value},P.Nodup->P[i]?=some x->vs[i]?=some v->kindOf x=some .local ->
  bindL kindOf (P.zip vs) m x=some v
 | [],_,_,_,_,h,_,_=>by simp at h
 | _::_,[],_,_,_,_,h,_=>by simp at h
 | p::P,w::vs,0,m,nd,h1,h2,hk=>by
  simp at h1 h2;subst h1;subst h2
  show bindL kindOf ((p,w)::P.zip vs) m p=_
  unfold bindL
  rw[jl fun v hv=>(List.nodup_cons.mp nd).1 (List.of_mem_zip hv).1,if_pos hk]
  simp
 | p::P,w::vs,i+1,m,nd,h1,h2,hk=>by
  show bindL kindOf ((p,w)::P.zip vs) m x=_
  unfold bindL
  exact jd (i:=i) (List.nodup_cons.mp nd).2 (by simpa using h1) (by simpa using h2) hk
theorem jq{kindOf:Str->Option NameKind}{x:Str}{v:Value}:∀{P:List Str} {vs:List Value} {i:Nat} {m:Str->Option Value},P.Nodup->P[i]?=some x->vs[i]?=some v->kindOf x≠some .local ->
  bindC kindOf (P.zip vs) m x=some v
 | [],_,_,_,_,h,_,_=>by simp at h
 | _::_,[],_,_,_,_,h,_=>by simp at h
 | p::P,w::vs,0,m,nd,h1,h2,hk=>by
  simp at h1 h2;subst h1;subst h2
  show bindC kindOf ((p,w)::P.zip vs) m p=_
  unfold bindC
  rw[jg fun v hv=>(List.nodup_cons.mp nd).1 (List.of_mem_zip hv).1,if_neg hk]
  simp
 | p::P,w::vs,i+1,m,nd,h1,h2,hk=>by
  show bindC kindOf ((p,w)::P.zip vs) m x=_
  unfold bindC
  exact jq (i:=i) (List.nodup_cons.mp nd).2 (by simpa using h1) (by simpa using h2) hk
def start(N:List Str)(vs:List V):St:=vs.map some++List.replicate (N.length - vs.length) none
def lJ(CX:CXT)(P:Program)(w:World)(K:PySem.W.Frag)(mg:Str->Option Value)(base:Heap)(N:List Str)(qual:Str)(scope:Scope)(f:Addr)(cd:Value)(A:Around)(outer:List Env)(s:Shared)(H:Hp)(E:XK):Cx where
 prog:=P
 w:=w
 K:=K
 mg:=mg
 base:=base
 A:=A.deeper (envOfC qual scope s.heap.objs.size f cd)
 N:=N
 s₀:=s
 H₀:=H
 env:=envOfC qual scope s.heap.objs.size f cd
 outer:=outer
 stack:=envOfC qual scope s.heap.objs.size f cd::outer
 ex:=[]
 calm:=true
 fn:=fun _=>true
 pn:=[]
 xe:=fun e s'=>wpAny (model P w) (A.deeper (envOfC qual scope s.heap.objs.size f cd)) (leaving (envOfC qual scope s.heap.objs.size f cd) e) (fun _ s''=>CX outer H s E e s'') (fun e' s''=>CX outer H s E e' s'') s'
theorem kD{sc:Scope}{n:Nat}{x:Str}(h:sc.names.lookup x=some .cell):∃c,(cellsFrom n sc.names []).lookup x=some c:=by
 have q:=PySem.W.cellsFrom_some sc.names n [] (.inl h)
 exact Option.isSome_iff_exists.mp q
theorem oZ{CX:CXT}{P:Program}{w:World}{K:PySem.W.Frag}{mg:Str->Option Value}{base:Heap}{N ps:List Str}{qual:Str}{scope:Scope}{f:Addr}{cd:Value}{A:Around}{outer:List Env}{s s1:Shared}{H:Hp}{E:XK}{us:List Value}{vs:List V}
  (S:aE N ps scope) (hd:A.handled=none) (e0:mx P w K mg base A outer s H) (hl:vs.length=ps.length) (r:Vals vs us)
  (x:InCallC s s.heap.objs.size (bindL (envOfC qual scope s.heap.objs.size f cd).kindOf (ps.zip us) fun _=>none) (cellsFrom (s.heap.objs.size+1) scope.names []) (bindC (envOfC qual scope s.heap.objs.size f cd).kindOf (ps.zip us) fun _=>none) s1) :
  Inv (lJ CX P w K mg base N qual scope f cd A outer s H E) [] (start N vs) H s1:=by
 have hpl:ps.length≤N.length:=by have:=congrArg List.length S.pre;rw[List.length_take]at this;omega
 obtain⟨h1,tk,rfl,hk⟩:=x.done
 have noA:∀b:Addr,b∉(lJ CX P w K mg base N qual scope f cd A outer s H E).ex:=fun b z=>absurd (show b∈([]:List Addr)from z) (by simp)
 refine⟨⟨e0.mod,S.kind,rfl,rfl,Nat.le_refl _,fun y z c h1 h2=>?_,fun y hy=>?_,fun y c _ h=>?_,fun _=>hd,Around.frames_deeper e0.frames,.inr ⟨rfl,rfl⟩,fun b z=>absurd z (noA b),e0.bs,e0.bsz,fun b _ _=>noA b,fun b z=>absurd z (noA b),e0.funs,e0.frf⟩,
  rfl,e0.bare,Un.kept hk,⟨_,x.toInCall.ns,fun i y v h1 h2 h3=>?_⟩,fun y c h=>⟨_,x.cell y c h⟩,e0.hok.fresh (Nat.le_refl _),fun y c h=>?_,fun p hp=>absurd (show p∈([]:List (Addr×Obj))from hp) (by simp),e0.hok.kept hk,?_⟩
 ·exact name_of_addr x.apart (PySem.mem_of_lookup h1) (PySem.mem_of_lookup h2)
 ·have hy:scope.names.lookup y=some .cell∨scope.names.lookup y=some .free:=hy
  rcases hy with hy | hy
  ·exact kD hy
  ·exact absurd rfl (S.nofree _ (PySem.mem_of_lookup hy))
 ·exact Nat.le_of_lt (x.above y c (PySem.mem_of_lookup h))
 ·have hi:i<vs.length:=by
   unfold start at h2
   by_cases hi:i<vs.length
   ·exact hi
   ·rw[List.getElem?_append_right (by simpa using hi)]at h2
    rw[List.getElem?_replicate]at h2
    split at h2<;>cases h2
  have ha:vs[i]?=some v:=by
   unfold start at h2
   rw[List.getElem?_append_left (by simpa using hi),List.getElem?_map]at h2
   cases e:vs[i]? with
   | none=>rw[e]at h2;cases h2
   | some a=>rw[e]at h2;cases h2;rfl
  obtain⟨u,hu,rv⟩:=r.get ha
  have hp:ps[i]?=some y:=by
   rw[←S.pre,List.getElem?_take_of_lt (by omega)];exact h1
  have ndP:ps.Nodup:=by rw[←S.pre];exact S.nd.sublist (List.take_sublist _ _)
  refine⟨u,rv,?_⟩
  rcases S.par y (List.mem_of_getElem? hp)with k | k
  ·exact .inl ⟨k,jd ndP hp hu k⟩
  ·obtain⟨c,e⟩:=kD (n:=s.heap.objs.size+1) k
   refine .inr ⟨.inl k,c,e,?_⟩
   have q:=x.cell y c e
   rw[jq ndP hp hu (by show scope.names.lookup y≠_;rw[k];decide)]at q
   exact q
 ·exact e0.hok.fresh (Nat.le_of_lt (x.above y c (PySem.mem_of_lookup h)))
 ·unfold start
  show _=N.length
  rw[List.length_append,List.length_map,List.length_replicate]
  omega
theorem zO{CX:CXT}{P:Program}{w:World}{K:PySem.W.Frag}{mg:Str->Option Value}{base:Heap}{k:Nat}{f:Addr}{name qual:Str}{params:Arguments}{body:List Stmt}{scope:Scope}{dV kV doc pm cdv ct oc:Value}{an od:Option Addr}
  {osl:Array (Option Value)} {N ps:List Str} {sp:Sp} (lk:K.lookup f=some ⟨oc,od,.func (PySem.W.fnOf name qual params body scope dV kV doc pm an cdv ct),osl⟩) (hcd:PySem.W.codeIn K cdv qual=true) (S:aE N ps scope)
  (len:∀vs H Q E,sp vs H Q E->vs.length=ps.length)
  (hbody:∀(A:Around) (outer:List Env) (s:Shared) (H:Hp) (vs:List V) (Q:VK) (E:XK),cf k (A.deeper (envOfC qual scope s.heap.objs.size f cdv))->sp vs H Q E ->
   ∃t,PSs (lJ CX P w K mg base N qual scope f cdv A outer s H E) body t/\t { nx:=fun _ H'=>Q .non H',rt:=Q } (start N vs) H) :
  iJ P w K mg base CX (k+1) f (PySem.W.fnOf name qual params body scope dV kV doc pm an cdv ct) ps sp:=by
 refine⟨len,fun A outer s H args us vs Q E hr e0 hb r hsp=>?_⟩
 have hl:=len _ _ _ _ hsp
 have KX:K.In s.heap:=e0.mod.kin.keeps fun b o e=>(e0.bs b o e).1
 have lim:s.heap.NoLimit:=e0.mod.nolimit.keeps fun b o e=>(e0.bs b o e).1
 have hkind:∀y∈ps.zip us,scope.names.lookup y.1=some .local∨(scope.names.lookup y.1=some .cell/\((cellsFrom (s.heap.objs.size+1) scope.names []).lookup y.1).isSome=true):=fun⟨n,v⟩ hy=>by
  rcases S.par n (List.of_mem_zip hy).1 with q | q
  ·exact .inl q
  ·exact .inr ⟨q,PySem.W.cellsFrom_some _ _ _ (.inl q)⟩
 refine codeAny_call_function hr.depth (KX _ _ lk) rfl S.co S.gen rfl (PySem.W.codeRec_of KX hcd) (hb _ _ _ _ ?_)
 refine wpAny_newFunctionEnv_cells S.kind hkind fun env he s1 x=>?_
 subst he
 refine⟨lim.keeps x.toInCall.keep,codeAny_func ?_⟩
 obtain⟨t,ht,hq⟩:=hbody A outer s H vs Q E (hr.deeper _) hsp
 have I:Inv (lJ CX P w K mg base N qual scope f cdv A outer s H E) [] (start N vs) H s1:=oZ S hr.hd e0 hl r x
 refine wpAny_mono (ht [] s1 (start N vs) H _ I hq) (fun fl s' hs=>?_) fun e s' hs=>hs
 have fin:∀{σ':St} {H':Hp} {v:V} {u:Value},Inv (lJ CX P w K mg base N qual scope f cdv A outer s H E) [] σ' H' s'->RelV v u->Q v H'->CE outer P w H s Q u s' :=
  fun {σ' H' v u} J rv q=>⟨v,H',J.os,J.bare,J.base,J.hok,rv,q⟩
 cases fl with
 | ret u =>
  obtain⟨v,σ',H',J,rv,q⟩:=hs
  exact fin J rv q
 | next =>
  obtain⟨σ',H',J,q⟩:=hs
  exact fin (v:=V.non) (u:=Value.none) J rfl q
 | brk =>
  obtain⟨_,_,_,q⟩:=hs
  exact False.elim q
 | cont =>
  obtain⟨_,_,_,q⟩:=hs
  exact False.elim q
end L2
namespace L2
open PySem PySem.Spec PyProof.Rows
section
variable {X:Cx}{x:Str}{p pos:Pos}{e:Expr}{es:List Expr}{t:TA}{id T:String}{r:List V->Hp->VK->Prop}
def tCB(r:List V->Hp->VK->Prop)(t:TA):TE:=fun σ H Q=>t σ H fun vs H1=>r vs H1 Q
theorem dR(hc:cb X (.builtin id) r)(hg:Gl X x)(hm:X.mg x=none)(hv:bootBuiltins x=some (.builtin id))(ha:PA X (e::es) t)(hn:x≠"__name__":=by decide)(hdb:(x==("__debug__":Str))=false:=by decide)
  (he:starEach (e::es) X.env=(false,eval e X.env)::starEach es X.env:=by rfl) (hpl:(backTo pos (starEach es X.env)).any (·.1)=false:=by rfl):PE X (.Call (.Name x p) (e::es) [] pos) (tCB r t):=by
 intro pins s σ H Q I h
 refine wpAny_Call_Name_kw (dW I hg hm hv ?_ hn hdb)
 exact PyProof.Rows.callWith_builtin1 (thn (ha pos pins s σ H _ I h) fun us s1 ⟨vs,H1,I1,r1,q1⟩=>hc pins s1 σ H1 vs us Q I1 r1 q1) he hpl
theorem dj(hc:cb X (.type T) r)(hg:Gl X x)(hm:X.mg x=none)(hv:bootBuiltins x=some (.type T))(ha:PA X (e::es) t)(hn:x≠"__name__":=by decide)(hdb:(x==("__debug__":Str))=false:=by decide)
  (he:starEach (e::es) X.env=(false,eval e X.env)::starEach es X.env:=by rfl) (hpl:(backTo pos (starEach es X.env)).any (·.1)=false:=by rfl):PE X (.Call (.Name x p) (e::es) [] pos) (tCB r t):=by
 intro pins s σ H Q I h
 refine wpAny_Call_Name_kw (dW I hg hm hv ?_ hn hdb)
 exact PyProof.Rows.callWith_type1 (thn (ha pos pins s σ H _ I h) fun us s1 ⟨vs,H1,I1,r1,q1⟩=>hc pins s1 σ H1 vs us Q I1 r1 q1) he hpl
end
end L2
namespace HT
open PySem PyProof.Rows
section
open PySem.SeqAt
open PySem.AutoSeq1 (wpAny_loadPart')
open PySem.MeetsSeq PySem.MeetsSeq2 PySem.MeetsSeq3
end
section
variable {prog:Program}{w:World}{A:Around}{E:Value->Shared->Prop}{s:Shared}
theorem si{t b:Addr}{vs ws:List Value}{Q:Value->Shared->Prop}(ht:IsTup s.heap t vs.toArray)(hb:IsTup s.heap b ws.toArray)(hv:vs≠[])
  (h1:ws=[]->Q (.ref t) s) (h2:ws≠[]->Q (.ref s.heap.objs.size) { s with heap:=s.heap.push { cls:=.type "tuple",data:=.seq (vs++ws).toArray } })
  (hsz:vs.length+ws.length≤sizeLine):wpAny (model prog w) A (binaryOp .Add (.ref t) (.ref b)) Q E s:=by
 obtain⟨⟨cls,dd,data,sl⟩,ho,hc,n,hd⟩:=id ht
 obtain⟨⟨cls2,dd2,data2,sl2⟩,ho2,hc2,n2,hd2⟩:=id hb
 simp only at hc hd hc2 hd2
 subst hc hd hc2 hd2
 have e:vs.toArray++ws.toArray=(vs++ws).toArray:=by simp
 by_cases hw:ws=[]
 ·exact concat_meets ⟨_,ho,rfl⟩ ⟨_,ho2,rfl⟩ noFill_tuple_add seq_tuple_add PySem.F.slot_tuple_add PySem.F.entry_tuple_add (PySem.F.args_tuple_add_2 _ _)
   (tuple_addW1 t b vs.toArray ws.toArray n n2 dd dd2 sl sl2 (by simpa using hv) (by simp[hw])) ⟨ho,ho2,h1 hw⟩
 ·refine concat_meets ⟨_,ho,rfl⟩ ⟨_,ho2,rfl⟩ noFill_tuple_add seq_tuple_add PySem.F.slot_tuple_add PySem.F.entry_tuple_add (PySem.F.args_tuple_add_2 _ _)
   (tuple_addW2 t b vs.toArray ws.toArray n n2 dd dd2 sl sl2 (by simpa using hv) (by simpa using hw) (by rw[List.size_toArray,List.size_toArray];exact hsz)) ⟨ho,ho2,?_⟩
  rw[e]
  exact h2 hw
def sIx(n d:Nat):Option Int->Nat
 | none=>d
 | some v=>if v<0 then(v+(n:Int)).toNat else min v.toNat n
theorem iP(n d:Nat):sIx n d none=d:=rfl
theorem uV(n d k:Nat):sIx n d (some (k:Int))=min k n:=by
 show(if (k:Int)<0 then((k:Int)+(n:Int)).toNat else min (k:Int).toNat n)=min k n
 rw[if_neg (by omega),Int.toNat_natCast]
theorem xU(n d:Nat)(hd:d≤n)(o:Option Int):sIx n d o≤n:=by
 cases o with
 | none=>exact hd
 | some v =>
  show(if v<0 then(v+(n:Int)).toNat else min v.toNat n)≤n
  by_cases hv:v<0
  ·rw[if_pos hv];omega
  ·rw[if_neg hv];exact Nat.min_le_right _ _
theorem mU(v:Int)(n d:Nat):(if v<0 then max (v+(n:Int)) 0 else min v (n:Int))=((sIx n d (some v):Nat):Int):=by
 show(if v<0 then max (v+(n:Int)) 0 else min v (n:Int))=(((if v<0 then(v+(n:Int)).toNat else min v.toNat n):Nat):Int)
 by_cases hv:v<0
 ·simp only[if_pos hv];omega
 ·simp only[if_neg hv];omega
theorem lR(lo hi:Option Int)(n:Nat):Builtin.Slice.sliceAdjust lo hi 1 (n:Int)=(((sIx n 0 lo:Nat):Int),((sIx n n hi:Nat):Int)):=by
 have h1:¬((1:Int)<0):=by omega
 unfold Builtin.Slice.sliceAdjust
 simp only[h1,if_false]
 refine Prod.ext ?_ ?_
 ·cases lo with
  | none=>rfl
  | some v=>exact mU v n 0
 ·cases hi with
  | none=>rfl
  | some v=>exact mU v n n
theorem lV(i j:Nat):Builtin.Slice.slicePlaces (i:Int) (j:Int) 1=j - i:=by
 unfold Builtin.Slice.slicePlaces
 have h1:(1:Int)>0:=by omega
 simp only[h1,if_true,Int.ediv_one]
 split<;>omega
theorem iL{v:Value}{o:Option Int}{Q:Option Int->Shared->Prop}(p:IsPart v o)(h:Q o s):wpAny (model prog w) A (Builtin.Slice.slicePartIndex v) Q E s:=by
 cases p with
 | none=>exact slicePart_none h
 | int i t=>exact slicePart_int h
theorem dk{sl:Addr}{vl vu:Value}{lo hi:Option Int}{n:Nat}{Q:Int×Int×Nat->Shared->Prop}(hs:s.heap.IsSliceOf sl vl vu .none)(pl:IsPart vl lo)(pu:IsPart vu hi)
  (h:Q (((sIx n 0 lo:Nat):Int),1,sIx n n hi - sIx n 0 lo) s):wpAny (model prog w) A (Builtin.Slice.sliceApplied (.ref sl) (pure (n:Int))) Q E s:=by
 obtain⟨os,hos,hcs,hds⟩:=id hs
 unfold Builtin.Slice.sliceApplied Builtin.Slice.sliceFields
 refine wpAny_bind (wpAny_bind (wpAny_field hos hds (x:=vl) rfl (wpAny_bind (wpAny_field hos hds (x:=vu) rfl (wpAny_bind (wpAny_field hos hds (x:=.none) rfl (wpAny_pure ?_)))))))
 refine wpAny_bind (slicePart_none ?_)
 show wpAny _ _ (if ((1:Int)==0)=true then _ else _) _ _ s
 rw[if_neg (by decide)]
 refine wpAny_bind (iL pl (wpAny_bind (iL pu (wpAny_bind (wpAny_pure ?_)))))
 show wpAny _ _ (match Builtin.Slice.sliceAdjust lo hi 1 (n:Int)with |(lo,hi)=>pure (lo,(1:Int),Builtin.Slice.slicePlaces lo hi 1)) _ _ s
 rw[lR lo hi n]
 show wpAny _ _ (pure (((sIx n 0 lo:Nat):Int),(1:Int),Builtin.Slice.slicePlaces ((sIx n 0 lo:Nat):Int) ((sIx n n hi:Nat):Int) 1)) _ _ s
 rw[lV]
 exact wpAny_pure h
theorem rX(xs:Array Value)(i k:Nat):((List.range k).filterMap fun(m:Nat)=>xs[((i:Int)+(m:Int)*1).toNat]?).toArray=((xs.toList.drop i).take k).toArray:=by
 have e:(fun(m:Nat)=>xs[((i:Int)+(m:Int)*1).toNat]?)=fun m=>xs[i+m]?:=by
  funext m
  have:((i:Int)+(m:Int)*1).toNat=i+m:=by omega
  rw[this]
 rw[e]
 have:=pick_run xs i k
 rw[List.filterMap_map]at this
 have e2:((fun x=>xs[x]?) ∘ fun x=>i+x)=fun m=>xs[i+m]?:=rfl
 rw[e2]at this
 rw[this]
theorem fF{t sl:Addr}{items:Array Value}{vl vu:Value}{lo hi:Option Int}{Q:Value->Shared->Prop}(ht:IsTup s.heap t items)(hs:s.heap.IsSliceOf sl vl vu .none)(pl:IsPart vl lo)(pu:IsPart vu hi)
  (hw:¬(sIx items.size 0 lo=0/\sIx items.size items.size hi=items.size))
  (h:Q (.ref s.heap.objs.size) { s with heap:=s.heap.push { cls:=.type "tuple",data:=.seq ((items.toList.drop (sIx items.size 0 lo)).take (sIx items.size items.size hi - sIx items.size 0 lo)).toArray } })
  (hsz:items.size≤sizeLine):wpAny (model prog w) A (getItem (.ref t) (.ref sl)) Q E s:=by
 have htake:sizeOk (.seq ((items.toList.drop (sIx items.size 0 lo)).take (sIx items.size items.size hi - sIx items.size 0 lo)).toArray):=by
  show((items.toList.drop (sIx items.size 0 lo)).take (sIx items.size items.size hi - sIx items.size 0 lo)).toArray.size≤sizeLine
  rw[List.size_toArray,List.length_take,List.length_drop,Array.length_toList]
  omega
 have hj:sIx items.size items.size hi≤items.size:=xU _ _ (Nat.le_refl _) hi
 obtain⟨os,hos,hcs,hds⟩:=id hs
 have hTs:s.TypeIs (.ref sl) "slice":=⟨os,hos,hcs⟩
 unfold getItem
 try with_reducible refine wpAny_holding ?_
 first | refine wpAny_bind (wpAny_pure ?_) | skip
 refine wpAny_bind (wpAny_sequenceKey ht.typeIs (by decide) ?_)
 refine wpAny_bind (wpAny_callSpecial?_slot (name:=Str.ofString "__getitem__") ht.typeIs PyProof.Rows.slot_tuple_getitem
  (wpAny_call_entry PyProof.Rows.slot_tuple_getitem ht.typeIs entry_tuple_getitem ?_ (args_tuple_getitem _ _)))
 show wpAny _ _ (Builtin.Tuple.tupleItemsOf (.ref t) >>= _) _ _ s
 refine wpAny_bind (tupleItemsOf_ ht ?_)
 refine wpAny_bind (wpAny_typeOf hTs ?_)
 rw[if_pos (by decide)]
 refine wpAny_bind (dk hs pl pu ?_)
 have hno:¬((((sIx items.size 0 lo:Nat):Int)==0&&(1:Int)==1&&(sIx items.size items.size hi - sIx items.size 0 lo)==items.size)=true):=by
  intro q
  rw[Bool.and_eq_true,Bool.and_eq_true]at q
  have q1:((sIx items.size 0 lo:Nat):Int)=0:=eq_of_beq q.1.1
  have q2:sIx items.size items.size hi - sIx items.size 0 lo=items.size:=eq_of_beq q.2
  exact hw ⟨by omega,by omega⟩
 show wpAny _ _ (if (((sIx items.size 0 lo:Nat):Int)==0&&(1:Int)==1&&(sIx items.size items.size hi - sIx items.size 0 lo)==items.size)=true then _ else _) _ _ s
 rw[if_neg hno,rX]
 first
  | exact wpAny_bind (m:=Builtin.Tuple.tupleExact _) (wpAny_newObj_type (wpAny_pure ⟨_,rfl,wpAny_pure h⟩) htake)
  | exact wpAny_bind (m:=Builtin.Tuple.tupleExact _) (wpAny_newObj_type (wpAny_bind (wpAny_pure (wpAny_pure ⟨_,rfl,wpAny_pure h⟩))) htake)
  | exact wpAny_bind (wpAny_bind (m:=Builtin.Tuple.tupleExact _) (wpAny_newObj_type (wpAny_pure (wpAny_pure ⟨_,rfl,wpAny_pure h⟩)) htake))
  | exact wpAny_bind (wpAny_bind (m:=Builtin.Tuple.tupleExact _) (wpAny_newObj_type (wpAny_pure ⟨_,rfl,wpAny_pure h⟩) htake))
end
end HT
namespace L2
open PySem PySem.Spec PyProof.Rows
abbrev TO:=St->Hp->(Option Int->Hp->Prop)->Prop
def PO(X:Cx)(e:Option Expr)(t:TO):Prop :=
 ∀(pins:List (Addr×Obj)) (s:Shared) (σ:St) (H:Hp) (Q:Option Int->Hp->Prop),Inv X pins σ H s->t σ H Q ->
  wpAny (model X.prog X.w) X.A (evalPart e X.env) (fun u s'=>∃o H',Inv X pins σ H' s'/\IsPart u o/\Q o H') X.xe s
def tY:TO:=fun _ H Q=>Q none H
def yW(t:TE):TO:=fun σ H Q=>t σ H fun x H1=>∃i,x=.int i/\Q (some i) H1
section
variable {X:Cx}{e:Expr}{te:TE}{lo hi:Option Expr}{tl th:TO}{pos p2:Pos}
theorem uX:PO X none tY:=by
 intro pins s σ H Q I h
 rw[evalPart_none]
 exact wpAny_pure ⟨none,H,I,.none,h⟩
theorem uW(h:PE X e te):PO X (some e) (yW te):=by
 intro pins s σ H Q I hw
 rw[evalPart_some]
 refine thn (h pins s σ H _ I hw) fun u s1 ⟨x,H1,I1,r1,q1⟩=>?_
 obtain⟨i,rfl,q⟩:=q1
 obtain⟨t,rfl⟩:=r1
 exact⟨some i,H1,I1,.int i t,q⟩
def SlR(X:Cx)(r:V->Option Int->Option Int->Hp->VK->Prop):Prop :=
 ∀(pins:List (Addr×Obj)) (s:Shared) (σ:St) (H:Hp) (x:V) (v vl vu:Value) (lo hi:Option Int) (sl:Addr) (Q:VK),Inv X pins σ H s->RelV x v->s.heap.IsSliceOf sl vl vu .none->IsPart vl lo->IsPart vu hi->r x lo hi H Q ->
  ∃T id,typeLookup (.type T) "__getitem__"=pure (some (.builtin id))/\s.TypeIs v T/\wpAny (model X.prog X.w) X.A (getItem v (.ref sl)) (EP X pins σ Q) X.xe s
theorem SlR.or{r r':V->Option Int->Option Int->Hp->VK->Prop}(h:SlR X r)(h':SlR X r'):SlR X (fun x lo hi H Q=>r x lo hi H Q∨r' x lo hi H Q):=by
 intro pins s σ H x v vl vu lo hi sl Q I rx hs pl pu q
 rcases q with q | q
 ·exact h pins s σ H x v vl vu lo hi sl Q I rx hs pl pu q
 ·exact h' pins s σ H x v vl vu lo hi sl Q I rx hs pl pu q
def tSl(r:V->Option Int->Option Int->Hp->VK->Prop)(te:TE)(tl th:TO):TE:=fun σ H Q=>te σ H fun x H1=>tl σ H1 fun l H2=>th σ H2 fun u H3=>r x l u H3 Q
theorem kf{r:V->Option Int->Option Int->Hp->VK->Prop}(hr:SlR X r)(he:PE X e te)(hl:PO X lo tl)(hu:PO X hi th):PE X (.Subscript e (.Slice lo hi none p2) pos) (tSl r te tl th):=by
 intro pins s σ H Q I h
 refine Subscript_ (thn (he pins s σ H _ I h) fun v s1 ⟨x,H1,I1,r1,q1⟩=>?_)
 refine wpAny_Slice (thn (hl pins s1 σ H1 _ I1 q1) fun vl s2 ⟨l,H2,I2,pl,q2⟩=>thn (hu pins s2 σ H2 _ I2 q2) fun vu s3 ⟨u,H3,I3,pu,q3⟩=>?_)
 rw[evalPart_none]
 refine wpAny_pure ?_
 have I4:Inv X pins σ H3 { s3 with heap:=s3.heap.push { cls:=.type "slice",data:=.fields #[vl,vu,.none] } }:=I3.kept (t':=s3.toks) fun b ob q=>Heap.get?_push_of_some _ q
 obtain⟨T,id,hT,ht,hg⟩:=hr pins { s3 with heap:=s3.heap.push { cls:=.type "slice",data:=.fields #[vl,vu,.none] } } σ H3 x v vl vu l u s3.heap.objs.size Q I4 r1 (Heap.IsSliceOf.new ..) pl pu q3
 show wpAny (model X.prog X.w) X.A (subscriptTail e (.Slice lo hi none p2) v (.ref s3.heap.objs.size)) (EP X pins σ Q) X.xe { s3 with heap:=s3.heap.push { cls:=.type "slice",data:=.fields #[vl,vu,.none] } }
 exact tail_any (ops:=[.ref s3.heap.objs.size,v]) ht hT hg (by with_unfolding_all rfl)
def jW(xs:List V)(lo hi:Option Int):List V:=(xs.drop (HT.sIx xs.length 0 lo)).take (HT.sIx xs.length xs.length hi - HT.sIx xs.length 0 lo)
theorem gG(xs:List V)(lo hi:Option Int):(jW xs lo hi).length≤xs.length:=by
 unfold jW
 rw[List.length_take,List.length_drop]
 omega
def CG(K:PySem.W.Frag):V->Option Int->Option Int->Hp->VK->Prop:=fun x lo hi H Q=>∃a xs,x=.ref a/\SqT K H a xs /\
 ¬(HT.sIx xs.length 0 lo=0/\HT.sIx xs.length xs.length hi=xs.length)/\∀p,H p=none->Q (.ref p) (upd H p (.tup (jW xs lo hi)))
theorem qG:SlR X (CG X.K):=by
 intro pins s σ H x v vl vu lo hi sl Q I rx hs pl pu h
 obtain⟨a,xs,rfl,hx,hw,q⟩:=h
 cases rx
 obtain⟨its,r,ht,hz⟩:=I.tuple hx
 have hlen:its.toArray.size=xs.length:=by rw[List.size_toArray];exact r.length.symm
 refine⟨"tuple",_,PyProof.Rows.slot_tuple_getitem.lookup,ht.typeIs,?_⟩
 refine HT.fF ht hs pl pu (by rw[hlen];exact hw) ?_ (by rw[hlen];exact hz)
 rw[hlen]
 refine⟨.ref s.heap.objs.size,_,I.laid (t':=s.toks) (o:=.tup (jW xs lo hi)) (fun b ob q=>Heap.get?_push_of_some _ q) (Nat.le_refl _) ?_,rfl,q _ (I.hok.fresh (Nat.le_refl _))⟩
 exact⟨Nat.le_trans (gG xs lo hi) hz,_,(r.drop (HT.sIx xs.length 0 lo)).take (HT.sIx xs.length xs.length hi - HT.sIx xs.length 0 lo),IsTup.new _ _⟩
def Av(K:PySem.W.Frag):R2:=fun x y H Q=>∃a b xs ys,x=.ref a/\y=.ref b/\SqT K H a xs/\SqT K H b ys/\xs≠[]/\xs.length+ys.length≤sizeLine /\
 (ys=[]->Q (.ref a) H)/\(ys≠[]->∀p,H p=none->Q (.ref p) (upd H p (.tup (xs++ys))))
theorem Vals.nil_iff{xs:List V}{us:List Value}(r:Vals xs us):us=[]↔xs=[]:=by
 cases r with
 | nil=>simp
 | cons _ _=>simp
theorem uk:OpR X (binaryOp .Add) (Av X.K):=by
 intro pins s σ H x y v u Q I rx ry h
 obtain⟨a,b,xs,ys,rfl,rfl,ha,hb,hx,hz,q1,q2⟩:=h
 cases rx
 cases ry
 obtain⟨its,r1,p1,_⟩:=I.tuple ha
 obtain⟨its2,r2,p2,_⟩:=I.tuple hb
 refine HT.si p1 p2 (fun z=>hx (r1.nil_iff.mp z)) (fun z=>⟨.ref a,H,I,rfl,q1 (r2.nil_iff.mp z)⟩) (fun z=>?_) (by rw[←r1.length,← r2.length];exact hz)
 refine⟨.ref s.heap.objs.size,_,I.laid (t':=s.toks) (o:=.tup (xs++ys)) (fun b ob q=>Heap.get?_push_of_some _ q) (Nat.le_refl _) ?_,rfl,q2 (fun w=>z (r2.nil_iff.mpr w)) _ (I.hok.fresh (Nat.le_refl _))⟩
 exact⟨by rw[List.length_append];exact hz,_,r1.append r2,IsTup.new _ _⟩
end
end L2
namespace L2
open PySem PySem.Spec PyProof.Rows
def ixN(n:Nat)(i:Int):Option Nat:=if 0≤i then(if i<n then some i.toNat else none)else if -(n:Int)≤i then some (i+n).toNat else none
def atI{α:Type}(xs:List α)(i:Int):Option α:=(ixN xs.length i).bind fun j=>xs[j]?
theorem nT{n:Nat}{i:Int}{j:Nat}(h:ixN n i=some j):seqIndex? i n=some j/\j<n/\-(n:Int)≤i/\i<n:=by
 unfold ixN at h
 by_cases h0:0≤i
 ·rw[if_pos h0]at h
  by_cases h1:i<n
  ·rw[if_pos h1]at h
   have e:i.toNat=j:=Option.some.inj h
   exact⟨by rw[seqIndex_of h0 h1,e],by omega,by omega,h1⟩
  ·rw[if_neg h1]at h;cases h
 ·rw[if_neg h0]at h
  by_cases h1:-(n:Int)≤i
  ·rw[if_pos h1]at h
   have e:(i+n).toNat=j:=Option.some.inj h
   exact⟨by rw[seqIndex_neg (by omega) h1,e],by omega,h1,by omega⟩
  ·rw[if_neg h1]at h;cases h
theorem nB{α:Type}{xs:List α}{i:Int}{v:α}(h:atI xs i=some v):∃j,seqIndex? i xs.length=some j/\xs[j]?=some v/\j<xs.length/\-(xs.length:Int)≤i/\i<xs.length:=by
 unfold atI at h
 cases e:ixN xs.length i with
 | none=>rw[e]at h;cases h
 | some j =>
  rw[e]at h
  obtain⟨h1,h2,h3,h4⟩:=nT e
  exact⟨j,h1,h,h2,h3,h4⟩
def m3(b:Expr):Prop:=∀o i,subscripted b false o i=operate [o,i] (getItem o i)
def IxR(X:Cx)(r:R2):Prop :=
 ∀(value slice:Expr) (pins:List (Addr×Obj)) (s:Shared) (σ:St) (H:Hp) (x y:V) (v u:Value) (Q:VK),Inv X pins σ H s->RelV x v->RelV y u->r x y H Q ->
  subscripted slice false v u=operate [v,u] (getItem v u)->wpAny (model X.prog X.w) X.A (subscriptTail value slice v u) (EP X pins σ Q) X.xe s
def MtR(X:Cx)(id:String)(r:V->List V->Hp->VK->Prop):Prop :=
 ∀(pins:List (Addr×Obj)) (s:Shared) (σ:St) (H:Hp) (x:V) (xs:List V) (v:Value) (us:List Value) (Q:VK),Inv X pins σ H s->RelV x v->Vals xs us->r x xs H Q ->
  wpAny (model X.prog X.w) X.A (call (.builtin id) (v::us)) (EP X pins σ Q) X.xe s
section
variable {X:Cx}{a b:Expr}{ta tb:TE}{pos:Pos}
theorem IxR.or{r r':R2}(h:IxR X r)(h':IxR X r'):IxR X (fun x y H Q=>r x y H Q∨r' x y H Q):=by
 intro value slice pins s σ H x y v u Q I rx ry q hs
 rcases q with q | q
 ·exact h value slice pins s σ H x y v u Q I rx ry q hs
 ·exact h' value slice pins s σ H x y v u Q I rx ry q hs
theorem zQ{r:R2}(hr:IxR X r)(ha:PE X a ta)(hb:PE X b tb)(hs:m3 b):PE X (.Subscript a b pos) (tOp r ta tb):=by
 intro pins s σ H Q I h
 exact Subscript_ (xP ha hb I h fun v u s2 x y H2 I2 rx ry q=>hr a b pins s2 σ H2 x y v u Q I2 rx ry q (hs _ _))
def v5(K:PySem.W.Frag):R2:=fun x y H Q=>∃p xs i v,x=.ref p/\y=.int i/\SqL K H p xs/\atI xs i=some v/\Q v H
def yu(K:PySem.W.Frag):R2:=fun x y H Q=>∃p xs i v,x=.ref p/\y=.int i/\SqT K H p xs/\atI xs i=some v/\Q v H
theorem tT:IxR X (v5 X.K):=by
 intro value slice pins s σ H x y v u Q I rx ry h hs
 obtain⟨p,xs,i,z,rfl,rfl,hq,he,q⟩:=h
 cases rx
 obtain⟨t,rfl⟩:=ry
 obtain⟨its,r,pl,hz⟩:=I.list hq
 obtain⟨j,h1,h2,h3,h4,h5⟩:=nB he
 obtain⟨w,ew,rw'⟩:=r.get h2
 have hl:=r.length
 have hn:=jR
 have fin:EP X pins σ Q w s:=⟨z,H,I,rw',q⟩
 by_cases h0:0≤i
 ·have hj:i.toNat=j:=by
   rw[seqIndex_of h0 h5]at h1
   exact Option.some.inj h1
  exact item_listR pl.isList h0 (by omega) (by rw[hj];simpa using ew) fin hs
 ·have hj:(i+(its.toArray.size:Int)).toNat=j:=by
   rw[seqIndex_neg (by omega) h4]at h1
   rw[List.size_toArray,← hl]
   exact Option.some.inj h1
  exact subscriptTail_builtinR (x:=w) pl.isList.typeIs slot_list_getitem.lookup
   (wpAny_getItem_list_neg (Q:=fun r s'=>r=w/\EP X pins σ Q r s') pl.isList (by omega) (by rw[List.size_toArray]<;>omega) (by omega) (by rw[hj];simpa using ew) ⟨rfl,fin⟩) hs
theorem xn:IxR X (yu X.K):=by
 intro value slice pins s σ H x y v u Q I rx ry h hs
 obtain⟨p,xs,i,z,rfl,rfl,hq,he,q⟩:=h
 cases rx
 obtain⟨t,rfl⟩:=ry
 obtain⟨its,r,pl,hz⟩:=I.tuple hq
 obtain⟨j,h1,h2,h3,h4,h5⟩:=nB he
 obtain⟨w,ew,rw'⟩:=r.get h2
 have hl:=r.length
 have hn:=jR
 have fin:EP X pins σ Q w s:=⟨z,H,I,rw',q⟩
 exact subscriptTail_builtinR (x:=w) pl.typeIs slot_tuple_getitem.lookup
  (getItem_tuple (j:=j) (Q:=fun r s'=>r=w/\EP X pins σ Q r s') pl (by omega) (by omega) (by rw[List.size_toArray,← hl];exact h1) (by simpa using ew) ⟨rfl,fin⟩) hs
theorem lH(its:List Value)(n j:Nat)(u:Value):Obj.mapSeq (·.setIfInBounds j u) { cls:=.type "list",data:=.seq its.toArray n }={ cls:=.type "list",data:=.seq (its.set j u).toArray n }:=by
 simp[Obj.mapSeq]
theorem Inv.lst{pins:List (Addr×Obj)}{σ:St}{H:Hp}{s:Shared}{p:Addr}{xs:List V}(I:Inv X pins σ H s)(h:H p=some (.lst xs)) :
  ∃(its:List Value) (n:Nat),Vals xs its/\s.heap.get? p=some { cls:=.type "list",data:=.seq its.toArray n }/\xs.length≤sizeLine:=by
 obtain⟨z,its,n,r,e⟩:=I.hok p _ h
 exact⟨its,n,r,e,z⟩
theorem Inv.lstUpd{pins:List (Addr×Obj)}{σ:St}{H:Hp}{s:Shared}{p:Addr}{xs ys:List V}{its its':List Value}{n n':Nat}{f:Obj->Obj}(I:Inv X pins σ H s)(h:H p=some (.lst xs))
  (ho:s.heap.get? p=some { cls:=.type "list",data:=.seq its.toArray n }) (hf:f { cls:=.type "list",data:=.seq its.toArray n }={ cls:=.type "list",data:=.seq its'.toArray n' }) (r:Vals ys its') (hz:ys.length≤sizeLine) (t:Nat) :
  Inv X pins σ (upd H p (.lst ys)) { s with heap:=s.heap.update p f,toks:=t }:=by
 have e:(s.heap.update p f).get? p=some { cls:=.type "list",data:=.seq its'.toArray n' }:=by
  rw[Heap.get?_update_self f ho (by rw[hf]<;>rfl),hf]
 refine I.write (x:=p) (e:=p) (by rw[h];trivial) (.inl rfl) (fun b u hb q=>(Heap.get?_update_other _ _ (Ne.symm hb)).trans q) ⟨_,e⟩ ?_
 exact⟨hz,its',n',r,e⟩
def AE:V->V->V->Hp->(Hp->Prop)->Prop:=fun o i v H Q=>∃p xs k j,o=.ref p/\i=.int k/\H p=some (.lst xs)/\ixN xs.length k=some j/\Q (upd H p (.lst (xs.set j v)))
theorem set_list:iR X AE:=by
 intro pins s σ H o i v ov iv u Q I ro ri rv h
 obtain⟨p,xs,k,j,rfl,rfl,hp,hj,q⟩:=h
 cases ro
 obtain⟨t,rfl⟩:=ri
 obtain⟨its,n,r,ho,hz⟩:=I.lst hp
 obtain⟨h1,h2,h3,h4⟩:=nT hj
 have hl:=r.length
 have hn:=jR
 have I':Inv X pins σ (upd H p (.lst (xs.set j v))) { s with heap:=s.heap.update p (Obj.mapSeq (·.setIfInBounds j u)) } :=
  I.lstUpd hp ho (lH its n j u) (r.set rv j) (by rw[List.length_set];exact hz) s.toks
 by_cases h0:0≤k
 ·have hk:k.toNat=j:=by
   rw[seqIndex_of h0 h4]at h1
   exact Option.some.inj h1
  exact PySem.W.ki_setAt ho h0 (by omega) (by rw[List.size_toArray,← hl];exact h4) (by rw[hk];exact⟨_,I',q⟩)
 ·have hk:(k+(its.toArray.size:Int)).toNat=j:=by
   rw[seqIndex_neg (by omega) h3]at h1
   rw[List.size_toArray,← hl]
   exact Option.some.inj h1
  exact PySem.W.ki_setBack ho (by omega) (by rw[List.size_toArray,← hl];exact h3) (by omega) (by rw[hk];exact⟨_,I',q⟩)
theorem jV(lo hi:Option Int)(n:Nat):(sliceBounds lo hi none n).1=((HT.sIx n 0 lo:Nat):Int)/\(sliceBounds lo hi none n).2.1=((HT.sIx n n hi:Nat):Int)/\(sliceBounds lo hi none n).2.2=1:=by
 refine⟨?_,?_,rfl⟩
 ·cases lo with
  | none=>simp[sliceBounds,HT.sIx]
  | some i =>
   simp only[sliceBounds,HT.sIx,Option.getD_none,show(1:Int)>0 by decide,if_true]
   by_cases h:i<0
   ·simp only[h,if_true]<;>omega
   ·simp only[h,if_false]<;>omega
 ·cases hi with
  | none=>simp[sliceBounds,HT.sIx]
  | some i =>
   simp only[sliceBounds,HT.sIx,Option.getD_none,show(1:Int)>0 by decide,if_true]
   by_cases h:i<0
   ·simp only[h,if_true]<;>omega
   ·simp only[h,if_false]<;>omega
theorem iV(its:List Value)(lo hi:Option Int):slicePick its.toArray lo hi none=((its.drop (HT.sIx its.length 0 lo)).take (HT.sIx its.length its.length hi - HT.sIx its.length 0 lo)).toArray:=by
 obtain⟨h1,h2,h3⟩:=jV lo hi its.toArray.size
 unfold slicePick
 rw[h1,h2,h3]
 simp only[sliceRange_one,pick_run,List.size_toArray]<;>rfl
def BY(K:PySem.W.Frag):V->Option Int->Option Int->Hp->VK->Prop:=fun x lo hi H Q=>∃a xs,x=.ref a/\SqL K H a xs/\∀p,H p=none->Q (.ref p) (upd H p (.lst (jW xs lo hi)))
theorem uT:SlR X (BY X.K):=by
 intro pins s σ H x v vl vu lo hi sl Q I rx hs pl pu h
 obtain⟨a,xs,rfl,hx,q⟩:=h
 cases rx
 obtain⟨its,r,ht,hz⟩:=I.list hx
 have hlen:=r.length
 refine⟨"list",_,slot_list_getitem.lookup,ht.isList.typeIs,?_⟩
 refine wpAny_getItem_list_slice ht.isList hs pl pu .none (by simp) ?_ (by rw[List.size_toArray]<;>omega)
 rw[iV,← hlen]
 refine⟨.ref s.heap.objs.size,_,I.laid (t':=s.toks) (o:=.lst (jW xs lo hi)) (fun b ob q=>Heap.get?_push_of_some _ q) (Nat.le_refl _) ?_,rfl,q _ (I.hok.fresh (Nat.le_refl _))⟩
 exact⟨Nat.le_trans (gG xs lo hi) hz,_,0,(r.drop (HT.sIx xs.length 0 lo)).take (HT.sIx xs.length xs.length hi - HT.sIx xs.length 0 lo),Heap.get?_push_size _ rfl⟩
def eqV:V->V->Bool
 | .non,.non=>true
 | .bl a,.bl b=>a==b
 | .bl a,.int b=>(if a then 1 else 0)==b
 | .int a,.bl b=>a==(if b then 1 else 0)
 | .int a,.int b=>a==b
 | .str a,.str b=>a==b
 | _,_=>false
def inV(x:V)(xs:List V):Bool:=xs.any fun y=>eqV y x
theorem aD:cb X (.builtin "len") (fun xs H Q=>∃p ys,xs=[.ref p]/\(SqL X.K H p ys∨SqT X.K H p ys)/\Q (.int ys.length) H):=by
 intro pins s σ H xs us Q I r h
 obtain⟨p,ys,rfl,hq,q⟩:=h
 obtain⟨u,rfl,rx⟩:=vals1 r
 cases rx
 have hn:=jR
 rcases hq with hq | hq
 ·obtain⟨its,r',pl,hz⟩:=I.list hq
  have hlen:=r'.length
  exact Calls.call_len_list pl.isList (by simp only[List.size_toArray]<;>omega) ⟨.int ys.length,H,I.tok _,⟨s.toks+1,by rw[List.size_toArray,hlen]⟩,q⟩
 ·obtain⟨its,r',pl,hz⟩:=I.tuple hq
  have hlen:=r'.length
  exact len_tuple pl (by simp only[List.size_toArray]<;>omega) ⟨.int ys.length,H,I.tok _,⟨s.toks+1,by rw[List.size_toArray,hlen]⟩,q⟩
theorem b9:cb X (.type "list") (fun xs H Q=>∃p ys,xs=[.ref p]/\(SqL X.K H p ys∨SqT X.K H p ys)/\∀l,H l=none->Q (.ref l) (upd H l (.lst ys))):=by
 intro pins s σ H xs us Q I r h
 obtain⟨p,ys,rfl,hq,q⟩:=h
 obtain⟨u,rfl,rx⟩:=vals1 r
 cases rx
 have fin:∀(its:List Value),Vals ys its->ys.length≤sizeLine->∀(h':Heap) (c':Nat),(∀b o',s.heap.get? b=some o'->h'.get? b=some o') ->
   h'.get? s.heap.objs.size=some { cls:=.type "list",dict:=none,data:=.seq its.toArray c',slots:=#[] }->EP X pins σ Q (.ref s.heap.objs.size) { s with heap:=h' }:=fun its r' hz h' c' kp e =>
  ⟨.ref s.heap.objs.size,_,I.laid (t':=s.toks) kp (Nat.le_refl _) (show bQ X.prog X.w _ h' _ (.lst ys)from⟨hz,its,c',r',e⟩),rfl,q _ (I.hok.fresh (Nat.le_refl _))⟩
 rcases hq with hq | hq
 ·obtain⟨its,r',pl,hz⟩:=I.list hq
  have hlen:=r'.length
  obtain⟨o,ho,hc,n,hd⟩:=pl.isList
  exact call_list_seq p (.inl rfl) ho hc hd (fun h' c' kp e=>fin its r' hz h' c' kp e) (by simp only[List.size_toArray]<;>omega)
 ·obtain⟨its,r',pl,hz⟩:=I.tuple hq
  have hlen:=r'.length
  obtain⟨o,ho,hc,n,hd⟩:=pl
  exact call_list_seq p (.inr rfl) ho hc hd (fun h' c' kp e=>fin its r' hz h' c' kp e) (by simp only[List.size_toArray]<;>omega)
theorem aL:cb X (.type "tuple") (fun xs H Q=>∃p ys,xs=[.ref p]/\((SqL X.K H p ys/\∀l,H l=none->Q (.ref l) (upd H l (.tup ys)))∨(SqT X.K H p ys/\Q (.ref p) H))):=by
 intro pins s σ H xs us Q I r h
 obtain⟨p,ys,rfl,h⟩:=h
 obtain⟨u,rfl,rx⟩:=vals1 r
 cases rx
 rcases h with⟨hq,q⟩ |⟨hq,q⟩
 ·obtain⟨its,r',pl,hz⟩:=I.list hq
  have hlen:=r'.length
  refine call_tuple_list pl.isList (fun h' kp=>?_) (by simp only[List.size_toArray]<;>omega)
  have I1:Inv X pins σ H { s with heap:=h' }:=I.kept (t':=s.toks) kp
  have I2:Inv X pins σ (upd H h'.objs.size (.tup ys)) { s with heap:=h'.push { cls:=.type "tuple",data:=.seq its.toArray } } :=
   I1.laid (t':=s.toks) (fun b o e=>Heap.get?_push_of_some _ e) (Nat.le_refl _) (show bQ X.prog X.w _ _ _ (.tup ys)from⟨hz,its,r',IsTup.new _ _⟩)
  exact⟨.ref h'.objs.size,_,I2,rfl,q _ (I1.hok.fresh (Nat.le_refl _))⟩
 ·obtain⟨its,r',pl,hz⟩:=I.tuple hq
  exact call_tuple_same pl ⟨.ref p,H,I,rfl,q⟩
def tyV(K:PySem.W.Frag)(T:String)(x:V)(H:Hp):Prop:=match x with
 | .str _=>T="str"
 | .int _=>T="int"
 | .ref p=>(T="list"/\∃xs,SqL K H p xs)∨(T="tuple"/\∃o,K.lookup p=some o/\o.cls=.type "tuple"/\o.dict=none) ∨
   (T="dict"/\((∃kvs,H p=some (.dK kvs))∨∃kvs,H p=some (.dT kvs)))∨(T="set"/\∃S n,H p=some (.set S n))
 | _=>False
theorem qE{pins:List (Addr×Obj)}{σ:St}{H:Hp}{s:Shared}{T:String}{x:V}{v:Value}(I:Inv X pins σ H s)(r:RelV x v)(ty:tyV X.K T x H) :
  s.TypeIs v T/\∀a,v=.ref a->∃ob,s.heap.get? a=some ob/\ob.dict=none:=by
 cases x with
 | str z =>
  obtain⟨t,rfl⟩:=r
  cases (show T="str" from ty)
  exact⟨typeIs_str s z t,fun _ e=>nomatch e⟩
 | int i =>
  obtain⟨t,rfl⟩:=r
  cases (show T="int" from ty)
  exact⟨typeIs_int s i t,fun _ e=>nomatch e⟩
 | ref p =>
  cases r
  rcases ty with⟨rfl,xs,hq⟩ |⟨rfl,o,hk,hc,hd⟩ |⟨rfl,hk⟩ |⟨rfl,S,n,hk⟩
  ·obtain⟨its,_,pl,_⟩:=I.list hq
   refine⟨pl.isList.typeIs,fun a e=>?_⟩
   cases e
   obtain⟨o,n,e,c,hd,_⟩:=pl
   exact⟨o,e,hd⟩
  ·refine⟨⟨o,I.kIn p o hk,hc⟩,fun a e=>?_⟩
   cases e
   exact⟨o,I.kIn _ o hk,hd⟩
  ·have z:∃o,s.heap.get? p=some o/\o.ExactDict:=by
    rcases hk with⟨kvs,hk⟩ |⟨kvs,hk⟩
    ·obtain⟨_,_,_,_,o,_,_,e,ex,_⟩:=I.hok p _ hk
     exact⟨o,e,ex⟩
    ·obtain⟨_,_,_,_,o,_,_,e,ex,_⟩:=I.hok p _ hk
     exact⟨o,e,ex⟩
   obtain⟨o,e,ex⟩:=z
   refine⟨⟨o,e,ex.1⟩,fun a e2=>?_⟩
   cases e2
   exact⟨o,e,ex.2.1⟩
  ·obtain⟨o,_,_,_,e,ex,_⟩:=I.hok p _ hk
   refine⟨⟨o,e,ex.1⟩,fun a e2=>?_⟩
   cases e2
   exact⟨o,e,ex.2.1⟩
 | _=>exact False.elim ty
def B2(K:PySem.W.Frag)(T:String)(r:V->List V->Hp->VK->Prop)(to:TE):TE:=fun σ H Q=>to σ H fun x H1=>tyV K T x H1/\r x [] H1 Q
def tBM(K:PySem.W.Frag)(T:String)(r:V->List V->Hp->VK->Prop)(to:TE)(t:TA):TE:=fun σ H Q=>to σ H fun x H1=>tyV K T x H1/\t σ H1 fun xs H2=>r x xs H2 Q
variable {o e:Expr}{es:List Expr}{to:TE}{t:TA}{name:Str}{apos cpos:Pos}{T id:String}{r:V->List V->Hp->VK->Prop}
theorem vV(pa:PlainAttrs T)(slot:Slot T name id)(hty:typeOf (.builtin id)=pure (.type "method_descriptor"))(hm:MtR X id r)(ho:PE X o to)
  (hbase:attributeBase o name X.env (eval o X.env)=eval o X.env:=by rfl) (hline:(apos.endLine==cpos.line)=true:=by rfl):PE X (.Call (.Attribute o name apos) [] [] cpos) (B2 X.K T r to):=by
 intro pins s σ H Q I h
 refine wpAny_Call_method0_late hbase hline (thn (ho pins s σ H _ I h) fun v s1 ⟨x,H1,I1,r1,ty,q1⟩=>?_)
 obtain⟨h1,h2⟩:=qE I1 r1 ty
 exact⟨T,id,pa,slot,hty,h1,h2,Calls.callWith_builtin rfl (PySem.evalArgs_none (hm pins s1 σ H1 x [] v [] Q I1 r1 .nil q1))⟩
theorem AU(pa:PlainAttrs T)(slot:Slot T name id)(hty:typeOf (.builtin id)=pure (.type "method_descriptor"))(hm:MtR X id r)(ho:PE X o to)(ha:PA X (e::es) t)
  (hbase:attributeBase o name X.env (eval o X.env)=eval o X.env:=by rfl)
  (hfew:((backTo cpos (starEach (e::es) X.env)).all (fun x=>!x.1)&&(backToKw cpos (keywordEach [] X.env)).all (fun x=>x.1.isSome)
   && decide ((e::es).length+([]:List Keyword).length+(if ([]:List Keyword).isEmpty then 0 else 1)<30))=true:=by rfl)
  (hline:(apos.endLine==cpos.line)=true:=by rfl) (hs:starEach (e::es) X.env=(false,eval e X.env)::starEach es X.env:=by rfl) (hplain:(backTo cpos (starEach es X.env)).any (·.1)=false:=by rfl) :
  PE X (.Call (.Attribute o name apos) (e::es) [] cpos) (tBM X.K T r to t):=by
 intro pins s σ H Q I h
 refine wpAny_Call_method_late hbase hfew hline rfl (thn (ho pins s σ H _ I h) fun v s1 ⟨x,H1,I1,r1,ty,q1⟩=>?_)
 obtain⟨h1,h2⟩:=qE I1 r1 ty
 refine⟨T,id,pa,slot,hty,h1,h2,?_⟩
 have hA:=ha cpos pins s1 σ H1 _ I1 q1
 rw[hs]at hA ⊢
 refine Calls.callWith_builtin (by show(false||(backTo cpos (starEach es X.env)).any (·.1))=false;rw[hplain]<;>rfl) (Calls.evalArgs_plain ?_)
 exact thn hA fun us s2 ⟨vs,H2,I2,r2,q2⟩=>hm pins s2 σ H2 x vs v us Q I2 r1 r2 q2
/- xs.append(e),list.index on a module's tuple .. are MtR facts of 06m -/
end
end L2
namespace L2
open PySem PySem.Spec PyProof.Rows
def MtM(X:Cx)(id:String)(r:V->List V->Hp->VK->Prop):Prop :=
 ∀(pins:List (Addr×Obj)) (s:Shared) (σ:St) (H:Hp) (x:V) (xs:List V) (v:Value) (us:List Value) (Q:VK),Inv X pins σ H s->RelV x v->Vals xs us->r x xs H Q ->
  wpAny (model X.prog X.w) X.A (call (.builtin id) (v::us)) (EP X pins σ Q) X.xe s
theorem Vals.one:∀{x:V} {us:List Value},Vals [x] us->∃u,us=[u]/\RelV x u
 | _,_,.cons r .nil=>⟨_,rfl,r⟩
theorem Vals.zero:∀{us:List Value},Vals [] us->us=[]
 | _,.nil=>rfl
theorem Vals.dropLast{xs:List V}{us:List Value}(h:Vals xs us):Vals xs.dropLast us.dropLast:=by
 induction h with
 | nil=>exact .nil
 | cons r t ih =>
  cases t with
  | nil=>exact .nil
  | cons q t'=>exact .cons r ih
theorem mE{α:Type}(l:List α):l.eraseIdx (l.length - 1)=l.dropLast:=by
 induction l with
 | nil=>rfl
 | cons a r ih =>
  cases r with
  | nil=>rfl
  | cons b r =>
   have e:(a::b::r).length - 1=((b::r).length - 1)+1:=by
    have h1:(a::b::r).length=r.length+2:=rfl
    have h2:(b::r).length=r.length+1:=rfl
    omega
   rw[e,List.eraseIdx_cons_succ,ih]
   all_goals rfl
section
variable {X:Cx}{pins:List (Addr×Obj)}{σ:St}{H:Hp}{s:Shared}{l b:Addr}{xs ys zs:List V}
theorem Inv.lset{its its':List Value}{n:Nat}{f:Array Value->Array Value}{t':Nat}(I:Inv X pins σ H s)(hH:H l=some (.lst xs))
  (e:s.heap.get? l=some { cls:=.type "list",data:=.seq its.toArray n }) (hf:f its.toArray=its'.toArray) (hv:Vals ys its') (hz:ys.length≤sizeLine) :
  Inv X pins σ (upd H l (.lst ys)) { s with heap:=s.heap.update l (Obj.mapSeq f),toks:=t' }:=by
 have q:=PySem.IsL.update e f
 rw[hf]at q
 refine I.write (x:=l) (e:=l) (by rw[hH];exact trivial) (.inl rfl) (fun b' u hb hu=>(Heap.get?_update_other s.heap (Obj.mapSeq f) (Ne.symm hb)).trans hu) ⟨_,q⟩ ?_
 exact⟨hz,its',_,hv,q⟩
theorem Inv.lnew{its:List Value}{t':Nat}(I:Inv X pins σ H s)(hv:Vals ys its)(hz:ys.length≤sizeLine) :
  Inv X pins σ (upd H s.heap.objs.size (.lst ys)) { s with heap:=s.heap.push { cls:=.type "list",data:=.seq its.toArray },toks:=t' } :=
 I.laid (fun _ _ q=>Heap.get?_push_of_some _ q) (Nat.le_refl _) ⟨hz,its,0,hv,Heap.get?_push_size _ rfl⟩
theorem Inv.fresh(I:Inv X pins σ H s):H s.heap.objs.size=none:=I.hok.fresh (Nat.le_refl _)
theorem Inv.lstM(I:Inv X pins σ H s)(hH:H l=some (.lst xs)):xs.length≤sizeLine/\∃(its:List Value) (n:Nat),Vals xs its/\xs.length=its.length/\s.heap.get? l=some { cls:=.type "list",data:=.seq its.toArray n }:=by
 obtain⟨z,its,n,r,e⟩:=I.hok l _ hH
 exact⟨z,its,n,r,r.length,e⟩
theorem kr{n:Nat}(h:n≤sizeLine):Builtin.List.listTooLong n=false:=by
 unfold Builtin.List.listTooLong
 exact decide_eq_false (by omega)
end
section
variable {X:Cx}
def nJ:V->List V->Hp->VK->Prop:=fun x vs H Q=>∃l xs y,x=.ref l/\vs=[y]/\H l=some (.lst xs)/\xs.length<sizeLine/\Q .non (upd H l (.lst (xs++[y])))
theorem bT:MtM X "list.append" nJ:=by
 intro pins s σ H x vs v us Q I rx rv h
 obtain⟨l,xs,y,rfl,rfl,hH,hz,q⟩:=h
 cases rx
 obtain⟨u,rfl,ru⟩:=rv.one
 obtain⟨z,its,n,r,hl,e⟩:=I.lstM hH
 refine call_meets F.slot_list_append ⟨_,e,rfl⟩ F.entry_list_append (F.args_list_append_2 _ _) (PySem.list_append l its.toArray n u (by rw[List.size_toArray];omega)) ⟨e,?_⟩
 refine⟨.non,_,I.lset (its':=its++[u]) hH e (by simp) (r.append (.cons ru .nil)) ?_,rfl,q⟩
 rw[List.length_append,List.length_singleton]
 omega
def mK:V->List V->Hp->VK->Prop:=fun x vs H Q=>∃l b xs zs,x=.ref l/\vs=[.ref b]/\H l=some (.lst xs)/\H b=some (.lst zs)/\xs.length+zs.length≤sizeLine/\Q .non (upd H l (.lst (xs++zs)))
theorem cH:MtM X "list.extend" mK:=by
 intro pins s σ H x vs v us Q I rx rv h
 obtain⟨l,b,xs,zs,rfl,rfl,hH,hB,hz,q⟩:=h
 cases rx
 obtain⟨u,rfl,ru⟩:=rv.one
 cases ru
 obtain⟨z,its,n,r,hl,e⟩:=I.lstM hH
 obtain⟨z2,its2,n2,r2,hl2,e2⟩:=I.lstM hB
 have hsz:its.toArray.size+its2.toArray.size≤sizeLine:=by rw[List.size_toArray,List.size_toArray];omega
 have hlong:¬(!its.toArray.isEmpty&&Builtin.List.listTooLong (its.toArray.size+its2.toArray.size))=true:=by
  rw[kr hsz,Bool.and_false]
  exact Bool.false_ne_true
 refine call_meets F.slot_list_extend ⟨_,e,rfl⟩ F.entry_list_extend (F.args_list_extend_2 _ _)
  (AutoSeq1.list_extend_list_list_0 l its.toArray n b its2.toArray n2 hlong (by rw[List.size_toArray];omega) (by omega)) ⟨e,e2,?_⟩
 refine⟨.non,_,I.lset (its':=its++its2) hH e (by simp) (r.append r2) ?_,rfl,q⟩
 rw[List.length_append]
 omega
def zl:V->List V->Hp->VK->Prop:=fun x vs H Q=>∃l xs y,x=.ref l/\vs=[]/\H l=some (.lst xs)/\xs[xs.length - 1]?=some y/\Q y (upd H l (.lst xs.dropLast))
theorem xZ:MtM X "list.pop" zl:=by
 intro pins s σ H x vs v us Q I rx rv h
 obtain⟨l,xs,y,rfl,rfl,hH,hy,q⟩:=h
 cases rx
 have hus:=rv.zero
 subst hus
 obtain⟨z,its,n,r,hl,e⟩:=I.lstM hH
 obtain⟨u,hu,ru⟩:=r.get hy
 have hy':its.toArray[its.toArray.size - 1]?=some u:=by
  show its.toArray[its.length - 1]?=some u
  rw[←Array.getElem?_toList,← hl]
  exact hu
 refine call_meets F.slot_list_pop ⟨_,e,rfl⟩ F.entry_list_pop (F.args_list_pop_1 _) (MeetsSeq.list_pop_last l its.toArray n u hy' (by rw[List.size_toArray];omega)) ⟨e,?_⟩
 refine⟨y,_,I.lset (its':=its.dropLast) hH e ?_ r.dropLast ?_,ru,q⟩
 ·show its.toArray.eraseIdxIfInBounds (its.toArray.size - 1)=its.dropLast.toArray
  rw[List.size_toArray,List.eraseIdxIfInBounds_toArray,mE]
 ·rw[List.length_dropLast]
  omega
def qS:V->List V->Hp->VK->Prop:=fun x vs H Q=>∃l xs,x=.ref l/\vs=[]/\H l=some (.lst xs)/\Q .non (upd H l (.lst []))
theorem fb:MtM X "list.clear" qS:=by
 intro pins s σ H x vs v us Q I rx rv h
 obtain⟨l,xs,rfl,rfl,hH,q⟩:=h
 cases rx
 have hus:=rv.zero
 subst hus
 obtain⟨z,its,n,r,hl,e⟩:=I.lstM hH
 refine call_meets F.slot_list_clear ⟨_,e,rfl⟩ F.entry_list_clear (F.args_list_clear_1 _) (AutoSeq1.list_clear_list_0 l its.toArray n (by rw[List.size_toArray];omega)) ⟨e,?_⟩
 exact⟨.non,_,I.lset (its':=[]) (ys:=[]) hH e rfl .nil (Nat.zero_le _),rfl,q⟩
def zy:R2:=fun x y H Q=>∃l b xs zs,x=.ref l/\y=.ref b/\H l=some (.lst xs)/\H b=some (.lst zs)/\xs.length+zs.length≤sizeLine/\∀p,H p=none->Q (.ref p) (upd H p (.lst (xs++zs)))
theorem wb:OpR X (binaryOp .Add) zy:=by
 intro pins s σ H x y v u Q I rx ry h
 obtain⟨l,b,xs,zs,rfl,rfl,hH,hB,hz,q⟩:=h
 cases rx
 cases ry
 obtain⟨z,its,n,r,hl,e⟩:=I.lstM hH
 obtain⟨z2,its2,n2,r2,hl2,e2⟩:=I.lstM hB
 refine PySem.P.add_list e e2 ?_ (by rw[List.size_toArray,List.size_toArray];omega)
 have ea:its.toArray++its2.toArray=(its++its2).toArray:=by simp
 rw[ea]
 exact⟨.ref _,_,I.lnew (t':=s.toks) (r.append r2) (by rw[List.length_append];omega),rfl,q _ I.fresh⟩
end
section
variable {prog:Program}{w:World}{A:Around}{E:Value->Shared->Prop}{s:Shared}
end
section
variable {X:Cx}
end
end L2
namespace Att
open PySem PySem.W PySem.Calls PyProof.Rows
theorem gN{P:Params}{h:Heap}:∀(ns:List Int) (vs:List Value),WellAll P h vs (ns.map WData.int)->IntsAre vs ns:=by
 intro ns
 induction ns with
 | nil =>
  intro vs w
  rw[List.map_nil]at w
  cases w
  exact .nil
 | cons n ns ih =>
  intro vs w
  rw[List.map_cons]at w
  cases w with
  | cons a b =>
   cases a
   exact .cons _ _ (ih _ b)
theorem oT{l:OpenLaw}{n:Nat}(hn:l.most=some n){P:Params}{h:Heap}{args:List WData}{vals:List Value}
  (hpre:l.row.toRowW.claim.pre args=true) (hwl:WellAll P h vals args) :
  ∃a vs ns,vals=[Value.ref a]/\args=[WData.list (ns.map WData.int)]/\h.get? a=some { cls:=.type "list",data:=.seq vs.toArray }/\IntsAre vs ns/\ns.length≤n:=by
 have hsh:WShape.hasAll [] args [.list .int]=true:=(pre_splitW hpre).1
 have hc:l.pre.holds [] { args:=args }=true:=(pre_splitW hpre).2
 obtain⟨d,r,rfl,h1,h2⟩:=hasAllW_cons hsh
 obtain rfl:=hasAllW_nil h2
 obtain⟨xs,rfl,h3⟩:=hasW_list h1
 obtain⟨ns,rfl⟩:=items_int h3
 have hlen:ns.length≤n:=by
  unfold OpenLaw.pre at hc
  have h4:(WTm.not (.lt (.lit (.int (n:Int))) (.len (.arg 0)))).holds [] { args:=[.list (ns.map .int)] }=true:=by
   have h4:=(holds_andW hc).1
   rw[hn]at h4
   exact h4
  have h5:=condW_of h4 (w_not (w_lt w_lit (w_len_list (w_arg rfl))))
  rw[List.length_map]at h5
  refine Nat.le_of_not_lt fun q=>?_
  have q':(n:Int)<((ns.length:Nat):Int):=by omega
  first
   |(rw[decide_eq_true q']at h5;exact absurd h5 (by decide))
   |(simp at h5;omega)
 cases hwl with
 | cons w1 w2 =>
  cases w2
  cases w1 with
  | list ho hall=>exact⟨_,_,ns,rfl,rfl,ho,gN ns _ hall,hlen⟩
theorem nZ(l:OpenLaw)(args:List WData):l.row.toRowW.claim.post args (.bool true) args=true :=
 postW_of (r:=l.row.toRowW) (X:=(true==true))
  (show WShape.has [] (.bool true) .bool=true by first | rfl | decide | simp[WShape.has,WShape.arms,WShape.armsAll])
  (show(WTm.eq .res (.lit (.bool true))).value [] { args:=args,res:=some (.bool true),after:=args }=some (.bool (true==true))from w_eq_bool (w_res rfl) w_lit) rfl
theorem lp{l:OpenLaw}{n:Nat}{q:Program}{loose:List Str}{XP:(Str->Option Value)->Heap->Prop}{YP:World->Heap->Prop}{d:DefRec}
  (hn:l.most=some n) (hdf:d.params.defaults=[])
  (call:∀(w:World) (s₀ s₁:Shared) (mg mb:Str->Option Value) (fa:Addr) (o:Obj) (pm cd doc:Value) (a:Addr) (vs:List Value) (ns:List Int),
   Ground q loose [] XP w s₀ mg mb s₁.heap->YP w s₁.heap ->
   s₁.heap.get? fa=some o->o.data=.func (docDef d.name d.params d.body d.scope pm cd doc)->s₁.heap.CodeRec cd d.name->mg d.name=some (.ref fa) ->
   s₁.heap.get? a=some { cls:=.type "list",data:=.seq vs.toArray }->IntsAre vs ns->ns.length≤n->s₁.gens=#[] ->
   codeAny (model l.prog w) callerA (.call (.ref fa) ⟨[.ref a],[]⟩) (fun r s'=>r=.ok (.ret (.bool true))/\OldK s₁.heap s'.heap/\s'.os=s₁.os/\AllBare s'.gens) s₁) :
  WalkO q loose XP YP l.row.toRowW d [] (fun f vs=>PySem.call f vs):=by
 intro w s₀ s₁ mg mb G Y fa o pm cd doc dV kV ho hd hcd hD hmg hg args vals as hpre hlay hrd hwl hlo
 obtain rfl:dV=.none:=Dflts.none hD hdf
 obtain rfl:kV=.none:=Dflts.noKw hD
 obtain⟨a,vs,ns,rfl,rfl,hobj,hints,hlen⟩:=oT hn hpre hwl
 refine enter_call (codeAny_mono (call w s₀ s₁ mg mb fa o pm cd doc a vs ns G Y ho (fd_plain hd) hcd hmg hobj hints hlen hg) fun r s' hq=>?_)
 obtain⟨rfl,h2,h3,h4⟩:=hq
 exact⟨.inl ⟨.bool true,.bool true,[],rfl,fun _=>rfl,.bool true,nZ l _,fun _=>⟨List.Pairwise.nil,fun _ hm=>(nomatch hm)⟩⟩,h2,h3,h4⟩
section
variable {prog:Program}{w:World}{A:Around}{E:Value->Shared->Prop}{s:Shared}{K:Frag}
def ledger(h:Heap)(L d:Addr):List (Addr×Obj):=(List.range h.objs.size).filterMap fun a=>if a=L∨a=d then none else(h.get? a).map fun o=>(a,o)
end
end Att
namespace L2
open PySem PySem.Spec PyProof.Rows
theorem gv:∀{vs:List Value} {ns:List Int},IntsAre vs ns->Vals (ns.map V.int) vs
 | _,_,.nil=>.nil
 | _,_,.cons n t h=>.cons ⟨t,rfl⟩ (gv h)
def oE(H:Hp):Prop:=∀b,H b=none∨∃o xs,H b=some (.frz o (.lst xs))
theorem rq{P:Program}{w:World}{K:PySem.W.Frag}{mg mb:Str->Option Value}{CX:CXT}{k:Nat}{fa a:Addr}{fd:FuncData}{x:Str}{sp:Sp}{s₁:Shared}{vs:List Value}{ns:List Int}
  (KX:K.In s₁.heap) (hns:s₁.heap.Ns mainGlobals mg) (hb:s₁.heap.Ns builtinsNs mb) (hbb:∀x:Str,x≠"__name__"->mb x=bootBuiltins x) (hlim:s₁.heap.NoLimit) (hg:s₁.gens=#[])
  (ha:s₁.heap.get? a=some { cls:=.type "list",data:=.seq vs.toArray }) (hi:IntsAre vs ns) (hl:ns.length≤sizeLine) (hr:cf k callerA)
  (F:∀base:Heap,K.In base->base.Ns mainGlobals mg->iJ P w K mg base CX k fa fd [x] sp) (hbind:∀(s:Shared) (u:Value),BindsTo s fd ⟨[u],[]⟩ [(x,u)])
  (hsp:∀H:Hp,oE H->SqL K H a (ns.map V.int)->sp [.ref a] H (fun v _=>v=.bl true) fun _ _ _=>False)
  (hCX:∀H e s',CX [] H s₁ (fun _ _ _=>False) e s'->False) :
  codeAny (model P w) callerA (.call (.ref fa) ⟨[.ref a],[]⟩) (fun r s'=>r=.ok (.ret (.bool true))/\OldK s₁.heap s'.heap/\s'.os=s₁.os/\AllBare s'.gens) s₁:=by
 have rv:=gv hi
 have lenV:=hi.length
 -- from an abstract heap in which nothing but the script may be tracked
 have core:∀H:Hp,oE H->SqL K H a (ns.map V.int)->HOk P w H s₁.heap->(∀b,H b≠none->b=a)->(H a≠none->K.lookup a=none) ->
   codeAny (model P w) callerA (.call (.ref fa) ⟨[.ref a],[]⟩) (fun r s'=>r=.ok (.ret (.bool true))/\OldK s₁.heap s'.heap/\s'.os=s₁.os/\AllBare s'.gens) s₁:=by
  intro H hO hS hok hA hK
  have base_of:∀{b:Addr} {o:Obj},s₁.heap.get? b=some o->H b=none->(jx s₁.heap H).get? b=some o:=fun e n=>rR e n
  have noA:∀{b:Addr} {o:Obj} {es:Array DictEntry} {ep:Nat},s₁.heap.get? b=some o->o.data=.dict es ep->H b=none:=fun {b o es ep} e d=>by
   cases q:H b with
   | none=>rfl
   | some u =>
    have e':b=a:=hA b (by rw[q];simp)
    subst e'
    rw[ha]at e;cases e
    have d':Data.seq vs.toArray _=Data.dict es ep:=d
    cases d'
  have nsK:∀{b:Addr} {m:Str->Option Value},s₁.heap.Ns b m->(jx s₁.heap H).Ns b m:=fun {b m} ⟨o,es,ep,e,d,r⟩=>⟨o,es,ep,base_of e (noA e d),d,r⟩
  have hKb:K.In (jx s₁.heap H):=fun b o e=>base_of (KX b o e) (by
   cases q:H b with
   | none=>rfl
   | some u =>
    have e':b=a:=hA b (by rw[q];simp)
    subst e'
    rw[hK (by rw[q];simp)]at e;cases e)
  have hM:Mod K mg (jx s₁.heap H):=⟨hKb,nsK hns,⟨mb,nsK hb,hbb⟩,let ⟨mc,h1,h2⟩:=hlim;⟨mc,nsK h1,h2⟩⟩
  have e0:mx P w K mg (jx s₁.heap H) callerA [] s₁ H:=⟨rfl,hM,fun b o e=>uY e,Nat.le_of_eq (oY _ _),trivial,fun b hb=>absurd (show b∈([]:List Addr)from hb) (by simp),hok,.of_eq hg⟩
  refine codeAny_mono ((F _ hKb (nsK hns)).run callerA [] s₁ H ⟨[.ref a],[]⟩ [.ref a] [.ref a] _ _ hr e0 (hbind s₁ (.ref a)) (.cons rfl .nil) (hsp H hO hS)) fun r s' h=>?_
  cases r with
  | error e=>exact(hCX H e s' h).elim
  | ok fl =>
   cases fl with
   | next=>exact False.elim h
   | brk=>exact False.elim h
   | cont=>exact False.elim h
   | ret u =>
    obtain⟨v,H',os,bare,un,hok',r',q⟩:=h
    have q':v=.bl true:=q
    subst q'
    obtain rfl:u=Value.bool true:=r'
    refine⟨rfl,OldK.of_keep fun b o e=>?_,os,bare⟩
    cases q:H b with
    | none=>exact un.keep b o e q (by intro z;exact absurd (show b∈([]:List Addr)from z) (by simp)) (by simp)
    | some u =>
     rcases hO b with z |⟨ob,xs,z⟩
     ·rw[q]at z;cases z
     ·have z2:=un.frzs b ob _ z
      obtain⟨e1,_⟩:=hok b _ z
      obtain⟨e2,_⟩:=hok' b _ z2
      rw[e]at e1;cases e1
      exact e2
 cases hk:K.lookup a with
 | some o =>
  -- the script is one of the module's own objects
  have e:=KX a o hk
  rw[ha]at e
  cases e
  refine core (fun _=>none) (fun _=>.inl rfl) (.inr ⟨_,vs.toArray,_,hk,rfl,rfl,rfl,by rw[List.size_toArray,lenV];exact hl,by simpa using rv⟩) (fun b u z=>by have z':(none:Option HO)=some u:=z;cases z') (fun b z=>absurd rfl z) fun z=>absurd rfl z
 | none =>
  refine core (fun b=>if b=a then some (.frz { cls:=.type "list",data:=.seq vs.toArray } (.lst (ns.map V.int)))else none) (fun b=>?_) (.inl (.inr ⟨{ cls:=.type "list",data:=.seq vs.toArray },if_pos rfl⟩)) (fun b u z=>?_) (fun b z=>?_) fun _=>hk
  ·by_cases hb:b=a
   ·exact .inr ⟨_,_,if_pos hb⟩
   ·exact .inl (if_neg hb)
  ·by_cases hb:b=a
   ·have z':=(if_pos hb).symm.trans z
    cases z'
    subst hb
    exact⟨ha,by rw[List.length_map];exact hl,vs,_,rv,ha⟩
   ·have z':=(if_neg hb).symm.trans z
    cases z'
  ·by_cases hb:b=a
   ·exact hb
   ·exact absurd (if_neg hb) z
end L2
namespace L2
open PySem PySem.Spec PyProof.Rows
abbrev KOf{K:PySem.W.Frag}{h:Heap}(_:K.In h):PySem.W.Frag:=K
theorem mY{l:PySem.W.OpenLaw}{n k:Nat}{q:Program}{loose:List Str}{XP:(Str->Option Value)->Heap->Prop}{YP:World->Heap->Prop}{d:DefRec}{K:Params->PySem.W.Frag}{CX:World->CXT}{sp:World->Sp}{x:Str}
  (hn:l.most=some n) (hn2:n≤sizeLine) (hdf:d.params.defaults=[]) (hr:cf k callerA)
  (hY:∀(w:World) (h:Heap),YP w h->(K w.params).In h)
  (F:∀(w:World) (mg:Str->Option Value) (fa:Addr) (h:Heap),(K w.params).In h->h.Ns mainGlobals mg->mg d.name=some (.ref fa) ->
   ∃fd:FuncData,(∀(s:Shared) (u:Value),BindsTo s fd ⟨[u],[]⟩ [(x,u)]) /\
    ∀base:Heap,(K w.params).In base->base.Ns mainGlobals mg->iJ l.prog w (K w.params) mg base (CX w) k fa fd [x] (sp w))
  (hsp:∀(w:World) (H:Hp) (a:Addr) (ns:List Int),ns.length≤n->oE H->SqL (K w.params) H a (ns.map V.int)->sp w [.ref a] H (fun v _=>v=.bl true) fun _ _ _=>False)
  (hCX:∀(w:World) (H:Hp) (s:Shared) (e:Value) (s':Shared),CX w [] H s (fun _ _ _=>False) e s'->False) :
  PySem.W.WalkO q loose XP YP l.row.toRowW d [] (fun f vs=>PySem.call f vs):=by
 refine Att.lp hn hdf fun w s₀ s₁ mg mb fa o pm cd doc a vs ns G Y ho hd hcd hmg hobj hints hlen hg=>?_
 have KX:=hY w _ Y
 obtain⟨fd,hb,hF⟩:=F w mg fa _ KX G.T.g hmg
 exact rq KX G.T.g G.T.b G.T.builtins G.T.nolimit hg hobj hints (Nat.le_trans hlen hn2) hr hF hb (fun H hO hS=>hsp w H a ns hlen hO hS) fun H e s'=>hCX w H s₁ e s'
theorem qf{l:PySem.W.OpenLaw}{n k:Nat}{q:Program}{loose:List Str}{XP:(Str->Option Value)->Heap->Prop}{YP:World->Heap->Prop}{d:DefRec}{K:Params->PySem.W.Frag}{CX:CXT}{sp:PySem.W.Frag->Sp}{x:Str}
  (hn:l.most=some n) (hn2:n≤sizeLine) (hdf:d.params.defaults=[]) (hr:cf k callerA)
  (hY:∀(w:World) (h:Heap),YP w h->(K w.params).In h)
  (F:∀(w:World) (mg:Str->Option Value) (fa:Addr) (h:Heap),(K w.params).In h->h.Ns mainGlobals mg->mg d.name=some (.ref fa) ->
   ∃fd:FuncData,(∀(s:Shared) (u:Value),BindsTo s fd ⟨[u],[]⟩ [(x,u)]) /\
    ∀base:Heap,(K w.params).In base->base.Ns mainGlobals mg->iJ l.prog w (K w.params) mg base CX k fa fd [x] (sp (K w.params)))
  (hsp:∀(K:PySem.W.Frag) (H:Hp) (a:Addr) (ns:List Int),ns.length≤n->oE H->SqL K H a (ns.map V.int)->sp K [.ref a] H (fun v _=>v=.bl true) fun _ _ _=>False)
  (hCX:∀(H:Hp) (s:Shared) (e:Value) (s':Shared),CX [] H s (fun _ _ _=>False) e s'->False) :
  PySem.W.WalkO q loose XP YP l.row.toRowW d [] (fun f vs=>PySem.call f vs) :=
 mY (K:=K) (CX:=fun _=>CX) (sp:=fun w=>sp (K w.params)) hn hn2 hdf hr hY F (fun w H a ns h1 h2 h3=>hsp (K w.params) H a ns h1 h2 h3) fun _ H s e s'=>hCX H s e s'
end L2
/- THE LAST THEOREM (shape; LID,My.* are yours):
   My.Adr: a structure of the addresses that your layer names (classes,functions); My.Txt K t: a structure (Prop) of the equations over K;
   My.lO:{K} {implicit addresses ..} (e1:nsIn K mainGlobals "law"=some (some (.ref f))) (e2:K.lookup f=some ⟨oc,od,.func (fnOf "law" "law" params body scope dV kV doc pm an cdv ct),sl⟩) (e3:codeIn K cdv "law"=true) ..:∃ t,My.Txt K t
set_option maxRecDepth 100000 in
set_option maxHeartbeats 0 in
theorem PySem.Challenge.cw_LID_holds : PySem.Challenge.rw_LID.Holds := by
 w_on;o_law;k_head;(case hw=>w_witness2)
 k_fill
 refine L2.mY (l:=PySem.Challenge.rw_LID) (n:=63) (k:=40) (x:="script") (CX:=fun w=>..) (sp:=fun _=>My.sp_law) rfl (by decide) rfl ⟨rfl,by decide,by decide⟩ (fun w h Y=>PySem.W.kIn_of Y) ?F ?S ?C
 case F =>
  intro w mg fa h KX G hmg
  have T:∃t,My.Txt (L2.KOf KX) t:=by
   dsimp only[L2.KOf]                          -- K must stand as «<heap const> w.params» for k_is
   refine' My.lO ?e1 ?e2 ?e3 ..
   (case e1=>PySem.W.k_is)                    -- in the order: a name -> its address -> its object -> its parts
   (case e2=>PySem.W.k_is)
   ..
  obtain⟨t,T⟩:=T
  have e0:=hmg.symm.trans (PySem.W.mg_of KX G T.law)
  cases e0                                       -- fa is the law's own address
  exact⟨_,fun s u=>.of_eq rfl,fun base kb nb=>My.law_fn T kb nb⟩     -- if «.of_eq rfl» comes too early: refine'⟨_,?b,fun base kb nb=>My.law_fn T kb nb⟩;exact fun s u=>.of_eq rfl
 case S=>exact fun w H a ns hl hO hS=>..
 case C=>exact ..
(the tactic k_is has no namespace: write k_is) -/
namespace L2
open PySem PySem.Spec PyProof.Rows
def inClass(s:Stmt)(j:Nat):Stmt:=match s with
 | .ClassDef _ _ _ body _ _ _ _ _ _ _=>body.getD j (.Pass ⟨0,0,0,0⟩)
 | _=>.Pass ⟨0,0,0,0⟩
def g9(s:Stmt):Arguments:=match s with
 | .FunctionDef _ a _ _ _ _ _ _ _ _=>a
 | _=>{ posonlyargs:=[],args:=[],vararg:=none,kwonlyargs:=[],kw_defaults:=[],kwarg:=none,defaults:=[] }
def dX(s:Stmt):List Stmt:=match s with
 | .FunctionDef _ _ b _ _ _ _ _ _ _=>b
 | _=>[]
def ao(s:Stmt):Scope:=match s with
 | .FunctionDef _ _ _ _ _ _ sc _ _ _=>sc
 | _=>{ kind:=.function,names:=[],isGenerator:=false,isCoroutine:=false }
abbrev CX0:CXT:=fun _ _ _ _ _ _=>False
abbrev E0:XK:=fun _ _ _=>False
theorem rJ{X:Cx}:Passes CX0 X E0:=fun _ _ _ _ _ _ _ h=>h.elim
structure Fun (K:PySem.W.Frag) (x qual:Str) (st:Stmt) (f:Addr) (fd:FuncData):Prop where
 ex:∃(oc:Value) (od:Option Addr) (kV doc pm:Value) (an:Option Addr) (cdv ct:Value) (osl:Array (Option Value)),
  fd=PySem.W.fnOf x qual (g9 st) (dX st) (ao st) .none kV doc pm an cdv ct/\K.lookup f=some ⟨oc,od,.func fd,osl⟩/\PySem.W.codeIn K cdv qual=true
 kp:PySem.W.keepIn K (.ref f)=true
section
variable {P:Program}{w:World}{K:PySem.W.Frag}{mg:Str->Option Value}{base:Heap}
theorem Fun.ok{x qual:Str}{st:Stmt}{f:Addr}{fd:FuncData}{N ps:List Str}{k:Nat}{sp:Sp}(F:Fun K x qual st f fd)(S:aE N ps (ao st))(len:∀vs H Q E,sp vs H Q E->vs.length=ps.length)
  (hbody:∀(cdv:Value) (A:Around) (outer:List Env) (s:Shared) (H:Hp) (vs:List V) (Q:VK) (E:XK),cf k (A.deeper (envOfC qual (ao st) s.heap.objs.size f cdv))->sp vs H Q E ->
   ∃t,PSs (lJ CX0 P w K mg base N qual (ao st) f cdv A outer s H E).nox (dX st) t/\t { nx:=fun _ H'=>Q .non H',rt:=Q } (start N vs) H):iJ P w K mg base CX0 (k+1) f fd ps sp:=by
 obtain⟨oc,od,kV,doc,pm,an,cdv,ct,osl,rfl,lk,hcd⟩:=F.ex
 refine zO lk hcd S len fun A outer s H vs Q E hr hsp=>?_
 obtain⟨t,h,q⟩:=hbody cdv A outer s H vs Q E hr hsp
 exact⟨t,h.nox,q⟩
theorem Fun.binds{x qual:Str}{st:Stmt}{f:Addr}{fd:FuncData}{ps:List Str}(F:Fun K x qual st f fd)
  (h:∀(kV doc pm:Value) (an:Option Addr) (cdv ct:Value) (us:List Value),us.length=ps.length->bindArgs (PySem.W.fnOf x qual (g9 st) (dX st) (ao st) .none kV doc pm an cdv ct) ⟨us,[]⟩=pure (ps.zip us)):Binds K fd ps []:=by
 obtain⟨oc,od,kV,doc,pm,an,cdv,ct,osl,rfl,lk,hcd⟩:=F.ex
 exact .all (h kV doc pm an cdv ct)
theorem x6{x qual:Str}{st:Stmt}{f:Addr}{oc:Value}{od an:Option Addr}{osl:Array (Option Value)}{kV doc pm cdv ct:Value}(l:K.lookup f=some ⟨oc,od,.func (PySem.W.fnOf x qual (g9 st) (dX st) (ao st) .none kV doc pm an cdv ct),osl⟩)
  (c:PySem.W.codeIn K cdv qual=true) (k:PySem.W.keepIn K (.ref f)=true):Fun K x qual st f (PySem.W.fnOf x qual (g9 st) (dX st) (ao st) .none kV doc pm an cdv ct):=⟨⟨oc,od,kV,doc,pm,an,cdv,ct,osl,rfl,l,c⟩,k⟩
end
theorem bE{n:Nat}(h:n≤1000):n<sizeLine:=Nat.lt_of_le_of_lt h (by decide)
section
variable {X:Cx}
theorem pv(i:Nat){x:Str}{pos:Pos}(hN:X.N[i]?=some x:=by rfl)(hv:Vis X.env.scope x:=by first | exact Or.inl rfl | exact Or.inr (Or.inl rfl) | exact Or.inr (Or.inr rfl))(hd:(x==("__debug__":Str))=false:=by decide)
  (hcd:(x==("__classdict__":Str))=false:=by decide):PE X (.Name x pos) (zY i):=wF hN hv hd hcd
end
theorem jB{A B:Prop}(h:B):if false=true then A else B:=by
 rw[if_neg Bool.false_ne_true]
 exact h
theorem jI{A B:Prop}(h:A):if true=true then A else B:=by
 rw[if_pos rfl]
 exact h
def Ei(H H':Hp):Prop:=∀b o,H b=some o->H' b=some o
end L2
set_option maxHeartbeats 4000000
namespace U
open PySem PySem.Spec PyProof.Rows L2
inductive PV where
 | non | bl (b:Bool) | int (i:Int) | str (x:Str) | ref (a:Addr) | tup (l:List PV) | fls (l:List PV) | oth (v:V)
def FzL(K:PySem.W.Frag)(H:Hp)(a:Addr)(xs:List V):Prop :=
 (∃o,H a=some (.frz o (.lst xs))) ∨
  ∃(o:Obj) (its:Array Value) (n:Nat),K.lookup a=some o/\o.cls=.type "list"/\o.dict=none/\o.data=.seq its n/\its.size≤sizeLine/\Vals xs its.toList
theorem FzL.sq{K:PySem.W.Frag}{H:Hp}{a:Addr}{xs:List V}(h:FzL K H a xs):SqL K H a xs:=by
 rcases h with h | h
 ·exact .inl (.inr h)
 ·exact .inr h
structure Kp (H H1:Hp):Prop where
 t:∀a us,H a=some (.tup us)->H1 a=some (.tup us)
 z:∀a o u,H a=some (.frz o u)->H1 a=some (.frz o u)
theorem Kp.sqT{K:PySem.W.Frag}{H H1:Hp}(k:Kp H H1){a:Addr}{us:List V}(h:SqT K H a us):SqT K H1 a us:=by
 rcases h with(h |⟨o,h⟩) | h
 ·exact .inl (.inl (k.t _ _ h))
 ·exact .inl (.inr ⟨o,k.z _ _ _ h⟩)
 ·exact .inr h
theorem Kp.fzL{K:PySem.W.Frag}{H H1:Hp}(k:Kp H H1){a:Addr}{us:List V}(h:FzL K H a us):FzL K H1 a us:=by
 rcases h with⟨o,h⟩ | h
 ·exact .inl ⟨o,k.z _ _ _ h⟩
 ·exact .inr h
section
variable (K:PySem.W.Frag)
mutual
def RP(H:Hp):PV->V->Prop
 | .non,v=>v=.non
 | .bl b,v=>v=.bl b
 | .int i,v=>v=.int i
 | .str x,v=>v=.str x
 | .ref a,v=>v=.ref a
 | .oth w,v=>v=w
 | .tup l,v=>∃a us,v=.ref a/\SqT K H a us/\RPs H l us
 | .fls l,v=>∃a us,v=.ref a/\FzL K H a us/\RPs H l us
def RPs(H:Hp):List PV->List V->Prop
 | [],us=>us=[]
 | x::l,us=>∃u r,us=u::r/\RP H x u/\RPs H l r
end
mutual
theorem RP.kp{H H1:Hp}(k:Kp H H1):∀{x:PV} {v:V},RP K H x v->RP K H1 x v
 | .non,_,h=>h
 | .bl _,_,h=>h
 | .int _,_,h=>h
 | .str _,_,h=>h
 | .ref _,_,h=>h
 | .oth _,_,h=>h
 | .tup l,v,h=>by
  simp only[RP]at h ⊢
  obtain⟨a,us,e,q,r⟩:=h
  exact⟨a,us,e,k.sqT q,RPs.kp k r⟩
 | .fls l,v,h=>by
  simp only[RP]at h ⊢
  obtain⟨a,us,e,q,r⟩:=h
  exact⟨a,us,e,k.fzL q,RPs.kp k r⟩
theorem RPs.kp{H H1:Hp}(k:Kp H H1):∀{l:List PV} {us:List V},RPs K H l us->RPs K H1 l us
 | [],_,h=>h
 | x::l,us,h=>by
  simp only[RPs]at h ⊢
  obtain⟨u,r,e,a,b⟩:=h
  exact⟨u,r,e,RP.kp k a,RPs.kp k b⟩
end
theorem RPs.nil{H:Hp}:RPs K H [] []:=by simp[RPs]
theorem RPs.cons{H:Hp}{x:PV}{l:List PV}{u:V}{us:List V}(a:RP K H x u)(b:RPs K H l us):RPs K H (x::l) (u::us):=by
 simp only[RPs];exact⟨u,us,rfl,a,b⟩
theorem RPs.length{H:Hp}:∀{l:List PV} {us:List V},RPs K H l us->us.length=l.length
 | [],us,h=>by simp only[RPs]at h;subst h;rfl
 | x::l,us,h=>by
  simp only[RPs]at h
  obtain⟨u,r,rfl,_,b⟩:=h
  simp[RPs.length b]
theorem RPs.get{H:Hp}:∀{l:List PV} {us:List V} {i:Nat} {x:PV},RPs K H l us->l[i]?=some x->∃u,us[i]?=some u/\RP K H x u
 | [],_,_,_,_,e=>by simp at e
 | y::l,us,i,x,h,e=>by
  simp only[RPs]at h
  obtain⟨u,r,rfl,a,b⟩:=h
  cases i with
  | zero=>simp at e;subst e;exact⟨u,by simp,a⟩
  | succ i=>obtain⟨w,e1,e2⟩:=RPs.get (i:=i) (x:=x) b (by simpa using e);exact⟨w,by simpa using e1,e2⟩
theorem RPs.append{H:Hp}:∀{l m:List PV} {us ws:List V},RPs K H l us->RPs K H m ws->RPs K H (l++m) (us++ws)
 | [],m,us,ws,h,g=>by simp only[RPs]at h;subst h;simpa using g
 | x::l,m,us,ws,h,g=>by
  simp only[RPs]at h
  obtain⟨u,r,rfl,a,b⟩:=h
  exact RPs.cons K a (RPs.append b g)
theorem RPs.take{H:Hp}:∀{l:List PV} {us:List V} (n:Nat),RPs K H l us->RPs K H (l.take n) (us.take n)
 | [],us,n,h=>by simp only[RPs]at h;subst h;simp[RPs]
 | x::l,us,0,h=>by simp[RPs]
 | x::l,us,n+1,h=>by
  simp only[RPs]at h
  obtain⟨u,r,rfl,a,b⟩:=h
  exact RPs.cons K a (RPs.take n b)
theorem RPs.drop{H:Hp}:∀{l:List PV} {us:List V} (n:Nat),RPs K H l us->RPs K H (l.drop n) (us.drop n)
 | [],us,n,h=>by simp only[RPs]at h;subst h;simp[RPs]
 | x::l,us,0,h=>h
 | x::l,us,n+1,h=>by
  simp only[RPs]at h
  obtain⟨u,r,rfl,a,b⟩:=h
  exact RPs.drop n b
theorem RPs.set{H:Hp}{x:PV}{u:V}(a:RP K H x u):∀{l:List PV} {us:List V} (n:Nat),RPs K H l us->RPs K H (l.set n x) (us.set n u)
 | [],us,n,h=>by simp only[RPs]at h;subst h;simp[RPs]
 | y::l,us,0,h=>by
  simp only[RPs]at h
  obtain⟨w,r,rfl,_,b⟩:=h
  exact RPs.cons K a b
 | y::l,us,n+1,h=>by
  simp only[RPs]at h
  obtain⟨w,r,rfl,c,b⟩:=h
  exact RPs.cons K c (RPs.set a n b)
theorem RPs.dropLast{H:Hp}{l:List PV}{us:List V}(h:RPs K H l us):RPs K H l.dropLast us.dropLast:=by
 rw[List.dropLast_eq_take,List.dropLast_eq_take,RPs.length K h]
 exact RPs.take K _ h
theorem RPs.ints{H:Hp}:∀(ns:List Int),RPs K H (ns.map PV.int) (ns.map V.int)
 | []=>by simp[RPs]
 | n::ns=>RPs.cons K (by simp[RP]) (RPs.ints ns)
end
def CI(a C:Addr)(h:Heap):Prop:=∃o,h.get? a=some o/\o.cls=.ref C
inductive PO where
 | exc (C:Addr)
 | lst (l:List PV)
 | ins (C dx:Addr) (fs:List (Str×PV))
 | dK (kvs:List (Key×PV))
 | dT (kvs:List (List Key×PV))
abbrev PHp:=Addr->Option PO
def put(H:PHp)(a:Addr)(o:PO):PHp:=fun b=>if b=a then some o else H b
theorem ak{H:PHp}{a:Addr}{o:PO}:put H a o a=some o:=by unfold put;rw[if_pos rfl]
theorem ar{H:PHp}{a b:Addr}{o:PO}(h:b≠a):put H a o b=H b:=by unfold put;rw[if_neg h]
theorem aG{H:PHp}{a:Addr}{o u:PO}:put (put H a o) a u=put H a u:=by
 funext b;unfold put;split<;>rfl
theorem ay{H:PHp}{a b:Addr}{o:PO}(h:H a=some o)(h':H b=none):a≠b:=by
 intro e;subst e;rw[h]at h';cases h'
abbrev eG(K:PySem.W.Frag)(H:Hp){κ:Type}:List (κ×PV)->List (κ×V)->Prop:=Paired fun p q=>p.1=q.1/\RP K H p.2 q.2
def OAt(K:PySem.W.Frag)(H:Hp)(a:Addr):PO->Prop
 | .exc C=>H a=some (.ext (CI a C))
 | .lst l=>∃us,H a=some (.lst us)/\RPs K H l us
 | .ins C dx fs=>∃gs,H a=some (.ins C dx gs)/\eG K H fs gs
 | .dK kvs=>∃ws,H a=some (.dK ws)/\eG K H kvs ws
 | .dT kvs=>∃ws,H a=some (.dT ws)/\eG K H kvs ws
abbrev HR(K:PySem.W.Frag)(H':PHp)(H:Hp):Prop:=∀a o,H' a=some o->OAt K H a o
abbrev St':=List (Option PV)
abbrev Bs:=PHp×Hp
def Ev(H':PHp)(H:Hp)(H1':PHp)(H1:Hp):Prop:=∀a o,H a=some o->H' a=none->H1 a=some o/\H1' a=none
structure SR (K:PySem.W.Frag) (B:Bs) (σ':St') (H':PHp) (σ:L2.St) (H:Hp):Prop where
 len:σ'.length=σ.length
 loc:∀(i:Nat) (v':PV),σ'[i]?=some (some v')->∃v,σ[i]?=some (some v)/\RP K H v' v
 hp:HR K H' H
 ev:Ev B.1 B.2 H' H
theorem Ev.refl(H':PHp)(H:Hp):Ev H' H H' H:=fun _ _ h h'=>⟨h,h'⟩
theorem Ev.trans{H':PHp}{H:Hp}{H1':PHp}{H1:Hp}{H2':PHp}{H2:Hp}(a:Ev H' H H1' H1)(b:Ev H1' H1 H2' H2):Ev H' H H2' H2:=fun c o h h'=>by
 obtain⟨p,q⟩:=a c o h h'
 exact b c o p q
section
variable {K:PySem.W.Frag}
theorem eG.kp{κ:Type}{H H1:Hp}(k:Kp H H1){fs:List (κ×PV)}{gs:List (κ×V)}(h:eG K H fs gs):eG K H1 fs gs:=Paired.mapP h fun _ _ ⟨a,b⟩=>⟨a,RP.kp K k b⟩
theorem OAt.some{H:Hp}{a:Addr}:∀{o:PO},OAt K H a o->∃u,H a=Option.some u/\(∀us,u≠.tup us)/\(∀o us,u≠.frz o us)/\(∀x,u≠.own x)
 | .exc C,e=>⟨_,e,(fun _=>by nofun),(fun _ _=>by nofun),(fun _=>by nofun)⟩
 | .lst l,⟨us,e,_⟩=>⟨_,e,(fun _=>by nofun),(fun _ _=>by nofun),(fun _=>by nofun)⟩
 | .ins C dx fs,⟨us,e,_⟩=>⟨_,e,(fun _=>by nofun),(fun _ _=>by nofun),(fun _=>by nofun)⟩
 | .dK l,⟨us,e,_⟩=>⟨_,e,(fun _=>by nofun),(fun _ _=>by nofun),(fun _=>by nofun)⟩
 | .dT l,⟨us,e,_⟩=>⟨_,e,(fun _=>by nofun),(fun _ _=>by nofun),(fun _=>by nofun)⟩
theorem OAt.keep{H H1:Hp}{a:Addr}(k:Kp H H1)(e:H1 a=H a):∀{o:PO},OAt K H a o->OAt K H1 a o
 | .exc C,h=>e.trans h
 | .lst l,⟨us,h,r⟩=>⟨us,e.trans h,RPs.kp K k r⟩
 | .ins C dx fs,⟨us,h,r⟩=>⟨us,e.trans h,eG.kp k r⟩
 | .dK l,⟨us,h,r⟩=>⟨us,e.trans h,eG.kp k r⟩
 | .dT l,⟨us,h,r⟩=>⟨us,e.trans h,eG.kp k r⟩
theorem HR.tup{H':PHp}{H:Hp}(h:HR K H' H){a:Addr}{us:List V}(e:H a=some (.tup us)):H' a=none:=by
 cases q:H' a with
 | none=>rfl
 | some o=>obtain⟨u,e1,n,_⟩:=(h a o q).some;rw[e]at e1;exact absurd (Option.some.inj e1).symm (n us)
theorem HR.frz{H':PHp}{H:Hp}(h:HR K H' H){a:Addr}{o:Obj}{u:HO}(e:H a=some (.frz o u)):H' a=none:=by
 cases q:H' a with
 | none=>rfl
 | some o'=>obtain⟨u',e1,_,n,_⟩:=(h a o' q).some;rw[e]at e1;exact absurd (Option.some.inj e1).symm (n o u)
theorem HR.free{H':PHp}{H:Hp}(h:HR K H' H){a:Addr}(e:H a=none):H' a=none:=by
 cases q:H' a with
 | none=>rfl
 | some o=>obtain⟨u,e1,_⟩:=(h a o q).some;rw[e]at e1;cases e1
theorem Ev.kp{H':PHp}{H:Hp}{H1':PHp}{H1:Hp}(e:Ev H' H H1' H1)(h:HR K H' H):Kp H H1 :=
 ⟨fun a us q=>(e a _ q (h.tup q)).1,fun a o u q=>(e a _ q (h.frz q)).1⟩
theorem e9{H:Hp}{p:Addr}{o:HO}(e:H p=none):Kp H (upd H p o) :=
 ⟨fun a us q=>by rw[aV (bb q e)];exact q,fun a o u q=>by rw[aV (bb q e)];exact q⟩
theorem kA{H:Hp}{p:Addr}{o u:HO}(e:H p=some u)(n1:∀us,u≠.tup us)(n2:∀o us,u≠.frz o us):Kp H (upd H p o) :=
 ⟨fun a us q=>by rw[aV (vd q e fun z=>n1 us z.symm)];exact q,fun a o' u' q=>by rw[aV (vd q e fun z=>n2 o' u' z.symm)];exact q⟩
theorem SR.kp{B:Bs}{σ':St'}{H' H1':PHp}{σ:L2.St}{H H1:Hp}(s:SR K B σ' H' σ H)(e:Ev H' H H1' H1)(h:HR K H1' H1):SR K B σ' H1' σ H1 :=
 ⟨s.len,fun i v' q=>by obtain⟨v,a,b⟩:=s.loc i v' q;exact⟨v,a,RP.kp K (e.kp s.hp) b⟩,h,s.ev.trans e⟩
theorem HR.hid{H':PHp}{H:Hp}{p:Addr}{o:HO}(h:HR K H' H)(e:H p=none):HR K H' (upd H p o):=fun a u q=>by
 have na:a≠p:=by rintro rfl;rw[h.free e]at q;cases q
 exact(h a u q).keep (e9 e) (aV na)
theorem Ev.hid{H':PHp}{H:Hp}{p:Addr}{o:HO}(e:H p=none):Ev H' H H' (upd H p o):=fun a u q n=>⟨by rw[aV (bb q e)];exact q,n⟩
theorem HR.new{H':PHp}{H:Hp}{p:Addr}{o:HO}{o':PO}(h:HR K H' H)(e:H p=none)(new:OAt K (upd H p o) p o'):HR K (put H' p o') (upd H p o):=fun a u q=>by
 by_cases hp:a=p
 ·subst hp;rw[ak]at q;cases q;exact new
 ·rw[ar hp]at q;exact(h a u q).keep (e9 e) (aV hp)
theorem Ev.new{H':PHp}{H:Hp}{p:Addr}{o:HO}{o':PO}(e:H p=none):Ev H' H (put H' p o') (upd H p o):=fun a u q n=>by
 have na:=bb q e
 exact⟨by rw[aV na];exact q,by rw[ar na];exact n⟩
theorem HR.wr{H':PHp}{H:Hp}{p:Addr}{o:HO}{o' u':PO}(h:HR K H' H)(e:H' p=some u')(new:OAt K (upd H p o) p o'):HR K (put H' p o') (upd H p o):=fun a u q=>by
 obtain⟨v,e1,n1,n2,_⟩:=(h p u' e).some
 by_cases hp:a=p
 ·subst hp;rw[ak]at q;cases q;exact new
 ·rw[ar hp]at q;exact(h a u q).keep (kA e1 n1 n2) (aV hp)
theorem HR.kpw{H':PHp}{H:Hp}{p:Addr}{o:HO}{u':PO}(h:HR K H' H)(e:H' p=some u'):Kp H (upd H p o):=by
 obtain⟨v,e1,n1,n2,_⟩:=(h p u' e).some
 exact kA e1 n1 n2
theorem Ev.wr{H':PHp}{H:Hp}{p:Addr}{o:HO}{o' u':PO}(e:H' p=some u'):Ev H' H (put H' p o') (upd H p o):=fun a u q n=>by
 have na:a≠p:=by rintro rfl;rw[e]at n;cases n
 exact⟨by rw[aV na];exact q,by rw[ar na];exact n⟩
def Sub(A B:PHp):Prop:=∀a o,A a=some o->B a=some o
theorem Sub.refl(A:PHp):Sub A A:=fun _ _ h=>h
theorem Sub.trans{A B C:PHp}(a:Sub A B)(b:Sub B C):Sub A C:=fun c o h=>b c o (a c o h)
theorem Sub.put{A B:PHp}{p:Addr}{o:PO}(a:Sub A B)(n:A p=none):Sub A (put B p o):=fun c u h=>by rw[ar (ay h n)];exact a c u h
theorem Sub.free{A B:PHp}(a:Sub A B){p:Addr}(n:B p=none):A p=none:=by
 cases q:A p with
 | none=>rfl
 | some o=>rw[a p o q]at n;cases n
theorem HR.sub{A B:PHp}{H:Hp}(h:HR K B H)(s:Sub A B):HR K A H:=fun a o e=>h a o (s a o e)
theorem Ev.sub{H':PHp}{H:Hp}{A B:PHp}{H1:Hp}(e:Ev H' H B H1)(s:Sub A B):Ev H' H A H1:=fun a o q n=>by
 obtain⟨x,y⟩:=e a o q n
 exact⟨x,s.free y⟩
end
end U
namespace U
open PySem PySem.Spec PyProof.Rows L2
variable {B:Bs}
abbrev VK':=PV->PHp->Prop
abbrev TE':=St'->PHp->VK'->Prop
abbrev TT':=St'->PHp->(Bool->PHp->Prop)->Prop
abbrev TA':=St'->PHp->(List PV->PHp->Prop)->Prop
abbrev XK':=Value->Option Addr->PHp->Prop
structure eF where
 nx:St'->PHp->Prop
 rt:VK'
 bk:St'->PHp->Prop:=fun _ _=>False
 ct:St'->PHp->Prop:=fun _ _=>False
abbrev TS':=eF->St'->PHp->Prop
abbrev TG':=PV->St'->PHp->(St'->PHp->Prop)->Prop
abbrev gg:=List PV->St'->PHp->(St'->PHp->Prop)->Prop
structure It' where
 items:List PV
 ok:PHp->Prop
abbrev TI':=St'->PHp->(It'->PHp->Prop)->Prop
section
variable (K:PySem.W.Frag)(B:Bs)
def low(t:TE'):TE:=fun σ H Q=>∃σ' H' Q',SR K B σ' H' σ H/\t σ' H' Q'/\∀v' H1' v H1,Q' v' H1'->RP K H1 v' v->SR K B σ' H1' σ H1->Ev H' H H1' H1->Q v H1
def jS(t:TT'):TT:=fun σ H Q=>∃σ' H' Q',SR K B σ' H' σ H/\t σ' H' Q'/\∀b H1' H1,Q' b H1'->SR K B σ' H1' σ H1->Ev H' H H1' H1->Q b H1
def qC(t:TA'):TA:=fun σ H Q=>∃σ' H' Q',SR K B σ' H' σ H/\t σ' H' Q'/\∀vs' H1' vs H1,Q' vs' H1'->RPs K H1 vs' vs->SR K B σ' H1' σ H1->Ev H' H H1' H1->Q vs H1
structure DR (D':eF) (D:Ends) (H':PHp) (H:Hp):Prop where
 nx:∀σ1' H1' σ1 H1,D'.nx σ1' H1'->SR K B σ1' H1' σ1 H1->Ev H' H H1' H1->D.nx σ1 H1
 rt:∀v' H1' v H1,D'.rt v' H1'->RP K H1 v' v->HR K H1' H1->Ev H' H H1' H1->D.rt v H1
 bk:∀σ1' H1' σ1 H1,D'.bk σ1' H1'->SR K B σ1' H1' σ1 H1->Ev H' H H1' H1->D.bk σ1 H1
 ct:∀σ1' H1' σ1 H1,D'.ct σ1' H1'->SR K B σ1' H1' σ1 H1->Ev H' H H1' H1->D.ct σ1 H1
theorem DR.ev{D':eF}{D:Ends}{H':PHp}{H:Hp}{H1':PHp}{H1:Hp}(d:DR K B D' D H' H)(e:Ev H' H H1' H1):DR K B D' D H1' H1 :=
 ⟨fun a b c f p q r=>d.nx a b c f p q (e.trans r),fun a b c f p q r s=>d.rt a b c f p q r (e.trans s),fun a b c f p q r=>d.bk a b c f p q (e.trans r),fun a b c f p q r=>d.ct a b c f p q (e.trans r)⟩
def xQ(t:TS'):TS:=fun D σ H=>∃σ' H' D',SR K B σ' H' σ H/\t D' σ' H'/\DR K B D' D H' H
def lowG(t:TG'):TG:=fun v σ H Q=>∃v' σ' H' Q',RP K H v' v/\SR K B σ' H' σ H/\t v' σ' H' Q'/\∀σ1' H1' σ1 H1,Q' σ1' H1'->SR K B σ1' H1' σ1 H1->Ev H' H H1' H1->Q σ1 H1
def zu(t:gg):TGs:=fun vs σ H Q=>∃vs' σ' H' Q',RPs K H vs' vs/\SR K B σ' H' σ H/\t vs' σ' H' Q'/\∀σ1' H1' σ1 H1,Q' σ1' H1'->SR K B σ1' H1' σ1 H1->Ev H' H H1' H1->Q σ1 H1
structure Walks (H1:Hp) (J:It) (J':It'):Prop where
 go:∀H' H i,Kp H1 H->HR K H' H->J'.ok H'->i<J'.items.length->J.go i H
 yld:∀H' H i x H2,Kp H1 H->HR K H' H->J'.ok H'->J.yld i H x H2->H2=H/\∀x',J'.items[i]?=some x'->RP K H x' x
 stop:∀H' H i,Kp H1 H->HR K H' H->J'.ok H'->J'.items.length≤i->J.stop i H
def AD(t:TI'):TI:=fun σ H R=>∃σ' H' R',SR K B σ' H' σ H/\t σ' H' R'/\∀J' H1' J H1,R' J' H1'->Walks K H1 J J'->SR K B σ' H1' σ H1->Ev H' H H1' H1->R J H1
end
section
variable {X:Cx}
theorem a8{e:Expr}{t1 t2:TE}(h:PE X e t2)(i:∀σ H Q,t1 σ H Q->t2 σ H Q):PE X e t1:=fun pins s σ H Q I q=>h pins s σ H Q I (i σ H Q q)
theorem lL{e:Expr}{t1 t2:TT}(h:PT X e t2)(i:∀σ H Q,t1 σ H Q->t2 σ H Q):PT X e t1:=fun pins s σ H Q I q=>h pins s σ H Q I (i σ H Q q)
theorem pV{e:Expr}{t1 t2:TT}(h:PW X e t2)(i:∀σ H Q,t1 σ H Q->t2 σ H Q):PW X e t1:=fun w pins s σ H Q I q=>h w pins s σ H Q I (i σ H Q q)
theorem rp{e:List Expr}{t1 t2:TA}(h:PA X e t2)(i:∀σ H Q,t1 σ H Q->t2 σ H Q):PA X e t1:=fun p pins s σ H Q I q=>h p pins s σ H Q I (i σ H Q q)
theorem da{e:Stmt}{t1 t2:TS}(h:PS X e t2)(i:∀D σ H,t1 D σ H->t2 D σ H):PS X e t1:=fun pins s σ H D I q=>h pins s σ H D I (i D σ H q)
theorem nN{e:List Stmt}{t1 t2:TS}(h:PSs X e t2)(i:∀D σ H,t1 D σ H->t2 D σ H):PSs X e t1:=fun pins s σ H D I q=>h pins s σ H D I (i D σ H q)
theorem jQ{e:Expr}{t1 t2:TG}(h:PG X e t2)(i:∀v σ H Q,t1 v σ H Q->t2 v σ H Q):PG X e t1:=fun pins s σ H v u Q I r q=>h pins s σ H v u Q I r (i v σ H Q q)
theorem nU{e:List Expr}{t1 t2:TGs}(h:PGs X e t2)(i:∀v σ H Q,t1 v σ H Q->t2 v σ H Q):PGs X e t1:=fun pins s σ H v u Q I r q=>h pins s σ H v u Q I r (i v σ H Q q)
theorem gw{tg e:Expr}{t1 t2:TI}(h:PI X tg e t2)(i:∀σ H Q,t1 σ H Q->t2 σ H Q):PI X tg e t1:=fun pins s σ H Q I q=>h pins s σ H Q I (i σ H Q q)
abbrev PE'(X:Cx)(B:Bs)(e:Expr)(t:TE'):Prop:=PE X e (low X.K B t)
abbrev PT'(X:Cx)(B:Bs)(e:Expr)(t:TT'):Prop:=PT X e (jS X.K B t)
abbrev PW'(X:Cx)(B:Bs)(e:Expr)(t:TT'):Prop:=PW X e (jS X.K B t)
abbrev PA'(X:Cx)(B:Bs)(e:List Expr)(t:TA'):Prop:=PA X e (qC X.K B t)
abbrev PS'(X:Cx)(B:Bs)(e:Stmt)(t:TS'):Prop:=PS X e (xQ X.K B t)
abbrev ix(X:Cx)(B:Bs)(e:List Stmt)(t:TS'):Prop:=PSs X e (xQ X.K B t)
abbrev PG'(X:Cx)(B:Bs)(e:Expr)(t:TG'):Prop:=PG X e (lowG X.K B t)
abbrev qd(X:Cx)(B:Bs)(e:List Expr)(t:gg):Prop:=PGs X e (zu X.K B t)
abbrev PI'(X:Cx)(B:Bs)(tg e:Expr)(t:TI'):Prop:=PI X tg e (AD X.K B t)
def kU(o:Option (Option PV))(k:PV->Prop):Prop:=match o with
 | some (some v)=>k v
 | _=>False
theorem kU.ex{o:Option (Option PV)}{k:PV->Prop}(h:kU o k):∃v,o=some (some v)/\k v:=by
 unfold kU at h;split at h
 ·exact⟨_,rfl,h⟩
 ·exact h.elim
def k9(i:Nat):TE':=fun σ H Q=>kU σ[i]? fun v=>Q v H
def uC(v:PV):TE':=fun _ H Q=>Q v H
theorem qv(i:Nat){x:Str}{pos:Pos}(hN:X.N[i]?=some x:=by rfl)(hv:Vis X.env.scope x:=by first | exact Or.inl rfl | exact Or.inr (Or.inl rfl) | exact Or.inr (Or.inr rfl))(hd:(x==("__debug__":Str))=false:=by decide)
  (hcd:(x==("__classdict__":Str))=false:=by decide):PE' X B (.Name x pos) (k9 i):=a8 (pv i hN hv hd hcd) fun σ H Q ⟨σ',H',Q',s,h,k⟩=>by
 obtain⟨v',e,q⟩:=h.ex
 obtain⟨v,a,b⟩:=s.loc i v' e
 exact⟨v,a,k v' H' v H q b s (Ev.refl _ _)⟩
theorem qL{K:PySem.W.Frag}{v':PV}{v:V}(r:∀H,RP K H v' v){σ:L2.St}{H:Hp}{Q:VK}(h:low K B (uC v') σ H Q):tC v σ H Q:=by
 obtain⟨σ',H',Q',s,h,k⟩:=h
 exact k v' H' v H h (r H) s (Ev.refl _ _)
theorem ah{i j pos}:PE' X B (.Constant (.int i) j pos) (uC (.int i)):=a8 yo fun _ _ _ h=>qL (fun _=>by simp[RP]) h
theorem bw{i j pos}:PE' X B (.Constant (.bool i) j pos) (uC (.bl i)):=a8 Ba fun _ _ _ h=>qL (fun _=>by simp[RP]) h
theorem c9{i j pos}:PE' X B (.Constant (.str i) j pos) (uC (.str i)):=a8 yM fun _ _ _ h=>qL (fun _=>by simp[RP]) h
theorem tq{x:Str}{v':PV}{v:V}{u:Value}{pos:Pos}(hg:Gl X x)(hm:X.mg x=some u)(r:RelV v u)(r':∀H,RP X.K H v' v)(hd:(x==("__debug__":Str))=false:=by decide):PE' X B (.Name x pos) (uC v') :=
 a8 (r8 hg hm r hd) fun _ _ _ h=>qL r' h
abbrev R2':=PV->PV->PHp->VK'->Prop
def VR(K:PySem.W.Frag)(B:Bs)(r':R2')(r:R2):Prop:=∀(σ':St') (σ:L2.St) (H':PHp) (H:Hp) x' y' x y (Q':VK') (Q:VK),SR K B σ' H' σ H->RP K H x' x->RP K H y' y->r' x' y' H' Q' ->
 (∀v' H1' v H1,Q' v' H1'->RP K H1 v' v->SR K B σ' H1' σ H1->Ev H' H H1' H1->Q v H1)->r x y H Q
def uOp(r:R2')(ta tb:TE'):TE':=fun σ H Q=>ta σ H fun x H1=>tb σ H1 fun y H2=>r x y H2 Q
theorem jy{K:PySem.W.Frag}{r':R2'}{r:R2}{ta tb:TE'}(v:VR K B r' r){σ:L2.St}{H:Hp}{Q:VK}(h:low K B (uOp r' ta tb) σ H Q):tOp r (low K B ta) (low K B tb) σ H Q:=by
 obtain⟨σ',H',Q',s,h,k⟩:=h
 refine⟨σ',H',_,s,h,fun x' H1' x H1 h1 rx s1 e1=>⟨σ',H1',_,s1,h1,fun y' H2' y H2 h2 ry s2 e2=>?_⟩⟩
 exact v σ' σ H2' H2 x' y' x y Q' Q s2 (RP.kp K (e2.kp s1.hp) rx) ry h2 fun v' H3' v H3 q rv s3 e3=>k v' H3' v H3 q rv s3 (e1.trans (e2.trans e3))
variable {a b c:Expr}{ta tb tc:TE'}{pos:Pos}
theorem fE{op:Operator}{r':R2'}{r:R2}(ho:OpR X (binaryOp op) r)(v:VR X.K B r' r)(ha:PE' X B a ta)(hb:PE' X B b tb):PE' X B (.BinOp a op b pos) (uOp r' ta tb):=a8 (zJ ho ha hb) fun _ _ _ h=>jy v h
theorem b4{op:CmpOp}{r':R2'}{r:R2}(ho:OpR X (compareOp op) r)(v:VR X.K B r' r)(ha:PE' X B a ta)(hb:PE' X B b tb)(hm:behindInMarks op b=false):PE' X B (.Compare a [op] [b] pos) (uOp r' ta tb) :=
 a8 (sx ho ha hb hm) fun _ _ _ h=>jy v h
def cif(b:Bool)(A B:Prop):Prop:=match b with
 | true=>A
 | false=>B
theorem Aj{A B:Prop}:cif true A B=A:=rfl
theorem Bk{A B:Prop}:cif false A B=B:=rfl
theorem bA{b:Bool}{A B:Prop}(h1:b=true->A)(h2:b=false->B):cif b A B:=by
 cases b
 ·exact h2 rfl
 ·exact h1 rfl
theorem aJ{b:Bool}{A B:Prop}(h:b=true)(h1:A):cif b A B:=by subst h;exact h1
theorem au{b:Bool}{A B:Prop}(h:b=false)(h1:B):cif b A B:=by subst h;exact h1
theorem sH{c:Prop}[Decidable c]{A B:Prop}(h1:c->A)(h2:¬c->B):cif (decide c) A B:=by
 by_cases h:c
 ·exact aJ (decide_eq_true h) (h1 h)
 ·exact au (decide_eq_false h) (h2 h)
def dP(x:PV)(k:Bool->Prop):Prop:=match x with
 | .bl b=>k b
 | _=>False
theorem dP.ex{x:PV}{k:Bool->Prop}(h:dP x k):∃v,x=.bl v/\k v:=by
 unfold dP at h;split at h
 ·exact⟨_,rfl,h⟩
 ·exact h.elim
def bV(x:PV)(k:Int->Prop):Prop:=match x with
 | .int i=>k i
 | _=>False
theorem bV.ex{x:PV}{k:Int->Prop}(h:bV x k):∃v,x=.int v/\k v:=by
 unfold bV at h;split at h
 ·exact⟨_,rfl,h⟩
 ·exact h.elim
def jj(t:TE'):TT':=fun σ H Q=>t σ H fun x H1=>dP x fun b=>Q b H1
theorem ly{K:PySem.W.Frag}{t:TE'}{σ:L2.St}{H:Hp}{Q:Bool->Hp->Prop}(h:jS K B (jj t) σ H Q):vT (low K B t) σ H Q:=by
 obtain⟨σ',H',Q',s,h,k⟩:=h
 refine⟨σ',H',_,s,h,fun x' H1' x H1 h1 rx s1 e1=>?_⟩
 obtain⟨b,rfl,q⟩:=h1.ex
 simp only[RP]at rx
 exact⟨b,rx,k b H1' H1 q s1 e1⟩
theorem aW{e:Expr}{t:TE'}(h:PE' X B e t)(he:∀whole,isTrue e X.env whole=(do let v←whole;standAt e.pos;holding [v] (truthy v)):=by intro _;rfl):PT' X B e (jj t):=lL (xX h he) fun _ _ _ h=>ly h
theorem ax{op:CmpOp}{r':R2'}{r:R2}(ho:OpR X (compareOp op) r)(v:VR X.K B r' r)(ha:PE' X B a ta)(hb:PE' X B b tb)(hm:behindInMarks op b=false):PT' X B (.Compare a [op] [b] pos) (jj (uOp r' ta tb)) :=
 lL (sL ho ha hb hm) fun _ _ _ h=>by
  obtain⟨σ',H',Q',s,h,k⟩:=ly h
  exact jy v ⟨σ',H',Q',s,h,k⟩
def yq(r r':R2')(ta tb tc:TE'):TE':=fun σ H Q=>ta σ H fun x H1=>tb σ H1 fun y H2=>r x y H2 fun z H3=>dP z fun k=>cif k (tc σ H3 fun w' H4=>r' y w' H4 Q) (Q (.bl false) H3)
def uI(C:Int->Int->Prop)(g:Int->Int->PV):R2':=fun x y H Q=>bV x fun i=>bV y fun j=>C i j/\Q (g i j) H
def uI0(g:Int->Int->PV):R2':=fun x y H Q=>bV x fun i=>bV y fun j=>Q (g i j) H
theorem sO{K:PySem.W.Frag}{C:Int->Int->Prop}{g':Int->Int->PV}{g:Int->Int->V}(r:∀i j H,RP K H (g' i j) (g i j)):VR K B (uI C g') (rI C g):=by
 intro σ' σ H' H x' y' x y Q' Q s rx ry h k
 obtain⟨i,rfl,h1⟩:=bV.ex h
 obtain⟨j,rfl,hc,h⟩:=bV.ex h1
 simp only[RP]at rx ry
 exact⟨i,j,rx,ry,hc,k _ H' _ H h (r i j H) s (Ev.refl _ _)⟩
theorem hZ{K:PySem.W.Frag}{g':Int->Int->PV}{g:Int->Int->V}(r:∀i j H,RP K H (g' i j) (g i j)):VR K B (uI0 g') (rI0 g):=by
 intro σ' σ H' H x' y' x y Q' Q s rx ry h k
 obtain⟨i,rfl,h1⟩:=bV.ex h
 obtain⟨j,rfl,h⟩:=bV.ex h1
 simp only[RP]at rx ry
 exact⟨i,j,rx,ry,k _ H' _ H h (r i j H) s (Ev.refl _ _)⟩
abbrev Cr:R2':=uI0 fun i j=>.int (i+j)
abbrev BK:R2':=uI0 fun i j=>.int (i - j)
abbrev uLt:R2':=uI0 fun i j=>.bl (decide (i<j))
abbrev uLe:R2':=uI0 fun i j=>.bl (decide (i≤j))
abbrev uGt:R2':=uI0 fun i j=>.bl (decide (j<i))
abbrev uGe:R2':=uI0 fun i j=>.bl (decide (j≤i))
def Fit(i:Int):Prop:=i.natAbs.log2<9000
def kh(i j:Int):Prop:=xS i j∨(Fit i/\Fit j)
def qK(i j:Int):Prop:=j≠0/\Fit j
theorem kh.ok{i j:Int}(h:kh i j):IntMulOk i j:=by
 rcases h with h |⟨h1,h2⟩
 ·exact h.ok
 ·unfold IntMulOk
  have e:∀x:Int,Fit x->Builtin.Int.intBits x≤9000:=fun x hx=>by
   unfold Builtin.Int.intBits Fit at *
   split<;>omega
  have e1:=e i h1
  have e2:=e j h2
  have e3:Builtin.Int.intTooBig (Builtin.Int.intBits i+Builtin.Int.intBits j)=false:=by
   unfold Builtin.Int.intTooBig
   refine decide_eq_false ?_
   show ¬(bitsLine:Int)<_
   have hb:(18000:Nat)≤bitsLine:=by decide +kernel
   omega
  rw[e3]
  simp
abbrev Ci:R2':=uI kh fun i j=>.int (i*j)
abbrev Bp:R2':=uI qK fun i j=>.int (i.fdiv j)
theorem uK{X:Cx}:OpR X (binaryOp .Mult) (rI kh fun i j=>.int (i*j)):=opI fun _ _ _ _ _ _ _ hc q=>mul_int q hc.ok
theorem qb{X:Cx}:OpR X (binaryOp .FloorDiv) (rI qK fun i j=>.int (i.fdiv j)):=opI fun _ _ _ _ _ _ _ hc q=>floordiv_int hc.1 q (.inl (PyProof.noPylong_of_log2 hc.2))
abbrev BF:R2':=uI (fun _ j=>j≠0) fun i j=>.int (i.fmod j)
theorem cM(ha:PE' X B a ta)(hb:PE' X B b tb):PE' X B (.BinOp a .Add b pos) (uOp Cr ta tb):=fE xR (hZ fun _ _ _=>by simp[RP]) ha hb
theorem rV(ha:PE' X B a ta)(hb:PE' X B b tb):PE' X B (.BinOp a .Sub b pos) (uOp BK ta tb):=fE xa (hZ fun _ _ _=>by simp[RP]) ha hb
theorem gj(ha:PE' X B a ta)(hb:PE' X B b tb):PE' X B (.BinOp a .Mult b pos) (uOp Ci ta tb):=fE uK (sO fun _ _ _=>by simp[RP]) ha hb
theorem j6(ha:PE' X B a ta)(hb:PE' X B b tb):PE' X B (.BinOp a .FloorDiv b pos) (uOp Bp ta tb):=fE qb (sO fun _ _ _=>by simp[RP]) ha hb
theorem cL(ha:PE' X B a ta)(hb:PE' X B b tb):PE' X B (.BinOp a .Mod b pos) (uOp BF ta tb):=fE ur (sO fun _ _ _=>by simp[RP]) ha hb
theorem fh{K:PySem.W.Frag}:VR K B uLt (rI0 fun i j=>.bl (decide (i<j))):=hZ fun _ _ _=>by simp[RP]
theorem vz{K:PySem.W.Frag}:VR K B uLe (rI0 fun i j=>.bl (decide (i≤j))):=hZ fun _ _ _=>by simp[RP]
theorem gz{K:PySem.W.Frag}:VR K B uGt (rI0 fun i j=>.bl (decide (j<i))):=hZ fun _ _ _=>by simp[RP]
theorem nP{K:PySem.W.Frag}:VR K B uGe (rI0 fun i j=>.bl (decide (j≤i))):=hZ fun _ _ _=>by simp[RP]
end
end U
namespace U
open PySem PySem.Spec PyProof.Rows L2
variable {B:Bs}
section
variable {X:Cx}{a b c e o:Expr}{es rest:List Expr}{ta tb tc:TE'}{tA tB:TT'}{t:TA'}{pos:Pos}
def yU(t u:TT'):TT':=fun σ H Q=>t σ H fun c H1=>cif c (u σ H1 Q) (Q false H1)
def uOr(t u:TT'):TT':=fun σ H Q=>t σ H fun c H1=>cif c (Q true H1) (u σ H1 Q)
def A9(t:TT'):TT':=fun σ H Q=>t σ H fun c H1=>Q (!c) H1
theorem cu(ha:PT' X B a tA):PW' X B (.BoolOp .And [a] pos) tA:=sG ha
theorem bK(ha:PT' X B a tA):PW' X B (.BoolOp .Or [a] pos) tA:=wR ha
theorem c8(ha:PT' X B a tA)(hb:PW' X B (.BoolOp .And (b::rest) pos) tB):PW' X B (.BoolOp .And (a::b::rest) pos) (yU tA tB):=pV (wM ha hb) fun σ H Q ⟨σ',H',Q',s,h,k⟩=>by
 refine⟨σ',H',_,s,h,fun x H1' H1 h1 s1 e1=>?_⟩
 cases x with
 | true=>exact jI ⟨σ',H1',_,s1,h1,fun y H2' H2 h2 s2 e2=>k y H2' H2 h2 s2 (e1.trans e2)⟩
 | false=>exact jB (k false H1' H1 h1 s1 e1)
theorem bJ(ha:PT' X B a tA)(hb:PW' X B (.BoolOp .Or (b::rest) pos) tB):PW' X B (.BoolOp .Or (a::b::rest) pos) (uOr tA tB):=pV (Ae ha hb) fun σ H Q ⟨σ',H',Q',s,h,k⟩=>by
 refine⟨σ',H',_,s,h,fun x H1' H1 h1 s1 e1=>?_⟩
 cases x with
 | false=>exact jB ⟨σ',H1',_,s1,h1,fun y H2' H2 h2 s2 e2=>k y H2' H2 h2 s2 (e1.trans e2)⟩
 | true=>exact jI (k true H1' H1 h1 s1 e1)
theorem aU(h:PW' X B e tA):PT' X B e tA:=PW.pt h
theorem bz(ha:PT' X B a tA):PT' X B (.UnaryOp .Not a pos) (A9 tA):=lL (xp ha) fun σ H Q ⟨σ',H',Q',s,h,k⟩=>⟨σ',H',_,s,h,fun x H1' H1 h1 s1 e1=>k _ H1' H1 h1 s1 e1⟩
def vF(ta tb:TE'):TE':=fun σ H Q=>ta σ H fun x H1=>dP x fun c=>cif c (tb σ H1 Q) (Q (.bl false) H1)
def Dc(ta tb:TE'):TE':=fun σ H Q=>ta σ H fun x H1=>dP x fun c=>cif c (Q (.bl true) H1) (tb σ H1 Q)
def vP(ta:TE'):TE':=fun σ H Q=>ta σ H fun x H1=>dP x fun c=>Q (.bl (!c)) H1
theorem gc{op}(h:PE' X B a ta):PE' X B (.BoolOp op [a] pos) ta:=ya h
theorem gu(ha:PE' X B a ta)(hb:PE' X B (.BoolOp .And (b::rest) pos) tb):PE' X B (.BoolOp .And (a::b::rest) pos) (vF ta tb):=a8 (wq ha hb) fun σ H Q ⟨σ',H',Q',s,h,k⟩=>by
 refine⟨σ',H',_,s,h,fun x H1' v H1 h1 r1 s1 e1=>?_⟩
 obtain⟨y,rfl,h1⟩:=h1.ex
 simp only[RP]at r1
 refine⟨y,r1,?_⟩
 cases y with
 | true=>exact jI ⟨σ',H1',_,s1,h1,fun y H2' v2 H2 h2 r2 s2 e2=>k y H2' v2 H2 h2 r2 s2 (e1.trans e2)⟩
 | false=>exact jB (k _ H1' _ H1 h1 (by simp[RP]) s1 e1)
theorem xr(ha:PE' X B a ta):PE' X B (.UnaryOp .Not a pos) (vP ta):=a8 (wW ha) fun σ H Q ⟨σ',H',Q',s,h,k⟩=>by
 refine⟨σ',H',_,s,h,fun x H1' v H1 h1 r1 s1 e1=>?_⟩
 obtain⟨y,rfl,h1⟩:=h1.ex
 simp only[RP]at r1
 exact⟨y,r1,k _ H1' _ H1 h1 (by simp[RP]) s1 e1⟩
def uIf(t:TT')(ta tb:TE'):TE':=fun σ H Q=>t σ H fun c H1=>cif c (ta σ H1 Q) (tb σ H1 Q)
def uUn(r:PV->PHp->VK'->Prop)(ta:TE'):TE':=fun σ H Q=>ta σ H fun x H1=>r x H1 Q
theorem b7(ha:PE' X B a ta):PE' X B (.UnaryOp .USub a pos) (uUn (fun x H Q=>bV x fun i=>Q (.int (-i)) H) ta):=a8 (Ab wX ha) fun σ H Q ⟨σ',H',Q',s,h,k⟩=>by
 refine⟨σ',H',_,s,h,fun x H1' v H1 h1 r1 s1 e1=>?_⟩
 obtain⟨i,rfl,h1⟩:=bV.ex h1
 simp only[RP]at r1
 exact⟨i,r1,k _ H1' _ H1 h1 (by simp[RP]) s1 e1⟩
def A4:TA':=fun _ H Q=>Q [] H
def vI(ta:TE')(tr:TA'):TA':=fun σ H Q=>ta σ H fun x H1=>tr σ H1 fun xs H2=>Q (x::xs) H2
theorem ae:PA' X B [] A4:=rp dB fun σ H Q ⟨σ',H',Q',s,h,k⟩=>k [] H' [] H h (RPs.nil _) s (Ev.refl _ _)
theorem aa(ha:PE' X B e ta)(hr:PA' X B es t)(hs:starEach (e::es) X.env=(false,eval e X.env)::starEach es X.env:=by rfl):PA' X B (e::es) (vI ta t):=rp (cD ha hr hs) fun σ H Q ⟨σ',H',Q',s,h,k⟩=>by
 refine⟨σ',H',_,s,h,fun x H1' v H1 h1 r1 s1 e1=>⟨σ',H1',_,s1,h1,fun xs H2' vs H2 h2 r2 s2 e2=>?_⟩⟩
 exact k _ H2' _ H2 h2 (RPs.cons _ (RP.kp _ (e2.kp s1.hp) r1) r2) s2 (e1.trans e2)
def Ai(t:TA'):TE':=fun σ H Q=>t σ H fun xs H1=>xs.length≤sizeLine/\Q (.tup xs) H1
def AK(t:TA'):TE':=fun σ H Q=>t σ H fun xs H1=>xs.length≤sizeLine/\∀p,H1 p=none->Q (.ref p) (put H1 p (.lst xs))
theorem SR.hid{K:PySem.W.Frag}{σ':St'}{σ:L2.St}{H':PHp}{H:Hp}{p:Addr}{o:HO}(s:SR K B σ' H' σ H)(n:H p=none):SR K B σ' H' σ (upd H p o):=s.kp (Ev.hid n) (s.hp.hid n)
theorem SR.new{K:PySem.W.Frag}{σ':St'}{σ:L2.St}{H':PHp}{H:Hp}{p:Addr}{o:HO}{o':PO}(s:SR K B σ' H' σ H)(n:H p=none)(w:OAt K (upd H p o) p o'):SR K B σ' (put H' p o') σ (upd H p o):=s.kp (Ev.new n) (s.hp.new n w)
theorem SR.wr{K:PySem.W.Frag}{σ':St'}{σ:L2.St}{H':PHp}{H:Hp}{p:Addr}{o:HO}{o' u':PO}(s:SR K B σ' H' σ H)(n:H' p=some u')(w:OAt K (upd H p o) p o'):SR K B σ' (put H' p o') σ (upd H p o):=s.kp (Ev.wr n) (s.hp.wr n w)
theorem oG{K:PySem.W.Frag}{H:Hp}{p:Addr}{xs:List PV}{us:List V}(n:H p=none)(r:RPs K H xs us):RP K (upd H p (.tup us)) (.tup xs) (.ref p):=by
 simp only[RP]
 exact⟨p,us,rfl,SqT.of bB,RPs.kp K (e9 n) r⟩
theorem lA{K:PySem.W.Frag}{H:Hp}{p:Addr}{xs:List PV}{us:List V}(n:H p=none)(r:RPs K H xs us):OAt K (upd H p (.lst us)) p (.lst xs):=⟨us,bB,RPs.kp K (e9 n) r⟩
theorem wrL{K:PySem.W.Frag}{H':PHp}{H:Hp}{p:Addr}{u':PO}{xs:List PV}{us:List V}(h:HR K H' H)(n:H' p=some u')(r:RPs K H xs us):OAt K (upd H p (.lst us)) p (.lst xs):=⟨us,bB,RPs.kp K (h.kpw n) r⟩
theorem aY{x1}(h:PA' X B es t):PE' X B (.Tuple es x1 pos) (Ai t):=a8 (xi h) fun σ H Q ⟨σ',H',Q',s,h,k⟩=>by
 refine⟨σ',H',_,s,h,fun xs H1' us H1 h1 r1 s1 e1=>⟨by rw[RPs.length _ r1];exact h1.1,fun p n=>?_⟩⟩
 exact k _ H1' _ _ h1.2 (oG n r1) (s1.hid n) (e1.trans (Ev.hid n))
theorem bG(h:PA' X B es t):PE' X B (.List es pos) (AK t):=a8 (wZ h) fun σ H Q ⟨σ',H',Q',s,h,k⟩=>by
 refine⟨σ',H',_,s,h,fun xs H1' us H1 h1 r1 s1 e1=>⟨by rw[RPs.length _ r1];exact h1.1,fun p n=>?_⟩⟩
 exact k _ _ _ _ (h1.2 p (s1.hp.free n)) (by simp[RP]) (s1.new n (lA n r1)) (e1.trans (Ev.new n))
def cC(x:PV)(H:PHp)(k:List PV->Prop):Prop:=match x with
 | .tup l=>k l
 | .fls l=>k l
 | .ref a=>∃l,H a=some (.lst l)/\k l
 | _=>False
theorem cC.ex{K:PySem.W.Frag}{σ':St'}{σ:L2.St}{x:PV}{v:V}{H':PHp}{H:Hp}{k:List PV->Prop}(h:cC x H' k)(s:SR K B σ' H' σ H)(r:RP K H x v):∃l us p,v=.ref p/\RPs K H l us/\(SqL K H p us∨SqT K H p us)/\k l:=by
 unfold cC at h
 split at h
 ·simp only[RP]at r;obtain⟨a,us,e,q,r⟩:=r;exact⟨_,us,a,e,r,.inr q,h⟩
 ·simp only[RP]at r;obtain⟨a,us,e,q,r⟩:=r;exact⟨_,us,a,e,r,.inl q.sq,h⟩
 ·simp only[RP]at r
  obtain⟨l,e,h⟩:=h
  obtain⟨us,q,r2⟩:=s.hp _ _ e
  exact⟨l,us,_,r,r2,.inl (SqL.of q),h⟩
 ·exact h.elim
theorem yg{K:PySem.W.Frag}{H:Hp}{l:List PV}{us:List V}{i:Int}{x:PV}(r:RPs K H l us)(e:atI l i=some x):∃u,atI us i=some u/\RP K H x u:=by
 unfold atI at e ⊢
 rw[RPs.length _ r]
 cases q:ixN l.length i with
 | none=>rw[q]at e;cases e
 | some j =>
  rw[q]at e
  obtain⟨u,e1,e2⟩:=RPs.get _ r (show l[j]?=some x from e)
  exact⟨u,e1,e2⟩
def jv(o:Option PV)(k:PV->Prop):Prop:=match o with
 | some v=>k v
 | none=>False
theorem jv.ex{o:Option PV}{k:PV->Prop}(h:jv o k):∃v,o=some v/\k v:=by
 unfold jv at h;split at h
 ·exact⟨_,rfl,h⟩
 ·exact h.elim
def uIx:R2':=fun x y H Q=>cC x H fun l=>bV y fun i=>jv (atI l i) fun v=>Q v H
theorem u9{X:Cx}:IxR X (fun x y H Q=>v5 X.K x y H Q∨yu X.K x y H Q):=tT.or xn
theorem yV{K:PySem.W.Frag}:VR K B uIx (fun x y H Q=>v5 K x y H Q∨yu K x y H Q):=by
 intro σ' σ H' H x' y' x y Q' Q s rx ry h k
 obtain⟨l,us,p,rfl,r,q,h1⟩:=cC.ex h s rx
 obtain⟨i,rfl,h2⟩:=bV.ex h1
 obtain⟨v,e,h3⟩:=jv.ex h2
 simp only[RP]at ry
 obtain⟨u,e1,e2⟩:=yg r e
 have:=k v H' u H h3 e2 s (Ev.refl _ _)
 rcases q with q | q
 ·exact .inl ⟨p,us,i,u,rfl,ry,q,e1,this⟩
 ·exact .inr ⟨p,us,i,u,rfl,ry,q,e1,this⟩
theorem aw(ha:PE' X B a ta)(hb:PE' X B b tb)(hs:m3 b):PE' X B (.Subscript a b pos) (uOp uIx ta tb):=a8 (zQ u9 ha hb hs) fun _ _ _ h=>jy yV h
abbrev TO':=St'->PHp->(Option Int->PHp->Prop)->Prop
def B6(K:PySem.W.Frag)(B:Bs)(t:TO'):TO:=fun σ H Q=>∃σ' H' Q',SR K B σ' H' σ H/\t σ' H' Q'/\∀b H1' H1,Q' b H1'->SR K B σ' H1' σ H1->Ev H' H H1' H1->Q b H1
abbrev PO'(X:Cx)(B:Bs)(e:Option Expr)(t:TO'):Prop:=L2.PO X e (B6 X.K B t)
theorem rW{e:Option Expr}{t1 t2:TO}(h:L2.PO X e t2)(i:∀σ H Q,t1 σ H Q->t2 σ H Q):L2.PO X e t1:=fun pins s σ H Q I q=>h pins s σ H Q I (i σ H Q q)
def nz:TO':=fun _ H Q=>Q none H
def ve(t:TE'):TO':=fun σ H Q=>t σ H fun x H1=>bV x fun i=>Q (some i) H1
theorem fN:PO' X B none nz:=rW uX fun σ H Q ⟨σ',H',Q',s,h,k⟩=>k none H' H h s (Ev.refl _ _)
theorem dD(h:PE' X B e ta):PO' X B (some e) (ve ta):=rW (uW h) fun σ H Q ⟨σ',H',Q',s,h,k⟩=>by
 refine⟨σ',H',_,s,h,fun x H1' v H1 h1 r1 s1 e1=>?_⟩
 obtain⟨i,rfl,h1⟩:=bV.ex h1
 simp only[RP]at r1
 exact⟨i,r1,k _ H1' H1 h1 s1 e1⟩
def cN(xs:List PV)(lo hi:Option Int):List PV:=(xs.drop (HT.sIx xs.length 0 lo)).take (HT.sIx xs.length xs.length hi - HT.sIx xs.length 0 lo)
theorem jL{K:PySem.W.Frag}{H:Hp}{l:List PV}{us:List V}{lo hi:Option Int}(r:RPs K H l us):RPs K H (cN l lo hi) (jW us lo hi):=by
 unfold cN jW
 rw[RPs.length _ r]
 exact RPs.take _ _ (RPs.drop _ _ r)
def sliceOf(x:PV)(lo hi:Option Int)(H3:PHp)(Q:VK'):Prop:=match x with
 | .fls l=>∀p,H3 p=none->Q (.ref p) (put H3 p (.lst (cN l lo hi)))
 | .ref a=>∃l,H3 a=some (.lst l)/\∀p,H3 p=none->Q (.ref p) (put H3 p (.lst (cN l lo hi)))
 | .tup l=>¬(HT.sIx l.length 0 lo=0/\HT.sIx l.length l.length hi=l.length)/\Q (.tup (cN l lo hi)) H3
 | _=>False
def pq(ta:TE')(tl th:TO'):TE':=fun σ H Q=>ta σ H fun x H1=>tl σ H1 fun lo H2=>th σ H2 fun hi H3=>sliceOf x lo hi H3 Q
theorem fc{lo hi:Option Expr}{tl th:TO'}{p2:Pos}(he:PE' X B e ta)(hl:PO' X B lo tl)(hu:PO' X B hi th):PE' X B (.Subscript e (.Slice lo hi none p2) pos) (pq ta tl th) :=
 a8 (kf (uT.or qG) he hl hu) fun σ H Q ⟨σ',H',Q',s,h,k⟩=>by
 refine⟨σ',H',_,s,h,fun x H1' v H1 h1 r1 s1 e1=>⟨σ',H1',_,s1,h1,fun l H2' H2 h2 s2 e2=>⟨σ',H2',_,s2,h2,fun u H3' H3 h3 s3 e3=>?_⟩⟩⟩
 have r3:=RP.kp _ (e3.kp s2.hp) (RP.kp _ (e2.kp s1.hp) r1)
 have e123:=e1.trans (e2.trans e3)
 cases x with
 | fls xs =>
  simp only[RP]at r3
  obtain⟨a,us,e,q,r⟩:=r3
  refine .inl ⟨a,us,e,q.sq,fun p n=>?_⟩
  exact k _ _ _ _ (h3 p (s3.hp.free n)) (by simp[RP]) (s3.new n (lA n (jL r))) (e123.trans (Ev.new n))
 | ref a =>
  simp only[RP]at r3
  obtain⟨xs,q,h3⟩:=h3
  obtain⟨us,q2,r⟩:=s3.hp _ _ q
  refine .inl ⟨a,us,r3,SqL.of q2,fun p n=>?_⟩
  exact k _ _ _ _ (h3 p (s3.hp.free n)) (by simp[RP]) (s3.new n (lA n (jL r))) (e123.trans (Ev.new n))
 | tup xs =>
  simp only[RP]at r3
  obtain⟨a,us,e,q,r⟩:=r3
  refine .inr ⟨a,us,e,q,by rw[RPs.length _ r];exact h3.1,fun p n=>?_⟩
  exact k _ _ _ _ h3.2 (oG n (jL r)) (s3.hid n) (e123.trans (Ev.hid n))
 | _=>exact h3.elim
def VC(K:PySem.W.Frag)(B:Bs)(r':List PV->PHp->VK'->Prop)(r:List V->Hp->VK->Prop):Prop:=∀(σ':St') (σ:L2.St) (H':PHp) (H:Hp) xs' xs (Q':VK') (Q:VK),SR K B σ' H' σ H->RPs K H xs' xs->r' xs' H' Q' ->
 (∀v' H1' v H1,Q' v' H1'->RP K H1 v' v->SR K B σ' H1' σ H1->Ev H' H H1' H1->Q v H1)->r xs H Q
def uCB(r:List PV->PHp->VK'->Prop)(t:TA'):TE':=fun σ H Q=>t σ H fun vs H1=>r vs H1 Q
theorem pH{K:PySem.W.Frag}{r':List PV->PHp->VK'->Prop}{r:List V->Hp->VK->Prop}{t:TA'}(v:VC K B r' r){σ:L2.St}{H:Hp}{Q:VK}(h:low K B (uCB r' t) σ H Q):tCB r (qC K B t) σ H Q:=by
 obtain⟨σ',H',Q',s,h,k⟩:=h
 exact⟨σ',H',_,s,h,fun xs' H1' xs H1 h1 rx s1 e1=>v σ' σ H1' H1 xs' xs Q' Q s1 rx h1 fun v' H3' v H3 q rv s3 e3=>k v' H3' v H3 q rv s3 (e1.trans e3)⟩
variable {x:Str}{p:Pos}
theorem aA{id:String}{r':List PV->PHp->VK'->Prop}{r:List V->Hp->VK->Prop}(hc:cb X (.builtin id) r)(v:VC X.K B r' r)(hg:Gl X x)(hm:X.mg x=none)(hv:bootBuiltins x=some (.builtin id))(ha:PA' X B (e::es) t)
  (hn:x≠"__name__":=by decide) (hdb:(x==("__debug__":Str))=false:=by decide) (he:starEach (e::es) X.env=(false,eval e X.env)::starEach es X.env:=by rfl) (hpl:(backTo pos (starEach es X.env)).any (·.1)=false:=by rfl) :
  PE' X B (.Call (.Name x p) (e::es) [] pos) (uCB r' t):=a8 (dR hc hg hm hv ha hn hdb he hpl) fun _ _ _ h=>pH v h
theorem aP{id:String}{r':List PV->PHp->VK'->Prop}{r:List V->Hp->VK->Prop}(hc:cb X (.type id) r)(v:VC X.K B r' r)(hg:Gl X x)(hm:X.mg x=none)(hv:bootBuiltins x=some (.type id))(ha:PA' X B (e::es) t)
  (hn:x≠"__name__":=by decide) (hdb:(x==("__debug__":Str))=false:=by decide) (he:starEach (e::es) X.env=(false,eval e X.env)::starEach es X.env:=by rfl) (hpl:(backTo pos (starEach es X.env)).any (·.1)=false:=by rfl) :
  PE' X B (.Call (.Name x p) (e::es) [] pos) (uCB r' t):=a8 (dj hc hg hm hv ha hn hdb he hpl) fun _ _ _ h=>pH v h
def dc(f:PV->PHp->VK'->Prop):List PV->PHp->VK'->Prop:=fun xs H Q=>match xs with
 | [x]=>f x H Q
 | _=>False
theorem dc.ex{K:PySem.W.Frag}{H:Hp}{f:PV->PHp->VK'->Prop}{xs':List PV}{xs:List V}{H':PHp}{Q':VK'}(h:dc f xs' H' Q')(r:RPs K H xs' xs):∃x' x,xs'=[x']/\xs=[x]/\RP K H x' x/\f x' H' Q':=by
 unfold dc at h
 split at h
 ·simp only[RPs]at r
  obtain⟨u,r,rfl,q,rfl⟩:=r
  exact⟨_,u,rfl,rfl,q,h⟩
 ·exact h.elim
def zf:List PV->PHp->VK'->Prop:=dc fun x H Q=>cC x H fun l=>Q (.int l.length) H
theorem ba{K:PySem.W.Frag}:VC K B zf (fun xs H Q=>∃p ys,xs=[.ref p]/\(SqL K H p ys∨SqT K H p ys)/\Q (.int ys.length) H):=by
 intro σ' σ H' H xs' xs Q' Q s r h k
 obtain⟨x',x,rfl,rfl,rx,h⟩:=dc.ex h r
 obtain⟨l,us,p,rfl,r,q,h⟩:=cC.ex h s rx
 exact⟨p,us,rfl,q,k _ H' _ H h (by simp[RP,RPs.length _ r]) s (Ev.refl _ _)⟩
def DH:List PV->PHp->VK'->Prop:=dc fun x H Q=>bV x fun i=>Q (.int (if i<0 then -i else i)) H
def b2n(b:Bool):Int:=if b then 1 else 0
def intOf(x:PV)(k:Int->Prop):Prop:=match x with
 | .int i=>k i
 | .bl b=>k (b2n b)
 | _=>False
def Eb:List PV->PHp->VK'->Prop:=dc fun x H Q=>intOf x fun i=>Q (.int i) H
def vM:List PV->PHp->VK'->Prop:=dc fun x H Q=>cC x H fun l=>∀p,H p=none->Q (.ref p) (put H p (.lst l))
theorem fS{K:PySem.W.Frag}:VC K B vM (fun xs H Q=>∃p ys,xs=[.ref p]/\(SqL K H p ys∨SqT K H p ys)/\∀l,H l=none->Q (.ref l) (upd H l (.lst ys))):=by
 intro σ' σ H' H xs' xs Q' Q s r h k
 obtain⟨x',x,rfl,rfl,rx,h⟩:=dc.ex h r
 obtain⟨l,us,p,rfl,r,q,h⟩:=cC.ex h s rx
 exact⟨p,us,rfl,q,fun p n=>k _ _ _ _ (h p (s.hp.free n)) (by simp[RP]) (s.new n (lA n r)) (Ev.new n)⟩
def rS:List PV->PHp->VK'->Prop:=dc fun x H Q=>cC x H fun l=>Q (.tup l) H
theorem a9{K:PySem.W.Frag}:VC K B rS (fun xs H Q=>∃p ys,xs=[.ref p]/\((SqL K H p ys/\∀l,H l=none->Q (.ref l) (upd H l (.tup ys)))∨(SqT K H p ys/\Q (.ref p) H))):=by
 intro σ' σ H' H xs' xs Q' Q s r h k
 obtain⟨x',x,rfl,rfl,rx,h⟩:=dc.ex h r
 obtain⟨l,us,p,rfl,r,q,h⟩:=cC.ex h s rx
 refine⟨p,us,rfl,?_⟩
 rcases q with q | q
 ·exact .inl ⟨q,fun p n=>k _ _ _ _ h (oG n r) (s.hid n) (Ev.hid n)⟩
 ·exact .inr ⟨q,k _ _ _ _ h (by simp only[RP];exact⟨p,us,rfl,q,r⟩) s (Ev.refl _ _)⟩
end
end U
namespace U
open PySem PySem.Spec PyProof.Rows L2
variable {B:Bs}
section
variable {X:Cx}{a b c e o:Expr}{es:List Expr}{ta tb te:TE'}{tA tB:TT'}{st:Stmt}{sts:List Stmt}{t u:TS'}{pos:Pos}
def vK:TS':=fun D σ H=>D.nx σ H
def sv(t u:TS'):TS':=fun D σ H=>t { D with nx:=u D } σ H
theorem aF:ix X B [] vK:=nN tZ fun D σ H ⟨σ',H',D',s,h,d⟩=>d.nx _ _ _ _ h s (Ev.refl _ _)
theorem af(h1:PS' X B st t)(h2:ix X B sts u):ix X B (st::sts) (sv t u):=nN (rL h1 h2) fun D σ H ⟨σ',H',D',s,h,d⟩ =>
 ⟨σ',H',_,s,h,fun σ1' H1' σ1 H1 h1 s1 e1=>⟨σ1',H1',D',s1,h1,d.ev _ _ e1⟩,d.rt,d.bk,d.ct⟩
theorem aq(h1:PS' X B st t):ix X B [st] t:=uu h1
def w8:TS':=fun D σ H=>D.bk σ H
def zg:TS':=fun D σ H=>D.ct σ H
def vn(te:TE'):TS':=fun D σ H=>te σ H fun _ H1=>D.nx σ H1
theorem aT(he:PE' X B e te)(hs:swapsWith e none pos.line X.env=pure false:=by rfl):PS' X B (.Expr e pos) (vn te):=da (ud he hs) fun D σ H ⟨σ',H',D',s,h,d⟩ =>
 ⟨σ',H',_,s,h,fun v' H1' v H1 h1 r1 s1 e1=>d.nx _ _ _ _ h1 s1 e1⟩
def Au(te:TE'):TS':=fun D σ H=>te σ H D.rt
theorem aB(he:PE' X B e te):PS' X B (.Return (some e) pos) (Au te):=da (xT he) fun D σ H ⟨σ',H',D',s,h,d⟩ =>
 ⟨σ',H',_,s,h,fun v' H1' v H1 h1 r1 s1 e1=>d.rt _ _ _ _ h1 r1 s1.hp e1⟩
def zG:TS':=fun D _ H=>D.rt .non H
def Af(c:TT')(t u:TS'):TS':=fun D σ H=>c σ H fun b H1=>cif b (t D σ H1) (u D σ H1)
theorem aO{l1 l2:List Stmt}(hc:PT' X B c tA)(ha:ix X B l1 t)(hb:ix X B l2 u):PS' X B (.If c l1 l2 pos) (Af tA t u):=da (y9 hc ha hb) fun D σ H ⟨σ',H',D',s,h,d⟩=>by
 refine⟨σ',H',_,s,h,fun x H1' H1 h1 s1 e1=>?_⟩
 cases x with
 | true=>exact jI ⟨σ',H1',D',s1,h1,d.ev _ _ e1⟩
 | false=>exact jB ⟨σ',H1',D',s1,h1,d.ev _ _ e1⟩
def xo:TS':=fun _ _ _=>False
theorem bC:ix X B sts xo:=fun _ _ _ _ _ _ ⟨_,_,_,_,h,_⟩=>h.elim
def ju(i:Nat):TG':=fun v σ H Q=>Q (σ.set i (some v)) H
theorem SR.set{K:PySem.W.Frag}{σ':St'}{H':PHp}{σ:L2.St}{H:Hp}{v':PV}{v:V}(s:SR K B σ' H' σ H)(r:RP K H v' v)(i:Nat):SR K B (σ'.set i (some v')) H' (σ.set i (some v)) H:=by
 refine⟨by simp[s.len],fun j w e=>?_,s.hp,s.ev⟩
 by_cases hj:i=j
 ·subst hj
  have hl:i<σ'.length:=by
   rcases Nat.lt_or_ge i σ'.length with h | h
   ·exact h
   ·rw[List.getElem?_eq_none (by simpa using h)]at e;cases e
  rw[List.getElem?_set_self hl]at e
  cases e
  exact⟨v,List.getElem?_set_self (by rw[←s.len];exact hl),r⟩
 ·rw[List.getElem?_set_ne hj]at e ⊢
  exact s.loc j w e
theorem av{i:Nat}{x:Str}(hN:X.N.Nodup)(hi:X.N[i]?=some x)(hx:Loc X.env.scope x)(hf:X.fn x=true∨X.env.scope.names.lookup x=some .local:=by first | exact .inl rfl | exact .inr rfl | assumption):PG' X B (.Name x pos) (ju i) :=
 jQ (tS hN hi hx hf) fun v σ H Q ⟨v',σ',H',Q',r,s,h,k⟩=>k _ _ _ _ h (s.set r i) (Ev.refl _ _)
def xV:gg:=fun vs σ H Q=>vs=[]/\Q σ H
def vf(t:TG')(u:gg):gg:=fun vs σ H Q=>match vs with
 | v::r=>t v σ H fun σ' H'=>u r σ' H' Q
 | []=>False
theorem bY:qd X B [] xV:=nU uD fun vs σ H Q ⟨v',σ',H',Q',r,s,h,k⟩=>by
 obtain⟨rfl,h⟩:=h
 simp only[RPs]at r
 exact⟨r,k _ _ _ _ h s (Ev.refl _ _)⟩
theorem aS{t:TG'}{u:gg}(h1:PG' X B e t)(h2:qd X B es u)(hs:(assignEach (e::es) X.env).map (·.2)=assign e X.env::(assignEach es X.env).map (·.2):=by rfl):qd X B (e::es) (vf t u) :=
 nU (qY h1 h2 hs) fun vs σ H Q ⟨vs',σ',H',Q',r,s,h,k⟩=>by
 cases vs' with
 | nil=>exact h.elim
 | cons v' r' =>
  simp only[RPs]at r
  obtain⟨v,w,rfl,rv,rw'⟩:=r
  refine⟨v,w,rfl,v',σ',H',_,rv,s,h,fun σ1' H1' σ1 H1 h1 s1 e1=>⟨r',σ1',H1',Q',RPs.kp _ (e1.kp s.hp) rw',s1,h1,fun σ2' H2' σ2 H2 h2 s2 e2=>k _ _ _ _ h2 s2 (e1.trans e2)⟩⟩
def Bm(n:Nat)(t:gg):TG':=fun v σ H Q=>match v with
 | .tup l=>l.length=n/\t l σ H Q
 | _=>False
theorem cJ{k:Nat}{t:gg}{n:Nat}(hc:X.calm=true)(h:qd X B es t)(hn:(assignEach es X.env).length=n:=by rfl)(hst:(assignEach es X.env).findIdx? (·.1)=none:=by rfl):PG' X B (.Tuple es k pos) (Bm n t) :=
 jQ (wV hc h hn hst) fun v σ H Q ⟨v',σ',H',Q',r,s,h,k⟩=>by
 cases v' with
 | tup l =>
  obtain⟨hl,h⟩:=h
  simp only[RP]at r
  obtain⟨a,us,rfl,q,r⟩:=r
  exact⟨a,us,rfl,q,by rw[RPs.length _ r];exact hl,l,σ',H',Q',r,s,h,k⟩
 | _=>exact h.elim
def rm(te:TE')(g:TG'):TS':=fun D σ H=>te σ H fun x H1=>g x σ H1 D.nx
theorem ub{K:PySem.W.Frag}{te:TE'}{g:TG'}{D:Ends}{σ:L2.St}{H:Hp}(h:xQ K B (rm te g) D σ H):uw (low K B te) (lowG K B g) D σ H:=by
 obtain⟨σ',H',D',s,h,d⟩:=h
 exact⟨σ',H',_,s,h,fun x H1' v H1 h1 r1 s1 e1=>⟨x,σ',H1',_,r1,s1,h1,fun σ2' H2' σ2 H2 h2 s2 e2=>d.nx _ _ _ _ h2 s2 (e1.trans e2)⟩⟩
theorem iy{tg:Expr}{g:TG'}(he:PE' X B e te)(hg:PG' X B tg g)(hs:swapsWithSole [tg] e pos.line X.env=pure false:=by rfl)(hw:swappedStores [tg] e X.env=pure none:=by rfl)
  (h1:(assignEach [tg] X.env).map (·.2)=[assign tg X.env]:=by rfl):PS' X B (.Assign [tg] e pos) (rm te g):=da (xF he hg hs hw h1) fun _ _ _ h=>ub h
theorem aK{i:Nat}{x:Str}{pos':Pos}(hN:X.N.Nodup)(hi:X.N[i]?=some x)(hx:Loc X.env.scope x)(he:PE' X B e te)(hs:swapsWith e (some (.Name x pos')) pos.line X.env=pure false:=by rfl)(hf:X.fn x=true∨X.env.scope.names.lookup x=some .local:=by first | exact .inl rfl | exact .inr rfl | assumption) :
  PS' X B (.Assign [.Name x pos'] e pos) (rm te (ju i)):=da (xB hN hi hx he hs hf) fun D σ H h=>by
 obtain⟨σ',H',D',s,h,d⟩:=h
 exact⟨σ',H',_,s,h,fun x H1' v H1 h1 r1 s1 e1=>d.nx _ _ _ _ h1 (s1.set r1 i) e1⟩
def j7(c:TT')(tb:TS'):TS':=fun D σ H=>∃W:Nat->St'->PHp->Prop,(∃m,W m σ H)/\∀m σ H,W m σ H ->
 c σ H fun b H1=>cif b (∃N:St'->PHp->Prop,(∀σ' H',N σ' H'->∃m',m'<m/\W m' σ' H')/\tb { D with nx:=N,ct:=N,bk:=D.nx } σ H1) (D.nx σ H1)
theorem eQ{body:List Stmt}(hp:PassesOwn (model X.prog X.w) X.A X.env X.xe)(hc:PT' X B c tA)(hb:ix X B body t):PS' X B (.While c body [] pos) (j7 tA t):=da (rj hp hc hb) fun D σ H ⟨σ',H',D',s,⟨W,⟨m0,w0⟩,turn⟩,d⟩=>by
 refine⟨fun m σ1 H1=>∃σ1' H1',SR X.K B σ1' H1' σ1 H1/\Ev H' H H1' H1/\W m σ1' H1',⟨m0,σ',H',s,Ev.refl _ _,w0⟩,?_⟩
 rintro m σ1 H1 ⟨σ1',H1',s1,e1,w1⟩
 refine⟨σ1',H1',_,s1,turn m σ1' H1' w1,fun x H2' H2 h2 s2 e2=>?_⟩
 cases x with
 | false=>exact jB (d.nx _ _ _ _ h2 s2 (e1.trans e2))
 | true =>
  obtain⟨N,hN,h2⟩:=(show ∃N:St'->PHp->Prop,_ from h2)
  refine jI ⟨fun σ3 H3=>∃σ3' H3',SR X.K B σ3' H3' σ3 H3/\Ev H' H H3' H3/\N σ3' H3',?_,σ1',H2',_,s2,h2,?_,?_,?_,?_⟩
  ·rintro σ3 H3 ⟨σ3',H3',s3,e3,n3⟩
   obtain⟨m',hm,w'⟩:=hN _ _ n3
   exact⟨m',hm,σ3',H3',s3,e3,w'⟩
  ·intro σ3' H3' σ3 H3 n3 s3 e3
   exact⟨σ3',H3',s3,(e1.trans e2).trans e3,n3⟩
  ·intro v' H3' v H3 n3 r3 s3 e3
   exact d.rt _ _ _ _ n3 r3 s3 ((e1.trans e2).trans e3)
  ·intro σ3' H3' σ3 H3 n3 s3 e3
   exact d.nx _ _ _ _ n3 s3 ((e1.trans e2).trans e3)
  ·intro σ3' H3' σ3 H3 n3 s3 e3
   exact⟨σ3',H3',s3,(e1.trans e2).trans e3,n3⟩
theorem dM{c:TT'}{tb:TS'}{D:eF}{σ:St'}{H:PHp}(Pv:Nat->St'->PHp->Prop)(m0:Nat)(h0:Pv m0 σ H)
  (hs:∀m σ H,Pv m σ H->c σ H fun b H1=>cif b (∃N:St'->PHp->Prop,(∀σ' H',N σ' H'->∃m',m'<m/\Pv m' σ' H')/\tb { D with nx:=N,ct:=N,bk:=D.nx } σ H1) (D.nx σ H1)):j7 c tb D σ H:=⟨Pv,⟨m0,h0⟩,hs⟩
def dN(ok:PHp->Prop)(g:TG')(tb:TS')(D:eF):List PV->St'->PHp->Prop
 | [],σ,H=>ok H/\D.nx σ H
 | x::r,σ,H=>ok H/\g x σ H fun σ2 H2=>tb { D with nx:=dN ok g tb D r,ct:=dN ok g tb D r,bk:=D.nx } σ2 H2
def yO(wi:TI')(g:TG')(tb:TS'):TS':=fun D σ H=>wi σ H fun J H1=>dN J.ok g tb D J.items σ H1
theorem bL{iter tg:Expr}{body:List Stmt}{wi:TI'}{g:TG'}(hp:PassesOwn (model X.prog X.w) X.A X.env X.xe)(hc:X.calm=true)(hi:PI' X B tg iter wi)(hg:PG' X B tg g)(hb:ix X B body t)
  (hs:∀x,foldedSetIterable iter X.env x=pure x:=by intro _;rfl):PS' X B (.For tg iter body [] pos) (yO wi g t):=da (rF hp hc hi hg hb hs) fun D σ H ⟨σ',H',D',s,h,d⟩=>by
 refine⟨σ',H',_,s,h,fun J' H1' J H1 h1 wk s1 e1=>?_⟩
 refine⟨fun i m σ2 H2=>i≤J'.items.length/\m=J'.items.length - i/\∃σ2' H2',SR X.K B σ2' H2' σ2 H2/\Ev H1' H1 H2' H2/\dN J'.ok g t D' (J'.items.drop i) σ2' H2',⟨J'.items.length,Nat.zero_le _,by simp,σ',H1',s1,Ev.refl _ _,h1⟩,?_⟩
 rintro i m σ2 H2 ⟨hi,rfl,σ2',H2',s2,e2,h2⟩
 have k2:=e2.kp s1.hp
 by_cases hlt:i<J'.items.length
 ·obtain⟨x',hx⟩:∃x',J'.items[i]?=some x':=⟨_,List.getElem?_eq_getElem hlt⟩
  have hd:J'.items.drop i=x'::J'.items.drop (i+1):=by
   rw[List.drop_eq_getElem_cons hlt]
   rw[List.getElem?_eq_getElem hlt]at hx
   cases hx;rfl
  rw[hd]at h2
  obtain⟨ok2,h2⟩:=(show J'.ok H2'/\_ from h2)
  refine .inr ⟨wk.go H2' H2 i k2 s2.hp ok2 hlt,fun σ3 H3=>∃σ3' H3',SR X.K B σ3' H3' σ3 H3/\Ev H1' H1 H3' H3/\dN J'.ok g t D' (J'.items.drop (i+1)) σ3' H3',?_,fun x H3 y=>?_⟩
  ·rintro σ3 H3 ⟨σ3',H3',s3,e3,h3⟩
   exact⟨J'.items.length - (i+1),by omega,hlt,rfl,σ3',H3',s3,e3,h3⟩
  ·obtain⟨rfl,rx⟩:=wk.yld H2' H2 i x H3 k2 s2.hp ok2 y
   refine⟨x',σ2',H2',_,rx x' hx,s2,h2,fun σ3' H3' σ3 H3 h3 s3 e3=>⟨σ3',H3',_,s3,h3,?_,?_,?_,?_⟩⟩
   ·intro σ4' H4' σ4 H4 h4 s4 e4
    exact⟨σ4',H4',s4,e2.trans (e3.trans e4),h4⟩
   ·intro v' H4' v H4 h4 r4 s4 e4
    exact d.rt _ _ _ _ h4 r4 s4 (e1.trans (e2.trans (e3.trans e4)))
   ·intro σ4' H4' σ4 H4 h4 s4 e4
    exact d.nx _ _ _ _ h4 s4 (e1.trans (e2.trans (e3.trans e4)))
   ·intro σ4' H4' σ4 H4 h4 s4 e4
    exact⟨σ4',H4',s4,e2.trans (e3.trans e4),h4⟩
 ·have hi':i=J'.items.length:=by omega
  subst hi'
  rw[List.drop_length]at h2
  obtain⟨ok2,h2⟩:=(show J'.ok H2'/\_ from h2)
  exact .inl ⟨wk.stop H2' H2 _ k2 s2.hp ok2 (Nat.le_refl _),d.nx _ _ _ _ h2 s2 (e1.trans e2)⟩
def tK(x:PV)(H1:PHp)(R:It'->PHp->Prop):Prop:=match x with
 | .tup l=>R ⟨l,fun _=>True⟩ H1
 | .fls l=>R ⟨l,fun _=>True⟩ H1
 | .ref a=>∃l,H1 a=some (.lst l)/\R ⟨l,fun H=>H a=some (.lst l)⟩ H1
 | _=>False
def vc(ta:TE'):TI':=fun σ H R=>ta σ H fun x H1=>tK x H1 R
def CO(K:PySem.W.Frag)(tl:TE):TI:=fun σ H R=>tl σ H fun x H1=>∃a,x=.ref a/\((∃xs,SqL K H1 a xs)/\R (Itl K a) H1∨(∃xs,SqT K H1 a xs)/\R (Itt K a) H1)
theorem xg{tg l:Expr}{tl:TE}(hl:PE X l tl):PI X tg l (CO X.K tl):=by
 intro pins s σ H R I h
 refine thn (hl pins s σ H _ I h) fun v s1 ⟨x,H1,I1,r1,q1⟩=>?_
 obtain⟨a,e,⟨⟨xs,hq⟩,q⟩ |⟨⟨xs,hq⟩,q⟩⟩:=q1
 ·subst e
  cases r1
  obtain⟨its,rv,p,hz⟩:=I1.list hq
  refine wpAny_pyIter_list p.isList ?_
  refine⟨s1.heap.objs.size,[s1.heap.objs.size],_,_,H1,rfl,I1.kept (t':=s1.toks) fun b o e=>Heap.get?_push_of_some _ e,oI a _,⟨_,Heap.get?_push_size _ rfl,rfl,rfl⟩,fun b hb=>?_,q⟩
  have e:b=s1.heap.objs.size:=by simpa using hb
  subst e
  exact I1.fpOk (Nat.le_refl _) (I1.hok.fresh (Nat.le_refl _))
 ·subst e
  cases r1
  obtain⟨its,rv,p,hz⟩:=I1.tuple hq
  refine wpAny_pyIter_tuple (show s1.heap.IsTuple a its.toArray from p) ?_
  refine⟨s1.heap.objs.size,[s1.heap.objs.size],_,_,H1,rfl,I1.kept (t':=s1.toks) fun b o e=>Heap.get?_push_of_some _ e,mw a _,⟨_,Heap.get?_push_size _ rfl,rfl,rfl⟩,fun b hb=>?_,q⟩
  have e:b=s1.heap.objs.size:=by simpa using hb
  subst e
  exact I1.fpOk (Nat.le_refl _) (I1.hok.fresh (Nat.le_refl _))
theorem ik{K:PySem.W.Frag}{H1:Hp}{J':It'}{a:Addr}(h:∀H' H,Kp H1 H->HR K H' H->J'.ok H'->∃us,SqL K H a us/\RPs K H J'.items us):Walks K H1 (Itl K a) J' where
 go:=fun H' H i k s o hi=>by
  obtain⟨us,q,r⟩:=h H' H k s o
  obtain⟨u,e,_⟩:=RPs.get _ r (List.getElem?_eq_getElem hi)
  exact⟨us,u,q,e⟩
 yld:=fun H' H i x H2 k s o y=>by
  obtain⟨us,q,r⟩:=h H' H k s o
  refine⟨y.1,fun x' hx=>?_⟩
  obtain⟨u,e,ru⟩:=RPs.get _ r hx
  have:=y.2 us q
  rw[e]at this;cases this;exact ru
 stop:=fun H' H i k s o hi=>by
  obtain⟨us,q,r⟩:=h H' H k s o
  exact⟨us,q,by rw[RPs.length _ r];exact hi⟩
theorem oJ{K:PySem.W.Frag}{H1:Hp}{J':It'}{a:Addr}(h:∀H' H,Kp H1 H->HR K H' H->J'.ok H'->∃us,SqT K H a us/\RPs K H J'.items us):Walks K H1 (Itt K a) J' where
 go:=fun H' H i k s o hi=>by
  obtain⟨us,q,r⟩:=h H' H k s o
  obtain⟨u,e,_⟩:=RPs.get _ r (List.getElem?_eq_getElem hi)
  exact⟨us,u,q,e⟩
 yld:=fun H' H i x H2 k s o y=>by
  obtain⟨us,q,r⟩:=h H' H k s o
  refine⟨y.1,fun x' hx=>?_⟩
  obtain⟨u,e,ru⟩:=RPs.get _ r hx
  have:=y.2 us q
  rw[e]at this;cases this;exact ru
 stop:=fun H' H i k s o hi=>by
  obtain⟨us,q,r⟩:=h H' H k s o
  exact⟨us,q,by rw[RPs.length _ r];exact hi⟩
theorem aM{tg:Expr}(ha:PE' X B a ta):PI' X B tg a (vc ta):=gw (xg ha) fun σ H R ⟨σ',H',R',s,h,k⟩=>by
 refine⟨σ',H',_,s,h,fun x' H1' x H1 h1 r1 s1 e1=>?_⟩
 cases x' with
 | tup l =>
  simp only[RP]at r1
  obtain⟨p,us,rfl,q,r⟩:=r1
  exact⟨p,rfl,.inr ⟨⟨us,q⟩,k _ H1' _ H1 h1 (oJ fun _ H2 k2 _ _=>⟨us,k2.sqT q,RPs.kp _ k2 r⟩) s1 e1⟩⟩
 | fls l =>
  simp only[RP]at r1
  obtain⟨p,us,rfl,q,r⟩:=r1
  exact⟨p,rfl,.inl ⟨⟨us,q.sq⟩,k _ H1' _ H1 h1 (ik fun _ H2 k2 _ _=>⟨us,(k2.fzL q).sq,RPs.kp _ k2 r⟩) s1 e1⟩⟩
 | ref p =>
  simp only[RP]at r1
  obtain⟨l,q,h1⟩:=h1
  obtain⟨us,q2,r⟩:=s1.hp _ _ q
  refine⟨p,r1,.inl ⟨⟨us,SqL.of q2⟩,k _ H1' _ H1 h1 (ik fun H2' H2 k2 s2 o2=>?_) s1 e1⟩⟩
  obtain⟨us2,q3,r3⟩:=s2 _ _ o2
  exact⟨us2,SqL.of q3,r3⟩
 | _=>exact h1.elim
def cU(lo:Int)(n:Nat):List PV:=(List.range n).map fun k=>PV.int (lo+(k:Nat))
theorem jt{K:PySem.W.Frag}{H1:Hp}{lo:Int}{n:Nat}:Walks K H1 (Itr lo n) ⟨cU lo n,fun _=>True⟩ where
 go:=fun H' H i k s o hi=>by
  have h:i<n:=by simpa[cU]using hi
  exact h
 yld:=fun H' H i x H2 k s o y=>by
  obtain⟨e,rfl⟩:=y
  refine⟨e,fun x' hx=>?_⟩
  simp only[cU,List.getElem?_map]at hx
  cases q:(List.range n)[i]? with
  | none=>rw[q]at hx;cases hx
  | some j =>
   rw[q]at hx
   obtain⟨h1,h2⟩:=List.getElem?_eq_some_iff.mp q
   rw[List.getElem_range]at h2
   subst h2
   cases hx
   simp[RP]
 stop:=fun H' H i k s o hi=>by
  have h:n≤i:=by simpa[cU]using hi
  exact h
def tH(vs:List PV)(H1:PHp)(R:It'->PHp->Prop):Prop:=match vs with
 | [.int j]=>(-(2 ^ 62)≤j/\j<2 ^ 62)/\R ⟨cU 0 j.toNat,fun _=>True⟩ H1
 | _=>False
def vN(t:TA'):TI':=fun σ H R=>t σ H fun vs H1=>tH vs H1 R
def uS(vs:List PV)(H1:PHp)(R:It'->PHp->Prop):Prop:=match vs with
 | [.int i,.int j]=>(-(2 ^ 62)≤i/\i<2 ^ 62/\-(2 ^ 62)≤j/\j<2 ^ 62)/\R ⟨cU i (j - i).toNat,fun _=>True⟩ H1
 | _=>False
def vL(t:TA'):TI':=fun σ H R=>t σ H fun vs H1=>uS vs H1 R
theorem dm{tg:Expr}{t:TA'}{p:Pos}(hg:Gl X "range")(hm:X.mg "range"=none)(ha:PA' X B [a] t)(hs:starEach [a] X.env=[(false,eval a X.env)]:=by rfl):PI' X B tg (.Call (.Name "range" p) [a] [] pos) (vN t) :=
 gw (om hg hm ha hs) fun σ H R ⟨σ',H',R',s,h,k⟩=>by
 refine⟨σ',H',_,s,h,fun vs' H1' vs H1 h1 r1 s1 e1=>?_⟩
 unfold tH at h1
 split at h1
 ·rename_i j
  simp only[RPs,RP]at r1
  obtain⟨u,r,rfl,rfl,rfl⟩:=r1
  exact⟨j,rfl,h1.1.1,h1.1.2,k _ H1' _ H1 h1.2 jt s1 e1⟩
 ·exact h1.elim
theorem n9{tg:Expr}{t:TA'}{p:Pos}(hg:Gl X "range")(hm:X.mg "range"=none)(ha:PA' X B [a,b] t)(hs:starEach [a,b] X.env=[(false,eval a X.env),(false,eval b X.env)]:=by rfl)(hs2:starEach [b] X.env=[(false,eval b X.env)]:=by rfl) :
  PI' X B tg (.Call (.Name "range" p) [a,b] [] pos) (vL t):=gw (o7 hg hm ha hs hs2) fun σ H R ⟨σ',H',R',s,h,k⟩=>by
 refine⟨σ',H',_,s,h,fun vs' H1' vs H1 h1 r1 s1 e1=>?_⟩
 unfold uS at h1
 split at h1
 ·rename_i i j
  simp only[RPs,RP]at r1
  obtain⟨u,r,rfl,rfl,w,r,rfl,rfl,rfl⟩:=r1
  exact⟨i,j,rfl,h1.1,k _ H1' _ H1 h1.2 jt s1 e1⟩
 ·exact h1.elim
end
end U
namespace U
open PySem PySem.Spec PyProof.Rows L2
variable {B:Bs}
abbrev Sp':=List PV->PHp->VK'->XK'->Prop
def gA(K:PySem.W.Frag)(sp:Sp'):Sp:=fun vs H Q E=>∃vs' H' Q' E',RPs K H vs' vs/\HR K H' H/\sp vs' H' Q' E'/\(∀v' H1' v H1,Q' v' H1'->RP K H1 v' v->HR K H1' H1->Ev H' H H1' H1->Q v H1) /\
 (∀c d H1' H1,E' c d H1'->HR K H1' H1->Ev H' H H1' H1->E c d H1)
abbrev aN(P:Program)(w:World)(K:PySem.W.Frag)(mg:Str->Option Value)(base:Heap)(CX:CXT)(k:Nat)(f:Addr)(fd:FuncData)(ps:List Str)(sp:Sp'):Prop:=iJ P w K mg base CX k f fd ps (gA K sp)
def gh(N:List Str)(vs:List PV):St':=vs.map some++List.replicate (N.length - vs.length) none
theorem rD{K:PySem.W.Frag}{N:List Str}{vs':List PV}{vs:List V}{H':PHp}{H:Hp}(r:RPs K H vs' vs)(h:HR K H' H):SR K (H',H) (gh N vs') H' (L2.start N vs) H:=by
 have hl:=RPs.length _ r
 refine⟨by simp[gh,L2.start,hl],fun i v' e=>?_,h,Ev.refl _ _⟩
 unfold gh at e
 unfold L2.start
 by_cases hi:i<vs'.length
 ·rw[List.getElem?_append_left (by simpa using hi)]at e
  rw[List.getElem?_append_left (by simpa[hl]using hi)]
  rw[List.getElem?_map]at e ⊢
  cases q:vs'[i]? with
  | none=>rw[q]at e;cases e
  | some w =>
   rw[q]at e
   cases e
   obtain⟨u,e1,e2⟩:=RPs.get _ r q
   exact⟨u,by rw[e1];rfl,e2⟩
 ·rw[List.getElem?_append_right (by simpa using hi)]at e
  rw[List.getElem?_replicate]at e
  split at e<;>cases e
def ends(Q:VK'):eF where
 nx:=fun _ H=>∃H3,Sub H3 H/\Q .non H3
 rt:=fun v H=>∃H3,Sub H3 H/\Q v H3
section
variable {P:Program}{w:World}{K:PySem.W.Frag}{mg:Str->Option Value}{base:Heap}
theorem okU{x qual:Str}{st:Stmt}{f:Addr}{fd:FuncData}{N ps:List Str}{k:Nat}{sp:Sp'}(F:Fun K x qual st f fd)(S:aE N ps (ao st))(len:∀vs H Q E,sp vs H Q E->vs.length=ps.length)
  (hbody:∀(cdv:Value) (A:Around) (outer:List Env) (s:Shared) (H:Hp) (E:XK) (B:Bs),cf k (A.deeper (envOfC qual (ao st) s.heap.objs.size f cdv)) ->
   ∃t,ix (lJ CX0 P w K mg base N qual (ao st) f cdv A outer s H E).nox B (dX st) t/\∀vs' H' Q' E',sp vs' H' Q' E'->t (ends Q') (gh N vs') H'):aN P w K mg base CX0 (k+1) f fd ps sp:=by
 refine F.ok S (fun vs H Q E zz=>?_) (fun cdv A outer s H vs Q E hr h=>?_)
 ·obtain⟨vs',H',Q',E',r,hr,h,_⟩:=zz
  rw[RPs.length _ r];exact len _ _ _ _ h
 ·obtain⟨vs',H',Q',E',r,hh,h,k1,k2⟩:=h
  obtain⟨t,ht,hq⟩:=hbody cdv A outer s H E (H',H) hr
  refine⟨_,ht,gh N vs',H',_,rD r hh,hq vs' H' Q' E' h,?_,?_,?_,?_⟩
  ·rintro σ1' H1' σ1 H1 ⟨H3,sb,q⟩ s1 e1
   exact k1 _ H3 _ H1 q (by simp[RP]) (s1.hp.sub sb) (e1.sub sb)
  ·rintro v' H1' v H1 ⟨H3,sb,q⟩ r1 s1 e1
   exact k1 _ H3 _ H1 q r1 (s1.sub sb) (e1.sub sb)
  ·intro _ _ _ _ z;exact z.elim
  ·intro _ _ _ _ z;exact z.elim
end
section
variable {X:Cx}{CX:CXT}{k:Nat}{f C:Addr}{fd:FuncData}{ps:List Str}{sp:Sp'}{E:XK}{E':XK'}{x m:Str}{p pos apos:Pos}{e o:Expr}{es:List Expr}{ta:TE'}{t:TA'}
def qc(sp:Sp')(E':XK')(t:TA'):TE':=fun σ H Q=>t σ H fun vs H1=>sp vs H1 Q E'
abbrev X0:XK':=fun _ _ _=>False
theorem og{K:PySem.W.Frag}{σ:L2.St}{H:Hp}{Q:VK}(h:low K B (qc sp X0 t) σ H Q):vj (gA K sp) [] E0 (qC K B t) σ H Q:=by
 obtain⟨σ',H',Q',s,h,k⟩:=h
 refine⟨σ',H',_,s,h,fun vs' H1' vs H1 h1 r1 s1 e1=>?_⟩
 show gA K sp (vs++[]) H1 Q E0
 rw[List.append_nil]
 exact⟨vs',H1',Q',X0,r1,s1.hp,h1,fun v' H2' v H2 q r2 h2 e2=>k v' H2' v H2 q r2 (s1.kp e2 h2) (e1.trans e2),fun _ _ _ _ z=>z.elim⟩
theorem az(F:aN X.prog X.w X.K X.mg X.base CX0 k f fd ps sp)(hr:cf k X.A)(hg:Gl X x)(hm:X.mg x=some (.ref f))(hk:PySem.W.keepIn X.K (.ref f)=true)(hb:Binds X.K fd ps [])
  (ha:PA' X B (e::es) t) (hdb:(x==("__debug__":Str))=false:=by decide) (he:starEach (e::es) X.env=(false,eval e X.env)::starEach es X.env:=by rfl) (hpl:(backTo pos (starEach es X.env)).any (·.1)=false:=by rfl) :
  PE' X B (.Call (.Name x p) (e::es) [] pos) (qc sp X0 t):=a8 (sP F hr hg hm hk hb .nil rJ ha hdb he hpl) fun _ _ _ h=>og h
theorem Ao{K:PySem.W.Frag}{H:Hp}{a:Addr}{xs:List V}(o:oE H)(h:SqL K H a xs):FzL K H a xs:=by
 rcases h with(h | h) | h
 ·rcases o a with z |⟨ob,ys,z⟩
  ·rw[z]at h;cases h
  ·rw[z]at h;cases h
 ·exact .inl h
 ·exact .inr h
def spL:Sp':=fun vs H Q _=>match vs with
 | [.fls l]=>∃ns:List Int,l=ns.map PV.int/\ns.length≤63/\Q (.bl true) H
 | _=>False
theorem pf{K:PySem.W.Frag}{H:Hp}{a:Addr}{ns:List Int}(hl:ns.length≤63)(o:oE H)(h:SqL K H a (ns.map V.int)):gA K spL [.ref a] H (fun v _=>v=.bl true) fun _ _ _=>False:=by
 refine⟨[.fls (ns.map PV.int)],fun _=>none,fun v _=>v=.bl true,X0,?_,fun _ _ z=>(nomatch z),⟨ns,rfl,hl,rfl⟩,fun v' _ v _ q r _ _=>?_,fun _ _ _ _ z=>z.elim⟩
 ·refine RPs.cons _ ?_ (RPs.nil _)
  simp only[RP]
  exact⟨a,_,rfl,Ao o h,RPs.ints _ _⟩
 ·subst q
  simpa[RP]using r
end
end U
namespace U
open PySem PySem.Spec PyProof.Rows L2
variable {B:Bs}
mutual
def deq:PV->PV->Bool
 | .non,.non=>true
 | .bl a,.bl b=>a==b
 | .int a,.int b=>a==b
 | .bl a,.int b=>(if a then 1 else 0)==b
 | .int a,.bl b=>a==(if b then 1 else 0)
 | .str a,.str b=>a==b
 | .tup l,.tup m=>eL l m
 | .fls l,.fls m=>eL l m
 | _,_=>false
def eL:List PV->List PV->Bool
 | [],[]=>true
 | x::l,y::m=>deq x y&&eL l m
 | _,_=>false
end
def flat:Nat->PV->Bool
 | _,.non=>true
 | _,.bl _=>true
 | _,.int _=>true
 | _,.str _=>true
 | n+1,.tup l=>l.all (flat n)
 | n+1,.fls l=>l.all (flat n)
 | _,_=>false
theorem b0:∀(l m:List PV),eL l m=((List.range (min l.length m.length)).all (fun i=>deq (l.getD i .non) (m.getD i .non))&&l.length==m.length)
 | [],[]=>by simp[eL]
 | [],_::_=>by simp[eL]
 | _::_,[]=>by simp[eL]
 | x::l,y::m=>by
  simp only[eL,b0 l m,List.length_cons]
  rw[show min (l.length+1) (m.length+1)=min l.length m.length+1 by omega,List.range_succ_eq_map,List.all_cons,List.all_map]
  simp only[List.getD_cons_zero,Bool.and_assoc]
  congr 1
  congr 1
  simp
theorem gf{n:Nat}:∀(l:List PV),(∀x∈l,deq x x=true)->eL l l=true
 | [],_=>rfl
 | x::l,h=>by
  have h1:=h x (by simp)
  have h2:=gf (n:=n) l fun y hy=>h y (by simp[hy])
  simp only[eL,h1,h2,Bool.and_self]
theorem fP:∀{n:Nat} {x:PV},flat n x=true->deq x x=true
 | _,.non,_=>by simp[deq]
 | _,.bl _,_=>by simp[deq]
 | _,.int _,_=>by simp[deq]
 | _,.str _,_=>by simp[deq]
 | n+1,.tup l,h=>by
  simp only[flat,List.all_eq_true]at h
  simp only[deq]
  exact gf (n:=0) l fun x hx=>fP (h x hx)
 | n+1,.fls l,h=>by
  simp only[flat,List.all_eq_true]at h
  simp only[deq]
  exact gf (n:=0) l fun x hx=>fP (h x hx)
 | 0,.tup _,h=>by cases h
 | 0,.fls _,h=>by cases h
 | n,.ref _,h=>by cases n<;>cases h
 | n,.oth _,h=>by cases n<;>cases h
section
variable {X:Cx}{pins:List (Addr×Obj)}{σ:L2.St}{H:Hp}{s:Shared}
def RR(K:PySem.W.Frag)(H:Hp)(x:PV)(u:Value):Prop:=∃v,RP K H x v/\RelV v u
def RL(K:PySem.W.Frag)(H:Hp)(l:List PV)(us:List Value):Prop:=∃vs,RPs K H l vs/\Vals vs us
def RD(K:PySem.W.Frag)(H:Hp)(x:PV)(u:Value):Prop:=match x with
 | .fls l=>∃a vs,u=.ref a/\SqL K H a vs/\RPs K H l vs
 | x=>RR K H x u
theorem RL.get{K:PySem.W.Frag}{l:List PV}{us:List Value}(r:RL K H l us){i:Nat}{u:Value}(e:us[i]?=some u):∃x,l[i]?=some x/\RR K H x u:=by
 obtain⟨vs,r1,r2⟩:=r
 have hl:=r2.length
 have hl2:=RPs.length _ r1
 have hi:i<l.length:=by
  have:=(List.getElem?_eq_some_iff.mp e).1
  omega
 obtain⟨v,e1,e2⟩:=RPs.get _ r1 (List.getElem?_eq_getElem hi)
 obtain⟨w,e3,e4⟩:=r2.get e1
 rw[e]at e3;cases e3
 exact⟨_,List.getElem?_eq_getElem hi,v,e2,e4⟩
theorem RL.length{K:PySem.W.Frag}{l:List PV}{us:List Value}(r:RL K H l us):us.length=l.length:=by
 obtain⟨vs,r1,r2⟩:=r
 rw[←r2.length,RPs.length _ r1]
theorem RR.rd{K:PySem.W.Frag}{x:PV}{u:Value}(r:RR K H x u):RD K H x u:=by
 cases x with
 | fls l =>
  obtain⟨v,r1,r2⟩:=r
  simp only[RP]at r1
  obtain⟨a,us,rfl,q,rr⟩:=r1
  cases r2
  exact⟨a,us,rfl,q.sq,rr⟩
 | _=>exact r
theorem bM(I:Inv X pins σ H s){l:List PV}{u:Value}(r:RD X.K H (.tup l) u):∃a its,u=.ref a/\RL X.K H l its/\s.heap.IsTuple a its.toArray:=by
 obtain⟨v,r1,r2⟩:=r
 simp only[RP]at r1
 obtain⟨a,us,rfl,q,rr⟩:=r1
 cases r2
 obtain⟨its,rv,p,_⟩:=I.tuple q
 exact⟨a,its,rfl,⟨us,rr,rv⟩,p⟩
theorem bO(I:Inv X pins σ H s){l:List PV}{u:Value}(r:RD X.K H (.fls l) u):∃a its,u=.ref a/\RL X.K H l its/\s.heap.IsList a its.toArray:=by
 obtain⟨a,us,rfl,q,rr⟩:=r
 obtain⟨its,rv,p,_⟩:=I.list q
 exact⟨a,its,rfl,⟨us,rr,rv⟩,p.isList⟩
theorem kE{a:Addr}{x y:Array Value}(h1:s.heap.IsTuple a x)(h2:s.heap.IsTuple a y):x=y:=by
 obtain⟨o,e,c,n,d⟩:=h1
 obtain⟨o',e',c',n',d'⟩:=h2
 rw[e]at e';cases e';rw[d]at d';cases d';rfl
theorem mC{a:Addr}{x y:Array Value}(h1:s.heap.IsList a x)(h2:s.heap.IsList a y):x=y:=by
 obtain⟨o,e,c,n,d⟩:=h1
 obtain⟨o',e',c',n',d'⟩:=h2
 rw[e]at e';cases e';rw[d]at d';cases d';rfl
theorem kM{a:Addr}{x y:Array Value}(h1:s.heap.IsTuple a x)(h2:s.heap.IsList a y):False:=by
 obtain⟨o,e,c,n,d⟩:=h1
 obtain⟨o',e',c',n',d'⟩:=h2
 rw[e]at e';cases e';rw[c]at c';exact absurd c' (by decide)
theorem RL.list_inj{K:PySem.W.Frag}{n:Nat}(ih:∀{x y:PV} {u:Value},flat n x=true->flat n y=true->RD K H x u->RD K H y u->x=y){l m:List PV}{us:List Value}(h1:l.all (flat n)=true)(h2:m.all (flat n)=true)
  (r1:RL K H l us) (r2:RL K H m us):l=m:=by
 rw[List.all_eq_true]at h1 h2
 refine List.ext_getElem? fun i=>?_
 cases e:us[i]? with
 | none =>
  have:=List.getElem?_eq_none_iff.mp e
  rw[List.getElem?_eq_none (by rw[←r1.length];exact this),List.getElem?_eq_none (by rw[←r2.length];exact this)]
 | some u =>
  obtain⟨x,ex,rx⟩:=r1.get e
  obtain⟨y,ey,ry⟩:=r2.get e
  rw[ex,ey,ih (h1 x (List.mem_of_getElem? ex)) (h2 y (List.mem_of_getElem? ey)) rx.rd ry.rd]
theorem jH(I:Inv X pins σ H s):∀(n:Nat) {x y:PV} {u:Value},flat n x=true->flat n y=true->RD X.K H x u->RD X.K H y u->x=y:=by
 have sc:∀{x:PV} {u:Value},RD X.K H x u->(∀l,x≠.fls l)->RR X.K H x u:=fun {x u} r h=>by
  cases x with
  | fls l=>exact absurd rfl (h l)
  | _=>exact r
 intro n
 induction n with
 | zero =>
  intro x y u hx hy rx ry
  cases x<;>first |(cases hx;done) | skip
  all_goals cases y<;>first |(cases hy;done) | skip
  all_goals
   obtain⟨v,r1,r2⟩:=sc rx (by intro l z;cases z)
   obtain⟨v',r1',r2'⟩:=sc ry (by intro l z;cases z)
   simp only[RP]at r1 r1'
   subst r1;subst r1'
   have:=RelV.inj r2 r2'
   first | rfl |(cases this;done) |(cases this;rfl)
 | succ n ih =>
  intro x y u hx hy rx ry
  cases x with
  | tup l =>
   obtain⟨a,its,rfl,rl,p⟩:=bM I rx
   cases y with
   | tup m =>
    obtain⟨b,its',e,rl',p'⟩:=bM I ry
    cases e
    have:=kE p p'
    have e2:its=its':=by simpa using this
    subst e2
    rw[RL.list_inj (n:=n) ih hx hy rl rl']
   | fls m =>
    obtain⟨b,its',e,rl',p'⟩:=bO I ry
    cases e
    exact(kM p p').elim
   | ref a=>cases hy
   | oth a=>cases hy
   | _ =>
    obtain⟨v',r1',r2'⟩:=sc ry (by intro l z;cases z)
    simp only[RP]at r1'
    subst r1'
    simp[L2.RelV]at r2'
  | fls l =>
   obtain⟨a,its,rfl,rl,p⟩:=bO I rx
   cases y with
   | tup m =>
    obtain⟨b,its',e,rl',p'⟩:=bM I ry
    cases e
    exact(kM p' p).elim
   | fls m =>
    obtain⟨b,its',e,rl',p'⟩:=bO I ry
    cases e
    have:=mC p p'
    have e2:its=its':=by simpa using this
    subst e2
    rw[RL.list_inj (n:=n) ih hx hy rl rl']
   | ref a=>cases hy
   | oth a=>cases hy
   | _ =>
    obtain⟨v',r1',r2'⟩:=sc ry (by intro l z;cases z)
    simp only[RP]at r1'
    subst r1'
    simp[L2.RelV]at r2'
  | ref a=>cases hx
  | oth a=>cases hx
  | _ =>
   cases y with
   | tup m =>
    obtain⟨b,its',e,rl',p'⟩:=bM I ry
    subst e
    obtain⟨v',r1',r2'⟩:=sc rx (by intro l z;cases z)
    simp only[RP]at r1'
    subst r1'
    simp[L2.RelV]at r2'
   | fls m =>
    obtain⟨b,its',e,rl',p'⟩:=bO I ry
    subst e
    obtain⟨v',r1',r2'⟩:=sc rx (by intro l z;cases z)
    simp only[RP]at r1'
    subst r1'
    simp[L2.RelV]at r2'
   | ref a=>cases hy
   | oth a=>cases hy
   | _ =>
    obtain⟨v,r1,r2⟩:=sc rx (by intro l z;cases z)
    obtain⟨v',r1',r2'⟩:=sc ry (by intro l z;cases z)
    simp only[RP]at r1 r1'
    subst r1;subst r1'
    have:=RelV.inj r2 r2'
    first | rfl |(cases this;done) |(cases this;rfl)
open SeqAt in
theorem g8(I:Inv X pins σ H s):∀(n:Nat) {A:Around} {x y:PV} {u w:Value},A.units+n<cLine->flat n x=true->flat n y=true->RD X.K H x u->RD X.K H y w->EqAt A s u w (deq x y)/\RcAt A s u w (deq x y):=by
 have sc:∀{x:PV} {u:Value},RD X.K H x u->(∀l,x≠.fls l)->RR X.K H x u:=fun {x u} r h=>by
  cases x with
  | fls l=>exact absurd rfl (h l)
  | _=>exact r
 have v_non:∀{u:Value},RD X.K H .non u->u=.none:=fun {u} r=>by
  obtain⟨v,r1,r2⟩:=sc r (by intro l z;cases z);simp only[RP]at r1;subst r1;exact r2
 have v_bl:∀{b:Bool} {u:Value},RD X.K H (.bl b) u->u=.bool b:=fun {b u} r=>by
  obtain⟨v,r1,r2⟩:=sc r (by intro l z;cases z);simp only[RP]at r1;subst r1;exact r2
 have v_int:∀{i:Int} {u:Value},RD X.K H (.int i) u->∃t,u=.int i t:=fun {b u} r=>by
  obtain⟨v,r1,r2⟩:=sc r (by intro l z;cases z);simp only[RP]at r1;subst r1;exact r2
 have v_str:∀{i:Str} {u:Value},RD X.K H (.str i) u->∃t,u=.str i t:=fun {b u} r=>by
  obtain⟨v,r1,r2⟩:=sc r (by intro l z;cases z);simp only[RP]at r1;subst r1;exact r2
 intro n
 induction n with
 | zero =>
  intro A x y u w hu hx hy rx ry
  cases x with
  | non =>
   rw[v_non rx]
   cases y with
   | non=>rw[v_non ry];exact⟨EqAt.same _,RcAt.none_none⟩
   | bl b=>rw[v_bl ry];exact⟨EqAt.none_bool b,RcAt.none_bool b⟩
   | int b=>obtain⟨t,rfl⟩:=v_int ry;exact⟨EqAt.none_int b t,RcAt.none_int b t⟩
   | str b=>obtain⟨t,rfl⟩:=v_str ry;exact⟨EqAt.none_str b t,RcAt.none_str b t⟩
   | _=>cases hy
  | bl a =>
   rw[v_bl rx]
   cases y with
   | non=>rw[v_non ry];exact⟨EqAt.bool_none a,RcAt.bool_none a⟩
   | bl b=>rw[v_bl ry];exact⟨EqAt.bool_bool a b,RcAt.bool_bool a b⟩
   | int b=>obtain⟨t,rfl⟩:=v_int ry;exact⟨EqAt.bool_int a b t,RcAt.bool_int a b t⟩
   | str b=>obtain⟨t,rfl⟩:=v_str ry;exact⟨EqAt.bool_str a b t,RcAt.bool_str a b t⟩
   | _=>cases hy
  | int a =>
   obtain⟨t0,rfl⟩:=v_int rx
   cases y with
   | non=>rw[v_non ry];exact⟨EqAt.int_none a t0,RcAt.int_none a t0⟩
   | bl b=>rw[v_bl ry];exact⟨EqAt.int_bool a t0 b,RcAt.int_bool a t0 b⟩
   | int b=>obtain⟨t,rfl⟩:=v_int ry;exact⟨EqAt.int_int a t0 b t,RcAt.int_int a t0 b t⟩
   | str b=>obtain⟨t,rfl⟩:=v_str ry;exact⟨EqAt.int_str a t0 b t,RcAt.int_str a t0 b t⟩
   | _=>cases hy
  | str a =>
   obtain⟨t0,rfl⟩:=v_str rx
   cases y with
   | non=>rw[v_non ry];exact⟨EqAt.str_none a t0,RcAt.str_none a t0⟩
   | bl b=>rw[v_bl ry];exact⟨EqAt.str_bool a t0 b,RcAt.str_bool a t0 b⟩
   | int b=>obtain⟨t,rfl⟩:=v_int ry;exact⟨EqAt.str_int a t0 b t,RcAt.str_int a t0 b t⟩
   | str b=>obtain⟨t,rfl⟩:=v_str ry;exact⟨EqAt.str_str a t0 b t,RcAt.str_str a t0 b t⟩
   | _=>cases hy
  | _=>cases hx
 | succ n ih =>
  intro A x y u w hu hx hy rx ry
  have hu0:A.units<cLine:=by omega
  have hu1:A.in1.units+n<cLine:=by show A.units+1+n<cLine;omega
  cases x with
  | tup l =>
   obtain⟨a,its,rfl,rl,p⟩:=bM I rx
   cases y with
   | non=>rw[v_non ry];exact⟨EqAt.tuple_none p hu0,RcAt.tuple_none p hu0⟩
   | bl b=>rw[v_bl ry];exact⟨EqAt.tuple_bool b p hu0,RcAt.tuple_bool b p hu0⟩
   | int b=>obtain⟨t,rfl⟩:=v_int ry;exact⟨EqAt.tuple_int b t p hu0,RcAt.tuple_int b t p hu0⟩
   | str b=>obtain⟨t,rfl⟩:=v_str ry;exact⟨EqAt.tuple_str b t p hu0,RcAt.tuple_str b t p hu0⟩
   | tup m =>
    obtain⟨b,its',rfl,rl',p'⟩:=bM I ry
    have key:RcAt A s (.ref a) (.ref b) (deq (.tup l) (.tup m)):=by
     have:=RcAt.tuples (e:=fun i=>deq (l.getD i .non) (m.getD i .non)) p p' hu0 fun j h1 h2=>by
      have h1':j<its.length:=by simpa using h1
      have h2':j<its'.length:=by simpa using h2
      obtain⟨x,ex,rx'⟩:=rl.get (List.getElem?_eq_getElem h1')
      obtain⟨y,ey,ry'⟩:=rl'.get (List.getElem?_eq_getElem h2')
      have q:=ih hu1 (List.all_eq_true.mp hx x (List.mem_of_getElem? ex)) (List.all_eq_true.mp hy y (List.mem_of_getElem? ey)) rx'.rd ry'.rd
      have e1:l.getD j .non=x:=by rw[List.getD_eq_getElem?_getD,ex];rfl
      have e2:m.getD j .non=y:=by rw[List.getD_eq_getElem?_getD,ey];rfl
      rw[e1,e2]
      simpa using q.1
     have e:deq (.tup l) (.tup m)=((List.range (min its.toArray.size its'.toArray.size)).all (fun i=>deq (l.getD i .non) (m.getD i .non))&&its.toArray.size==its'.toArray.size):=by
      simp only[deq,b0,List.size_toArray,rl.length,rl'.length]
     rw[e];exact this
    refine⟨?_,key⟩
    by_cases hab:a=b
    ·subst hab
     have:=jH I (n+1) hx hy rx ry
     rw[←this,fP hx];exact EqAt.same _
    ·exact EqAt.of_refs hab key
   | fls m =>
    obtain⟨b,its',rfl,rl',p'⟩:=bO I ry
    exact⟨EqAt.tuple_list p p' hu0,RcAt.tuple_list p p' hu0⟩
   | _=>cases hy
  | fls l =>
   obtain⟨a,its,rfl,rl,p⟩:=bO I rx
   cases y with
   | non=>rw[v_non ry];exact⟨EqAt.list_none p hu0,RcAt.list_none p hu0⟩
   | bl b=>rw[v_bl ry];exact⟨EqAt.list_bool b p hu0,RcAt.list_bool b p hu0⟩
   | int b=>obtain⟨t,rfl⟩:=v_int ry;exact⟨EqAt.list_int b t p hu0,RcAt.list_int b t p hu0⟩
   | str b=>obtain⟨t,rfl⟩:=v_str ry;exact⟨EqAt.list_str b t p hu0,RcAt.list_str b t p hu0⟩
   | tup m =>
    obtain⟨b,its',rfl,rl',p'⟩:=bM I ry
    exact⟨EqAt.list_tuple p p' hu0,RcAt.list_tuple p p' hu0⟩
   | fls m =>
    obtain⟨b,its',rfl,rl',p'⟩:=bO I ry
    have key:RcAt A s (.ref a) (.ref b) (deq (.fls l) (.fls m)):=by
     by_cases hs:its.length=its'.length
     ·have:=RcAt.lists (e:=fun i=>deq (l.getD i .non) (m.getD i .non)) p p' (by simpa using hs) hu0 fun j h1 h2=>by
       have h1':j<its.length:=by simpa using h1
       have h2':j<its'.length:=by simpa using h2
       obtain⟨x,ex,rx'⟩:=rl.get (List.getElem?_eq_getElem h1')
       obtain⟨y,ey,ry'⟩:=rl'.get (List.getElem?_eq_getElem h2')
       have q:=ih hu1 (List.all_eq_true.mp hx x (List.mem_of_getElem? ex)) (List.all_eq_true.mp hy y (List.mem_of_getElem? ey)) rx'.rd ry'.rd
       have e1:l.getD j .non=x:=by rw[List.getD_eq_getElem?_getD,ex];rfl
       have e2:m.getD j .non=y:=by rw[List.getD_eq_getElem?_getD,ey];rfl
       rw[e1,e2]
       simpa using q.1
      have e:deq (.fls l) (.fls m)=(List.range its.toArray.size).all (fun i=>deq (l.getD i .non) (m.getD i .non)):=by
       have e0:l.length=m.length:=by rw[←rl.length,← rl'.length];exact hs
       simp[deq,b0,rl.length,e0]
      rw[e];exact this
     ·have e:deq (.fls l) (.fls m)=false:=by
       have e0:l.length≠m.length:=by rw[←rl.length,← rl'.length];exact hs
       simp[deq,b0,e0]
      rw[e]
      exact RcAt.lists_lengths p p' (by simpa using hs) hu0
    refine⟨?_,key⟩
    by_cases hab:a=b
    ·subst hab
     have:=jH I (n+1) hx hy rx ry
     rw[←this,fP hx];exact EqAt.same _
    ·exact EqAt.of_refs hab key
   | _=>cases hy
  | ref a=>cases hx
  | oth a=>cases hx
  | non =>
   cases y with
   | tup m=>obtain⟨b,its',rfl,rl',p'⟩:=bM I ry;rw[v_non rx];exact⟨EqAt.none_tuple p' hu0,RcAt.none_tuple p' hu0⟩
   | fls m=>obtain⟨b,its',rfl,rl',p'⟩:=bO I ry;rw[v_non rx];exact⟨EqAt.none_list p' hu0,RcAt.none_list p' hu0⟩
   | ref a=>cases hy
   | oth a=>cases hy
   | _=>exact ih (by omega) (by cases n<;>rfl) (by cases n<;>rfl) rx ry
  | bl i =>
   cases y with
   | tup m=>obtain⟨b,its',rfl,rl',p'⟩:=bM I ry;rw[v_bl rx];exact⟨EqAt.bool_tuple i p' hu0,RcAt.bool_tuple i p' hu0⟩
   | fls m=>obtain⟨b,its',rfl,rl',p'⟩:=bO I ry;rw[v_bl rx];exact⟨EqAt.bool_list i p' hu0,RcAt.bool_list i p' hu0⟩
   | ref a=>cases hy
   | oth a=>cases hy
   | _=>exact ih (by omega) (by cases n<;>rfl) (by cases n<;>rfl) rx ry
  | int i =>
   cases y with
   | tup m=>obtain⟨b,its',rfl,rl',p'⟩:=bM I ry;obtain⟨t,rfl⟩:=v_int rx;exact⟨EqAt.int_tuple i t p' hu0,RcAt.int_tuple i t p' hu0⟩
   | fls m=>obtain⟨b,its',rfl,rl',p'⟩:=bO I ry;obtain⟨t,rfl⟩:=v_int rx;exact⟨EqAt.int_list i t p' hu0,RcAt.int_list i t p' hu0⟩
   | ref a=>cases hy
   | oth a=>cases hy
   | _=>exact ih (by omega) (by cases n<;>rfl) (by cases n<;>rfl) rx ry
  | str i =>
   cases y with
   | tup m=>obtain⟨b,its',rfl,rl',p'⟩:=bM I ry;obtain⟨t,rfl⟩:=v_str rx;exact⟨EqAt.str_tuple i t p' hu0,RcAt.str_tuple i t p' hu0⟩
   | fls m=>obtain⟨b,its',rfl,rl',p'⟩:=bO I ry;obtain⟨t,rfl⟩:=v_str rx;exact⟨EqAt.str_list i t p' hu0,RcAt.str_list i t p' hu0⟩
   | ref a=>cases hy
   | oth a=>cases hy
   | _=>exact ih (by omega) (by cases n<;>rfl) (by cases n<;>rfl) rx ry
end
end U
namespace U
open PySem PySem.Spec PyProof.Rows L2
variable {B:Bs}
section
variable {X:Cx}{pins:List (Addr×Obj)}{σ:L2.St}{H:Hp}{s:Shared}
open SeqAt in
theorem u5(I:Inv X pins σ H s):∀(n:Nat) {A:Around} {x y:PV} {u w:Value},A.units+n<cLine->flat n x=true->flat n y=true->RD X.K H x u->RD X.K H y w->RcNeAt A s u w (!deq x y):=by
 have sc:∀{x:PV} {u:Value},RD X.K H x u->(∀l,x≠.fls l)->RR X.K H x u:=fun {x u} r h=>by
  cases x with
  | fls l=>exact absurd rfl (h l)
  | _=>exact r
 have v_non:∀{u:Value},RD X.K H .non u->u=.none:=fun {u} r=>by
  obtain⟨v,r1,r2⟩:=sc r (by intro l z;cases z);simp only[RP]at r1;subst r1;exact r2
 have v_bl:∀{b:Bool} {u:Value},RD X.K H (.bl b) u->u=.bool b:=fun {b u} r=>by
  obtain⟨v,r1,r2⟩:=sc r (by intro l z;cases z);simp only[RP]at r1;subst r1;exact r2
 have v_int:∀{i:Int} {u:Value},RD X.K H (.int i) u->∃t,u=.int i t:=fun {b u} r=>by
  obtain⟨v,r1,r2⟩:=sc r (by intro l z;cases z);simp only[RP]at r1;subst r1;exact r2
 have v_str:∀{i:Str} {u:Value},RD X.K H (.str i) u->∃t,u=.str i t:=fun {b u} r=>by
  obtain⟨v,r1,r2⟩:=sc r (by intro l z;cases z);simp only[RP]at r1;subst r1;exact r2
 intro n
 induction n with
 | zero =>
  intro A x y u w hu hx hy rx ry
  cases x with
  | non =>
   rw[v_non rx]
   cases y with
   | non=>rw[v_non ry];exact RcNeAt.none_none
   | bl b=>rw[v_bl ry];exact RcNeAt.none_bool b
   | int b=>obtain⟨t,rfl⟩:=v_int ry;exact RcNeAt.none_int b t
   | str b=>obtain⟨t,rfl⟩:=v_str ry;exact RcNeAt.none_str b t
   | _=>cases hy
  | bl a =>
   rw[v_bl rx]
   cases y with
   | non=>rw[v_non ry];exact RcNeAt.bool_none a
   | bl b=>rw[v_bl ry];exact RcNeAt.bool_bool a b
   | int b=>obtain⟨t,rfl⟩:=v_int ry;exact RcNeAt.bool_int a b t
   | str b=>obtain⟨t,rfl⟩:=v_str ry;exact RcNeAt.bool_str a b t
   | _=>cases hy
  | int a =>
   obtain⟨t0,rfl⟩:=v_int rx
   cases y with
   | non=>rw[v_non ry];exact RcNeAt.int_none a t0
   | bl b=>rw[v_bl ry];exact RcNeAt.int_bool a t0 b
   | int b=>obtain⟨t,rfl⟩:=v_int ry;exact RcNeAt.int_int a t0 b t
   | str b=>obtain⟨t,rfl⟩:=v_str ry;exact RcNeAt.int_str a t0 b t
   | _=>cases hy
  | str a =>
   obtain⟨t0,rfl⟩:=v_str rx
   cases y with
   | non=>rw[v_non ry];exact RcNeAt.str_none a t0
   | bl b=>rw[v_bl ry];exact RcNeAt.str_bool a t0 b
   | int b=>obtain⟨t,rfl⟩:=v_int ry;exact RcNeAt.str_int a t0 b t
   | str b=>obtain⟨t,rfl⟩:=v_str ry;exact RcNeAt.str_str a t0 b t
   | _=>cases hy
  | _=>cases hx
 | succ n ih =>
  intro A x y u w hu hx hy rx ry
  have hu0:A.units<cLine:=by omega
  have hu1:A.in1.units+n<cLine:=by show A.units+1+n<cLine;omega
  cases x with
  | tup l =>
   obtain⟨a,its,rfl,rl,p⟩:=bM I rx
   cases y with
   | non=>rw[v_non ry];exact RcNeAt.tuple_none p hu0
   | bl b=>rw[v_bl ry];exact RcNeAt.tuple_bool b p hu0
   | int b=>obtain⟨t,rfl⟩:=v_int ry;exact RcNeAt.tuple_int b t p hu0
   | str b=>obtain⟨t,rfl⟩:=v_str ry;exact RcNeAt.tuple_str b t p hu0
   | tup m =>
    obtain⟨b,its',rfl,rl',p'⟩:=bM I ry
    have key:RcNeAt A s (.ref a) (.ref b) (!deq (.tup l) (.tup m)):=by
     have:=RcNeAt.tuples (e:=fun i=>deq (l.getD i .non) (m.getD i .non)) p p' hu0 fun j h1 h2=>by
      have h1':j<its.length:=by simpa using h1
      have h2':j<its'.length:=by simpa using h2
      obtain⟨x,ex,rx'⟩:=rl.get (List.getElem?_eq_getElem h1')
      obtain⟨y,ey,ry'⟩:=rl'.get (List.getElem?_eq_getElem h2')
      have q:=g8 I n hu1 (List.all_eq_true.mp hx x (List.mem_of_getElem? ex)) (List.all_eq_true.mp hy y (List.mem_of_getElem? ey)) rx'.rd ry'.rd
      have e1:l.getD j .non=x:=by rw[List.getD_eq_getElem?_getD,ex];rfl
      have e2:m.getD j .non=y:=by rw[List.getD_eq_getElem?_getD,ey];rfl
      rw[e1,e2]
      simpa using q.1
     have e:deq (.tup l) (.tup m)=((List.range (min its.toArray.size its'.toArray.size)).all (fun i=>deq (l.getD i .non) (m.getD i .non))&&its.toArray.size==its'.toArray.size):=by
      simp only[deq,b0,List.size_toArray,rl.length,rl'.length]
     rw[e];exact this
    exact key
   | fls m =>
    obtain⟨b,its',rfl,rl',p'⟩:=bO I ry
    exact RcNeAt.tuple_list p p' hu0
   | _=>cases hy
  | fls l =>
   obtain⟨a,its,rfl,rl,p⟩:=bO I rx
   cases y with
   | non=>rw[v_non ry];exact RcNeAt.list_none p hu0
   | bl b=>rw[v_bl ry];exact RcNeAt.list_bool b p hu0
   | int b=>obtain⟨t,rfl⟩:=v_int ry;exact RcNeAt.list_int b t p hu0
   | str b=>obtain⟨t,rfl⟩:=v_str ry;exact RcNeAt.list_str b t p hu0
   | tup m =>
    obtain⟨b,its',rfl,rl',p'⟩:=bM I ry
    exact RcNeAt.list_tuple p p' hu0
   | fls m =>
    obtain⟨b,its',rfl,rl',p'⟩:=bO I ry
    have key:RcNeAt A s (.ref a) (.ref b) (!deq (.fls l) (.fls m)):=by
     by_cases hs:its.length=its'.length
     ·have:=RcNeAt.lists (e:=fun i=>deq (l.getD i .non) (m.getD i .non)) p p' (by simpa using hs) hu0 fun j h1 h2=>by
       have h1':j<its.length:=by simpa using h1
       have h2':j<its'.length:=by simpa using h2
       obtain⟨x,ex,rx'⟩:=rl.get (List.getElem?_eq_getElem h1')
       obtain⟨y,ey,ry'⟩:=rl'.get (List.getElem?_eq_getElem h2')
       have q:=g8 I n hu1 (List.all_eq_true.mp hx x (List.mem_of_getElem? ex)) (List.all_eq_true.mp hy y (List.mem_of_getElem? ey)) rx'.rd ry'.rd
       have e1:l.getD j .non=x:=by rw[List.getD_eq_getElem?_getD,ex];rfl
       have e2:m.getD j .non=y:=by rw[List.getD_eq_getElem?_getD,ey];rfl
       rw[e1,e2]
       simpa using q.1
      have e:deq (.fls l) (.fls m)=(List.range its.toArray.size).all (fun i=>deq (l.getD i .non) (m.getD i .non)):=by
       have e0:l.length=m.length:=by rw[←rl.length,← rl'.length];exact hs
       simp[deq,b0,rl.length,e0]
      rw[e];exact this
     ·have e:deq (.fls l) (.fls m)=false:=by
       have e0:l.length≠m.length:=by rw[←rl.length,← rl'.length];exact hs
       simp[deq,b0,e0]
      rw[e]
      exact RcNeAt.lists_lengths p p' (by simpa using hs) hu0
    exact key
   | _=>cases hy
  | ref a=>cases hx
  | oth a=>cases hx
  | non =>
   cases y with
   | tup m=>obtain⟨b,its',rfl,rl',p'⟩:=bM I ry;rw[v_non rx];exact RcNeAt.none_tuple p' hu0
   | fls m=>obtain⟨b,its',rfl,rl',p'⟩:=bO I ry;rw[v_non rx];exact RcNeAt.none_list p' hu0
   | ref a=>cases hy
   | oth a=>cases hy
   | _=>exact ih (by omega) (by cases n<;>rfl) (by cases n<;>rfl) rx ry
  | bl i =>
   cases y with
   | tup m=>obtain⟨b,its',rfl,rl',p'⟩:=bM I ry;rw[v_bl rx];exact RcNeAt.bool_tuple i p' hu0
   | fls m=>obtain⟨b,its',rfl,rl',p'⟩:=bO I ry;rw[v_bl rx];exact RcNeAt.bool_list i p' hu0
   | ref a=>cases hy
   | oth a=>cases hy
   | _=>exact ih (by omega) (by cases n<;>rfl) (by cases n<;>rfl) rx ry
  | int i =>
   cases y with
   | tup m=>obtain⟨b,its',rfl,rl',p'⟩:=bM I ry;obtain⟨t,rfl⟩:=v_int rx;exact RcNeAt.int_tuple i t p' hu0
   | fls m=>obtain⟨b,its',rfl,rl',p'⟩:=bO I ry;obtain⟨t,rfl⟩:=v_int rx;exact RcNeAt.int_list i t p' hu0
   | ref a=>cases hy
   | oth a=>cases hy
   | _=>exact ih (by omega) (by cases n<;>rfl) (by cases n<;>rfl) rx ry
  | str i =>
   cases y with
   | tup m=>obtain⟨b,its',rfl,rl',p'⟩:=bM I ry;obtain⟨t,rfl⟩:=v_str rx;exact RcNeAt.str_tuple i t p' hu0
   | fls m=>obtain⟨b,its',rfl,rl',p'⟩:=bO I ry;obtain⟨t,rfl⟩:=v_str rx;exact RcNeAt.str_list i t p' hu0
   | ref a=>cases hy
   | oth a=>cases hy
   | _=>exact ih (by omega) (by cases n<;>rfl) (by cases n<;>rfl) rx ry
def RDv(K:PySem.W.Frag)(H:Hp)(d:PV)(x:V):Prop:=match d with
 | .fls l=>∃a vs,x=.ref a/\SqL K H a vs/\RPs K H l vs
 | d=>RP K H d x
theorem RDv.rd{K:PySem.W.Frag}{d:PV}{x:V}{u:Value}(h:RDv K H d x)(r:L2.RelV x u):RD K H d u:=by
 cases d with
 | fls l=>obtain⟨a,vs,rfl,q,rr⟩:=h;cases r;exact⟨a,vs,rfl,q,rr⟩
 | _=>exact⟨x,h,r⟩
def cO(x:PV)(H:PHp)(k:PV->Prop):Prop:=match x with
 | .ref a=>∃l,H a=some (.lst l)/\k (.fls l)
 | x=>k x
theorem cO.ex{K:PySem.W.Frag}{σ':St'}{x:PV}{v:V}{H':PHp}{k:PV->Prop}(h:cO x H' k)(s:SR K B σ' H' σ H)(r:RP K H x v):∃d,RDv K H d v/\k d:=by
 cases x with
 | ref a =>
  obtain⟨l,e,h⟩:=h
  obtain⟨us,q,r2⟩:=s.hp _ _ e
  simp only[RP]at r
  exact⟨.fls l,⟨a,us,r,SqL.of q,r2⟩,h⟩
 | fls l =>
  simp only[RP]at r
  obtain⟨a,us,e,q,r⟩:=r
  exact⟨.fls l,⟨a,us,e,q.sq,r⟩,h⟩
 | non=>exact⟨.non,r,h⟩
 | bl b=>exact⟨.bl b,r,h⟩
 | int b=>exact⟨.int b,r,h⟩
 | str b=>exact⟨.str b,r,h⟩
 | tup b=>exact⟨.tup b,r,h⟩
 | oth b=>exact⟨.oth b,r,h⟩
def wB(K:PySem.W.Frag)(g:Bool->Bool):R2:=fun x y H Q=>∃d1 d2,flat 9 d1=true/\flat 9 d2=true/\RDv K H d1 x/\RDv K H d2 y/\Q (.bl (g (deq d1 d2))) H
theorem bh(hu:X.A.units+64<cLine):OpR X (compareOp .Eq) (wB X.K fun b=>b):=by
 intro pins s σ H x y v u Q I rx ry h
 obtain⟨d1,d2,f1,f2,r1,r2,q⟩:=h
 exact(g8 I 9 (by omega) f1 f2 (r1.rd rx) (r2.rd ry)).2 _ _ _ _ ⟨.bl _,H,I,rfl,q⟩
theorem bZ(hu:X.A.units+64<cLine):OpR X (compareOp .NotEq) (wB X.K fun b=>!b):=by
 intro pins s σ H x y v u Q I rx ry h
 obtain⟨d1,d2,f1,f2,r1,r2,q⟩:=h
 exact u5 I 9 (by omega) f1 f2 (r1.rd rx) (r2.rd ry) _ _ _ _ ⟨.bl _,H,I,rfl,q⟩
def Br(g:Bool->Bool):R2':=fun x y H Q=>cO x H fun d1=>cO y H fun d2=>flat 9 d1=true/\flat 9 d2=true/\Q (.bl (g (deq d1 d2))) H
theorem aX{K:PySem.W.Frag}{g:Bool->Bool}:VR K B (Br g) (wB K g):=by
 intro σ' σ H' H x' y' x y Q' Q s rx ry h k
 obtain⟨d1,r1,h1⟩:=cO.ex h s rx
 obtain⟨d2,r2,f1,f2,q⟩:=cO.ex h1 s ry
 exact⟨d1,d2,f1,f2,r1,r2,k _ H' _ H q (by simp[RP]) s (Ev.refl _ _)⟩
def xJ(K:PySem.W.Frag)(g:Bool->Bool):R2:=fun x y H Q=>∃d p l us,flat 8 d=true/\RDv K H d x/\y=.ref p/\l.all (flat 8)=true/\RPs K H l us/\(SqL K H p us∨SqT K H p us)/\Q (.bl (g (l.any fun z=>deq z d))) H
open Classical in
theorem fV(I:Inv X pins σ H s){A:Around}{d:PV}{v:Value}{l:List PV}{its:List Value}(hu:A.units+20<cLine)(fd:flat 8 d=true)(rd:RD X.K H d v)(fl:l.all (flat 8)=true)(rl:RL X.K H l its) :
  ∃e:Value->Bool,(∀y,y∈its.toArray->SeqAt.EqAt A.in1 s y v (e y))/\its.toArray.any e=l.any fun z=>deq z d:=by
 refine⟨fun u=>decide (∃z,flat 8 z=true/\RD X.K H z u/\deq z d=true),fun y hy=>?_,?_⟩
 ·have hy':y∈its:=by simpa using hy
  obtain⟨i,hi⟩:=List.mem_iff_getElem?.mp hy'
  obtain⟨z,ez,rz⟩:=rl.get hi
  have fz:=List.all_eq_true.mp fl z (List.mem_of_getElem? ez)
  have q:=(g8 I 8 (A:=A.in1) (by show A.units+1+8<cLine;omega) fz fd rz.rd rd).1
  have e:decide (∃z,flat 8 z=true/\RD X.K H z y/\deq z d=true)=deq z d:=by
   rw[Bool.eq_iff_iff,decide_eq_true_iff]
   constructor
   ·rintro⟨z',f',r',e'⟩
    rw[jH I 8 fz f' rz.rd r'];exact e'
   ·intro e;exact⟨z,fz,rz.rd,e⟩
  show SeqAt.EqAt A.in1 s y v (decide _)
  rw[e];exact q
 ·rw[Bool.eq_iff_iff]
  simp only[List.any_toArray,List.any_eq_true,decide_eq_true_iff]
  constructor
  ·rintro⟨u,hu',z,fz,rz,ez⟩
   obtain⟨i,hi⟩:=List.mem_iff_getElem?.mp hu'
   obtain⟨z2,ez2,rz2⟩:=rl.get hi
   have fz2:=List.all_eq_true.mp fl z2 (List.mem_of_getElem? ez2)
   refine⟨z2,List.mem_of_getElem? ez2,?_⟩
   rw[jH I 8 fz2 fz rz2.rd rz];exact ez
  ·rintro⟨z,hz,ez⟩
   obtain⟨i,hi⟩:=List.mem_iff_getElem?.mp hz
   have hlt:i<its.length:=by
    have:=(List.getElem?_eq_some_iff.mp hi).1
    rw[rl.length];exact this
   obtain⟨z2,ez2,rz2⟩:=rl.get (List.getElem?_eq_getElem hlt)
   rw[hi]at ez2;cases ez2
   exact⟨_,List.getElem_mem hlt,z,List.all_eq_true.mp fl z hz,rz2.rd,ez⟩
theorem bS(hu:X.A.units+64<cLine):OpR X (compareOp .In) (xJ X.K fun b=>b):=by
 intro pins s σ H x y v u Q I rx ry h
 obtain⟨d,p,l,us,fd,rd,rfl,fl,rl,hq,q⟩:=h
 cases ry
 rcases hq with hq | hq
 ·obtain⟨its,rv,pl,_⟩:=I.list hq
  obtain⟨e,h1,h2⟩:=fV I (A:=X.A) (by omega) fd (rd.rd rx) fl ⟨us,rl,rv⟩
  exact SeqAt.in_listAt e pl.isList h1 (by rw[h2];exact⟨.bl _,H,I,rfl,q⟩)
 ·obtain⟨its,rv,pl,_⟩:=I.tuple hq
  obtain⟨e,h1,h2⟩:=fV I (A:=X.A) (by omega) fd (rd.rd rx) fl ⟨us,rl,rv⟩
  exact SeqAt.in_tupleAt e pl h1 (by rw[h2];exact⟨.bl _,H,I,rfl,q⟩)
theorem aQ(hu:X.A.units+64<cLine):OpR X (compareOp .NotIn) (xJ X.K fun b=>!b):=by
 intro pins s σ H x y v u Q I rx ry h
 obtain⟨d,p,l,us,fd,rd,rfl,fl,rl,hq,q⟩:=h
 cases ry
 rcases hq with hq | hq
 ·obtain⟨its,rv,pl,_⟩:=I.list hq
  obtain⟨e,h1,h2⟩:=fV I (A:=X.A) (by omega) fd (rd.rd rx) fl ⟨us,rl,rv⟩
  exact SeqAt.notIn_listAt e pl.isList h1 (by rw[h2];exact⟨.bl _,H,I,rfl,q⟩)
 ·obtain⟨its,rv,pl,_⟩:=I.tuple hq
  obtain⟨e,h1,h2⟩:=fV I (A:=X.A) (by omega) fd (rd.rd rx) fl ⟨us,rl,rv⟩
  exact SeqAt.notIn_tupleAt e pl h1 (by rw[h2];exact⟨.bl _,H,I,rfl,q⟩)
def uo(g:Bool->Bool):R2':=fun x y H Q=>cO x H fun d=>cC y H fun l=>flat 8 d=true/\l.all (flat 8)=true/\Q (.bl (g (l.any fun z=>deq z d))) H
theorem a0{K:PySem.W.Frag}{g:Bool->Bool}:VR K B (uo g) (xJ K g):=by
 intro σ' σ H' H x' y' x y Q' Q s rx ry h k
 obtain⟨d1,r1,h1⟩:=cO.ex h s rx
 obtain⟨l,us,p,rfl,r2,hq,f1,f2,q⟩:=cC.ex h1 s ry
 exact⟨d1,p,l,us,f1,r1,rfl,f2,r2,hq,k _ H' _ H q (by simp[RP]) s (Ev.refl _ _)⟩
def qA(g:Bool->Bool):R2':=fun x y H Q=>match y,x with
 | .non,.non=>Q (.bl (g true)) H
 | .non,.oth _=>False
 | .non,_=>Q (.bl (g false)) H
 | _,_=>False
inductive BT where | non | bool | int | str | list | tuple
def BT.nm:BT->String | .non=>"NoneType" | .bool=>"bool" | .int=>"int" | .str=>"str" | .list=>"list" | .tuple=>"tuple"
def BT.sub:BT->BT->Bool
 | .non,.non=>true | .bool,.bool=>true | .int,.int=>true | .str,.str=>true | .list,.list=>true | .tuple,.tuple=>true
 | .bool,.int=>true
 | _,_=>false
theorem yp(K:PySem.W.Frag)(t c:BT):PySem.W.kitOne K (.type t.nm) (.type c.nm)=some (t.sub c):=by
 cases t<;>cases c<;>kernel_rfl
def btV(K:PySem.W.Frag)(H:Hp)(t:BT)(x:V):Prop:=match t with
 | .non=>x=.non
 | .bool=>∃b,x=.bl b
 | .int=>∃b,x=.int b
 | .str=>∃b,x=.str b
 | .list=>∃a us,x=.ref a/\SqL K H a us
 | .tuple=>∃a us,x=.ref a/\SqT K H a us
theorem bD(c:BT):cb X (.builtin "isinstance") (fun xs H Q=>∃x t,xs=[x,.ty c.nm]/\btV X.K H t x/\Q (.bl (t.sub c)) H):=by
 intro pins s σ H xs us Q I r h
 obtain⟨x,t,rfl,ht,q⟩:=h
 obtain⟨u,w',rfl,rx,rc⟩:=vals2 r
 have e1:w'=Value.type c.nm:=rc
 subst e1
 have k:=yp X.K t c
 have fin:∀tk,EP X pins σ Q (.bool (t.sub c)) { s with toks:=tk }:=fun tk=>⟨.bl _,H,I.tok _,rfl,q⟩
 cases t with
 | non=>cases (show x=V.non from ht);exact d3 I rx .non k fin
 | bool=>obtain⟨b,rfl⟩:=ht;exact d3 I rx (.bl b) k fin
 | int=>obtain⟨b,rfl⟩:=ht;exact d3 I rx (.int b) k fin
 | str=>obtain⟨b,rfl⟩:=ht;exact d3 I rx (.str b) k fin
 | list =>
  obtain⟨a,us,rfl,hq⟩:=ht
  cases rx
  obtain⟨its,rv,pl,_⟩:=I.list hq
  obtain⟨o,e,hc,_⟩:=pl.isList
  exact PySem.W.kia_one PySem.W.kitx_list I.kIn ⟨o,e,hc⟩ k (fun z=>nomatch z) fin
 | tuple =>
  obtain⟨a,us,rfl,hq⟩:=ht
  cases rx
  obtain⟨its,rv,pl,_⟩:=I.tuple hq
  obtain⟨o,e,hc,_⟩:=pl
  exact PySem.W.kia_one PySem.W.kitx_tuple I.kIn ⟨o,e,hc⟩ k (fun z=>nomatch z) fin
def cy(x:PV)(H:PHp)(k:BT->Prop):Prop:=match x with
 | .non=>k .non
 | .bl _=>k .bool
 | .int _=>k .int
 | .str _=>k .str
 | .tup _=>k .tuple
 | .fls _=>k .list
 | .ref a=>∃l,H a=some (.lst l)/\k .list
 | _=>False
theorem cy.ex{K:PySem.W.Frag}{σ':St'}{x:PV}{v:V}{H':PHp}{k:BT->Prop}(h:cy x H' k)(s:SR K B σ' H' σ H)(r:RP K H x v):∃t,btV K H t v/\k t:=by
 cases x with
 | non=>simp only[RP]at r;exact⟨.non,r,h⟩
 | bl b=>simp only[RP]at r;exact⟨.bool,⟨b,r⟩,h⟩
 | int b=>simp only[RP]at r;exact⟨.int,⟨b,r⟩,h⟩
 | str b=>simp only[RP]at r;exact⟨.str,⟨b,r⟩,h⟩
 | tup l=>simp only[RP]at r;obtain⟨a,us,e,q,_⟩:=r;exact⟨.tuple,⟨a,us,e,q⟩,h⟩
 | fls l=>simp only[RP]at r;obtain⟨a,us,e,q,_⟩:=r;exact⟨.list,⟨a,us,e,q.sq⟩,h⟩
 | ref a =>
  simp only[RP]at r
  obtain⟨l,e,h⟩:=h
  obtain⟨us,q,_⟩:=s.hp _ _ e
  exact⟨.list,⟨a,us,r,SqL.of q⟩,h⟩
 | oth _=>exact h.elim
def xw(c:BT):List PV->PHp->VK'->Prop:=fun xs H Q=>match xs with
 | [x,.oth (.ty n)]=>n=c.nm/\cy x H fun t=>Q (.bl (t.sub c)) H
 | _=>False
theorem cp{K:PySem.W.Frag}(c:BT):VC K B (xw c) (fun xs H Q=>∃x t,xs=[x,.ty c.nm]/\btV K H t x/\Q (.bl (t.sub c)) H):=by
 intro σ' σ H' H xs' xs Q' Q s r h k
 unfold xw at h
 split at h
 ·rename_i x n
  obtain⟨rfl,h⟩:=h
  simp only[RPs,RP]at r
  obtain⟨u,r1,rfl,rx,w,r2,rfl,rfl,rfl⟩:=r
  obtain⟨t,bt,h⟩:=cy.ex h s rx
  exact⟨u,t,rfl,bt,k _ H' _ H h (by simp[RP]) s (Ev.refl _ _)⟩
 ·exact h.elim
theorem cj{x:Str}{n:String}{pos:Pos}(hg:Gl X x)(hm:X.mg x=none)(hv:bootBuiltins x=some (.type n))(hn:x≠"__name__":=by decide)(hd:(x==("__debug__":Str))=false:=by decide):PE' X B (.Name x pos) (uC (.oth (.ty n))) :=
 a8 (tU (v:=.ty n) hg hm hv rfl hn hd) fun _ _ _ h=>qL (fun _=>by simp[RP]) h
variable {e o:Expr}{es:List Expr}{to:TE'}{t:TA'}{name:Str}{apos cpos:Pos}
def isL(x:PV)(H1:PHp):Prop:=match x with
 | .ref a=>∃l,H1 a=some (.lst l)
 | _=>False
def uBM(r:PV->List PV->PHp->VK'->Prop)(to:TE')(t:TA'):TE':=fun σ H Q=>to σ H fun x H1=>isL x H1/\t σ H1 fun xs H2=>r x xs H2 Q
def Bf(r:PV->List PV->PHp->VK'->Prop)(to:TE'):TE':=fun σ H Q=>to σ H fun x H1=>r x [] H1 Q
def VM(K:PySem.W.Frag)(B:Bs)(r':PV->List PV->PHp->VK'->Prop)(r:V->List V->Hp->VK->Prop):Prop:=∀(σ':St') (σ:L2.St) (H':PHp) (H:Hp) x' xs' x xs (Q':VK') (Q:VK),SR K B σ' H' σ H->RP K H x' x->RPs K H xs' xs->r' x' xs' H' Q' ->
 (∀v' H1' v H1,Q' v' H1'->RP K H1 v' v->SR K B σ' H1' σ H1->Ev H' H H1' H1->Q v H1)->r x xs H Q
theorem vX{K:PySem.W.Frag}{r':PV->List PV->PHp->VK'->Prop}{r:V->List V->Hp->VK->Prop}(v:VM K B r' r){σ:L2.St}{H:Hp}{Q:VK}(h:low K B (uBM r' to t) σ H Q):tBM K "list" r (low K B to) (qC K B t) σ H Q:=by
 obtain⟨σ',H',Q',s,h,k⟩:=h
 refine⟨σ',H',_,s,h,fun x' H1' x H1 h1 rx s1 e1=>?_⟩
 obtain⟨ty,h1⟩:=h1
 constructor
 ·cases x' with
  | ref a =>
   obtain⟨l,e⟩:=ty
   obtain⟨us,q,_⟩:=s1.hp _ _ e
   simp only[RP]at rx
   subst rx
   exact .inl ⟨rfl,us,SqL.of q⟩
  | _=>exact ty.elim
 ·refine⟨σ',H1',_,s1,h1,fun xs' H2' xs H2 h2 r2 s2 e2=>?_⟩
  exact v σ' σ H2' H2 x' xs' x xs Q' Q s2 (RP.kp K (e2.kp s1.hp) rx) r2 h2 fun v' H3' v H3 q rv s3 e3=>k v' H3' v H3 q rv s3 (e1.trans (e2.trans e3))
theorem cz{id:String}{r':PV->List PV->PHp->VK'->Prop}{r:V->List V->Hp->VK->Prop}(slot:Slot "list" name id)(hty:typeOf (.builtin id)=pure (.type "method_descriptor"))(hm:MtR X id r)(v:VM X.K B r' r)(ho:PE' X B o to)(ha:PA' X B (e::es) t)
  (hbase:attributeBase o name X.env (eval o X.env)=eval o X.env:=by rfl)
  (hfew:((backTo cpos (starEach (e::es) X.env)).all (fun x=>!x.1)&&(backToKw cpos (keywordEach [] X.env)).all (fun x=>x.1.isSome)
   && decide ((e::es).length+([]:List Keyword).length+(if ([]:List Keyword).isEmpty then 0 else 1)<30))=true:=by rfl)
  (hline:(apos.endLine==cpos.line)=true:=by rfl) (hs:starEach (e::es) X.env=(false,eval e X.env)::starEach es X.env:=by rfl) (hplain:(backTo cpos (starEach es X.env)).any (·.1)=false:=by rfl) :
  PE' X B (.Call (.Attribute o name apos) (e::es) [] cpos) (uBM r' to t):=a8 (AU PySem.F.plainAttrs_list slot hty hm ho ha hbase hfew hline hs hplain) fun _ _ _ h=>vX v h
theorem ip{id:String}{r':PV->List PV->PHp->VK'->Prop}{r:V->List V->Hp->VK->Prop}(slot:Slot "list" name id)(hty:typeOf (.builtin id)=pure (.type "method_descriptor"))(hm:MtR X id r)(v:VM X.K B r' r)
  (hl:∀x H Q,r' x [] H Q->match x with | .ref a=>∃l,H a=some (.lst l) | _=>False) (ho:PE' X B o to)
  (hbase:attributeBase o name X.env (eval o X.env)=eval o X.env:=by rfl) (hline:(apos.endLine==cpos.line)=true:=by rfl) :
  PE' X B (.Call (.Attribute o name apos) [] [] cpos) (Bf r' to):=a8 (vV PySem.F.plainAttrs_list slot hty hm ho hbase hline) fun σ H Q h=>by
 obtain⟨σ',H',Q',s,h,k⟩:=h
 refine⟨σ',H',_,s,h,fun x' H1' x H1 h1 rx s1 e1=>?_⟩
 constructor
 ·have ty:=hl _ _ _ h1
  cases x' with
  | ref a =>
   obtain⟨l,e⟩:=ty
   obtain⟨us,q,_⟩:=s1.hp _ _ e
   simp only[RP]at rx
   subst rx
   exact .inl ⟨rfl,us,SqL.of q⟩
  | _=>exact ty.elim
 ·exact v σ' σ H1' H1 x' [] x [] Q' Q s1 rx (RPs.nil _) h1 fun v' H3' v H3 q rv s3 e3=>k v' H3' v H3 q rv s3 (e1.trans e3)
def jP:PV->List PV->PHp->VK'->Prop:=fun x vs H Q=>match x,vs with
 | .ref a,[y]=>∃l,H a=some (.lst l)/\l.length<sizeLine/\Q .non (put H a (.lst (l++[y])))
 | _,_=>False
theorem b8{K:PySem.W.Frag}:VM K B jP nJ:=by
 intro σ' σ H' H x' xs' x xs Q' Q s rx r h k
 unfold jP at h
 split at h
 ·rename_i a y
  obtain⟨l,e,hl,h⟩:=h
  obtain⟨us,q,r2⟩:=s.hp _ _ e
  simp only[RP,RPs]at rx r
  obtain⟨u,r1,rfl,ru,rfl⟩:=r
  subst rx
  exact⟨a,us,u,rfl,rfl,q,by rw[RPs.length _ r2];exact hl,k _ _ _ _ h (by simp[RP]) (s.wr e (wrL s.hp e (RPs.append _ r2 (RPs.cons _ ru (RPs.nil _))))) (Ev.wr e)⟩
 ·exact h.elim
def jF:PV->List PV->PHp->VK'->Prop:=fun x vs H Q=>match x,vs with
 | .ref a,[.ref b]=>∃l m,H a=some (.lst l)/\H b=some (.lst m)/\l.length+m.length≤sizeLine/\Q .non (put H a (.lst (l++m)))
 | _,_=>False
theorem cI{K:PySem.W.Frag}:VM K B jF mK:=by
 intro σ' σ H' H x' xs' x xs Q' Q s rx r h k
 unfold jF at h
 split at h
 ·rename_i a b
  obtain⟨l,m,e,e2,hl,h⟩:=h
  obtain⟨us,q,r2⟩:=s.hp _ _ e
  obtain⟨ws,q2,r3⟩:=s.hp _ _ e2
  simp only[RP,RPs]at rx r
  obtain⟨u,r1,rfl,ru,rfl⟩:=r
  subst rx;subst ru
  exact⟨a,b,us,ws,rfl,rfl,q,q2,by rw[RPs.length _ r2,RPs.length _ r3];exact hl,k _ _ _ _ h (by simp[RP]) (s.wr e (wrL s.hp e (RPs.append _ r2 r3))) (Ev.wr e)⟩
 ·exact h.elim
def uF:PV->List PV->PHp->VK'->Prop:=fun x vs H Q=>match x,vs with
 | .ref a,[]=>∃l y,H a=some (.lst l)/\l[l.length - 1]?=some y/\Q y (put H a (.lst l.dropLast))
 | _,_=>False
theorem yB{K:PySem.W.Frag}:VM K B uF zl:=by
 intro σ' σ H' H x' xs' x xs Q' Q s rx r h k
 unfold uF at h
 split at h
 ·rename_i a
  obtain⟨l,y,e,hl,h⟩:=h
  obtain⟨us,q,r2⟩:=s.hp _ _ e
  simp only[RP,RPs]at rx r
  subst rx;subst r
  obtain⟨u,e1,e2⟩:=RPs.get _ r2 hl
  exact⟨a,us,u,rfl,rfl,q,by rw[RPs.length _ r2];exact e1,k _ _ _ _ h (RP.kp _ (s.hp.kpw e) e2) (s.wr e (wrL s.hp e (RPs.dropLast _ r2))) (Ev.wr e)⟩
 ·exact h.elim
end
end U
namespace U
open PySem L2
variable {B:Bs}
theorem ph(lo:Int)(n i:Nat)(h:i<n):(cU lo n).drop i=PV.int (lo+(i:Nat))::(cU lo n).drop (i+1):=by
 have hl:i<(cU lo n).length:=by simpa[cU]using h
 rw[List.drop_eq_getElem_cons hl]
 simp[cU]
theorem qr(lo:Int)(n:Nat):(cU lo n).drop n=[]:=by
 apply List.drop_of_length_le
 simp[cU]
theorem fD{ok:PHp->Prop}{g:TG'}{tb:TS'}{D:eF}{lo:Int}{n:Nat}(Pv:Nat->St'->PHp->Prop)(hd:∀σ H,Pv n σ H->ok H/\D.nx σ H)
  (hs:∀(G:St'->PHp->Prop) i σ H,i<n->Pv i σ H->(∀σ' H',Pv (i+1) σ' H'->G σ' H')->ok H/\g (.int (lo+(i:Nat))) σ H fun σ2 H2=>tb { D with nx:=G,ct:=G,bk:=D.nx } σ2 H2)
  {σ:St'} {H:PHp} (h0:Pv 0 σ H):dN ok g tb D (cU lo n) σ H:=by
 have key:∀(k i:Nat) {σ:St'} {H:PHp},i+k=n->Pv i σ H->dN ok g tb D ((cU lo n).drop i) σ H:=by
  intro k
  induction k with
  | zero =>
   intro i σ H hk p
   have:i=n:=hk
   subst this
   rw[qr]
   exact hd σ H p
  | succ k ih =>
   intro i σ H hk p
   have hi:i<n:=hk▸Nat.lt_add_of_pos_right (Nat.succ_pos k)
   rw[ph lo n i hi]
   exact hs _ i σ H hi p fun σ' H' p'=>ih (i+1) ((Nat.succ_add_eq_add_succ i k).trans hk) p'
 exact key n 0 (Nat.zero_add n) h0
theorem bN{ok:PHp->Prop}{g:TG'}{tb:TS'}{D:eF}{xs:List PV}(Pv:Nat->St'->PHp->Prop)(hd:∀σ H,Pv xs.length σ H->ok H/\D.nx σ H)
  (hs:∀(G:St'->PHp->Prop) i x σ H,xs[i]?=some x->Pv i σ H->(∀σ' H',Pv (i+1) σ' H'->G σ' H')->ok H/\g x σ H fun σ2 H2=>tb { D with nx:=G,ct:=G,bk:=D.nx } σ2 H2)
  {σ:St'} {H:PHp} (h0:Pv 0 σ H):dN ok g tb D xs σ H:=by
 have key:∀(k i:Nat) {σ:St'} {H:PHp},xs.length - i=k->i≤xs.length->Pv i σ H->dN ok g tb D (xs.drop i) σ H:=by
  intro k
  induction k with
  | zero =>
   intro i σ H hk hi p
   have:i=xs.length:=by omega
   subst this
   rw[List.drop_length]
   exact hd σ H p
  | succ k ih =>
   intro i σ H hk hi p
   have hl:i<xs.length:=by omega
   rw[List.drop_eq_getElem_cons hl]
   exact hs _ i _ σ H (List.getElem?_eq_getElem hl) p fun σ' H' p'=>ih (i+1) (by omega) (by omega) p'
 have:=key xs.length 0 (by omega) (by omega) h0
 simpa using this
theorem uB{m:List Int}{z:Int}(h0:0≤z)(h1:z<m.length):atI (m.map PV.int) z=some (.int (m.getD z.toNat 0)):=by
 unfold atI ixN
 rw[if_pos h0,List.length_map,if_pos h1]
 show(m.map PV.int)[z.toNat]?=_
 rw[List.getElem?_map,List.getD_eq_getElem?_getD]
 have:z.toNat<m.length:=by omega
 rw[List.getElem?_eq_getElem this]
 rfl
theorem w_V{v:PV}{k:PV->Prop}:kU (some (some v)) k=k v:=rfl
theorem w_B{b:Bool}{k:Bool->Prop}:dP (.bl b) k=k b:=rfl
theorem w_I{b:Int}{k:Int->Prop}:bV (.int b) k=k b:=rfl
theorem w_O{b:PV}{k:PV->Prop}:jv (some b) k=k b:=rfl
theorem DP{l:List PV}{H:PHp}{k:List PV->Prop}:cC (.tup l) H k=k l:=rfl
theorem Dv{l:List PV}{H:PHp}{k:List PV->Prop}:cC (.fls l) H k=k l:=rfl
theorem C5{a:Addr}{H:PHp}{k:List PV->Prop}:cC (.ref a) H k=∃l,H a=some (.lst l)/\k l:=rfl
theorem Ca{a:Addr}{H:PHp}{k:PV->Prop}:cO (.ref a) H k=∃l,H a=some (.lst l)/\k (.fls l):=rfl
theorem BM{H:PHp}{k:PV->Prop}:cO .non H k=k .non:=rfl
theorem DU{b:Bool}{H:PHp}{k:PV->Prop}:cO (.bl b) H k=k (.bl b):=rfl
theorem BX{b:Int}{H:PHp}{k:PV->Prop}:cO (.int b) H k=k (.int b):=rfl
theorem CL{b:Str}{H:PHp}{k:PV->Prop}:cO (.str b) H k=k (.str b):=rfl
theorem DW{b:List PV}{H:PHp}{k:PV->Prop}:cO (.tup b) H k=k (.tup b):=rfl
theorem Dd{b:List PV}{H:PHp}{k:PV->Prop}:cO (.fls b) H k=k (.fls b):=rfl
theorem De{H:PHp}{k:BT->Prop}:cy .non H k=k .non:=rfl
theorem D6{b:Bool}{H:PHp}{k:BT->Prop}:cy (.bl b) H k=k .bool:=rfl
theorem Dt{b:Int}{H:PHp}{k:BT->Prop}:cy (.int b) H k=k .int:=rfl
theorem Dp{b:Str}{H:PHp}{k:BT->Prop}:cy (.str b) H k=k .str:=rfl
theorem B5{b:List PV}{H:PHp}{k:BT->Prop}:cy (.tup b) H k=k .tuple:=rfl
theorem Ck{b:List PV}{H:PHp}{k:BT->Prop}:cy (.fls b) H k=k .list:=rfl
theorem BZ{a:Addr}{H:PHp}{k:BT->Prop}:cy (.ref a) H k=∃l,H a=some (.lst l)/\k .list:=rfl
theorem D8{b:Int}{k:Int->Prop}:intOf (.int b) k=k b:=rfl
theorem BD{b:Bool}{k:Int->Prop}:intOf (.bl b) k=k (b2n b):=rfl
theorem Cy{l:List PV}{lo hi:Option Int}{H:PHp}{Q:VK'}:sliceOf (.fls l) lo hi H Q=∀p,H p=none->Q (.ref p) (put H p (.lst (cN l lo hi))):=rfl
theorem CW{a:Addr}{lo hi:Option Int}{H:PHp}{Q:VK'}:sliceOf (.ref a) lo hi H Q=∃l,H a=some (.lst l)/\∀p,H p=none->Q (.ref p) (put H p (.lst (cN l lo hi))):=rfl
theorem Dh{l:List PV}{lo hi:Option Int}{H:PHp}{Q:VK'}:sliceOf (.tup l) lo hi H Q=(¬(HT.sIx l.length 0 lo=0/\HT.sIx l.length l.length hi=l.length)/\Q (.tup (cN l lo hi)) H):=rfl
theorem Dg{l:List PV}{H:PHp}{R:It'->PHp->Prop}:tK (.tup l) H R=R ⟨l,fun _=>True⟩ H:=rfl
theorem DA{l:List PV}{H:PHp}{R:It'->PHp->Prop}:tK (.fls l) H R=R ⟨l,fun _=>True⟩ H:=rfl
theorem CY{a:Addr}{H:PHp}{R:It'->PHp->Prop}:tK (.ref a) H R=∃l,H a=some (.lst l)/\R ⟨l,fun H=>H a=some (.lst l)⟩ H:=rfl
theorem w_1{f:PV->PHp->VK'->Prop}{x:PV}{H:PHp}{Q:VK'}:dc f [x] H Q=f x H Q:=rfl
theorem zw{c:BT}{x:PV}{n:String}{H:PHp}{Q:VK'}:xw c [x,.oth (.ty n)] H Q=(n=c.nm/\cy x H fun t=>Q (.bl (t.sub c)) H):=rfl
theorem D4{g:Bool->Bool}{H:PHp}{Q:VK'}:qA g .non .non H Q=Q (.bl (g true)) H:=rfl
theorem B7{g:Bool->Bool}{a:Addr}{H:PHp}{Q:VK'}:qA g (.ref a) .non H Q=Q (.bl (g false)) H:=rfl
theorem DK{g:Bool->Bool}{l:List PV}{H:PHp}{Q:VK'}:qA g (.tup l) .non H Q=Q (.bl (g false)) H:=rfl
theorem Dj{g:Bool->Bool}{l:Int}{H:PHp}{Q:VK'}:qA g (.int l) .non H Q=Q (.bl (g false)) H:=rfl
theorem Ef{g:Bool->Bool}{l:Bool}{H:PHp}{Q:VK'}:qA g (.bl l) .non H Q=Q (.bl (g false)) H:=rfl
theorem BS{n:Nat}{t:gg}{l:List PV}{σ:St'}{H:PHp}{Q:St'->PHp->Prop}:Bm n t (.tup l) σ H Q=(l.length=n/\t l σ H Q):=rfl
theorem Bz{t:TG'}{u:gg}{v:PV}{r:List PV}{σ:St'}{H:PHp}{Q:St'->PHp->Prop}:vf t u (v::r) σ H Q=t v σ H fun σ' H'=>u r σ' H' Q:=rfl
theorem Dy{σ:St'}{H:PHp}{Q:St'->PHp->Prop}:xV [] σ H Q=(True/\Q σ H):=by simp[xV]
theorem Cv{t:TA'}{σ:St'}{H:PHp}{R:It'->PHp->Prop}:vN t σ H R=t σ H fun vs H1=>tH vs H1 R:=rfl
theorem AS{j:Int}{H1:PHp}{R:It'->PHp->Prop}:tH [.int j] H1 R=((-(2 ^ 62)≤j/\j<2 ^ 62)/\R ⟨cU 0 j.toNat,fun _=>True⟩ H1):=rfl
theorem Cm{t:TA'}{σ:St'}{H:PHp}{R:It'->PHp->Prop}:vL t σ H R=t σ H fun vs H1=>uS vs H1 R:=rfl
theorem AF{i j:Int}{H1:PHp}{R:It'->PHp->Prop}:uS [.int i,.int j] H1 R=((-(2 ^ 62)≤i/\i<2 ^ 62/\-(2 ^ 62)≤j/\j<2 ^ 62)/\R ⟨cU i (j - i).toNat,fun _=>True⟩ H1):=rfl
theorem Cj{a:Addr}{y:PV}{H:PHp}{Q:VK'}:jP (.ref a) [y] H Q=∃l,H a=some (.lst l)/\l.length<sizeLine/\Q .non (put H a (.lst (l++[y]))):=rfl
theorem BV{a b:Addr}{H:PHp}{Q:VK'}:jF (.ref a) [.ref b] H Q=∃l m,H a=some (.lst l)/\H b=some (.lst m)/\l.length+m.length≤sizeLine/\Q .non (put H a (.lst (l++m))):=rfl
theorem BJ{a:Addr}{H:PHp}{Q:VK'}:uF (.ref a) [] H Q=∃l y,H a=some (.lst l)/\l[l.length - 1]?=some y/\Q y (put H a (.lst l.dropLast)):=rfl
theorem DX{r:PV->List PV->PHp->VK'->Prop}{to:TE'}{t:TA'}{σ:St'}{H:PHp}{Q:VK'}:uBM r to t σ H Q=to σ H fun x H1=>isL x H1/\t σ H1 fun xs H2=>r x xs H2 Q:=rfl
theorem BI{a:Addr}{H:PHp}:isL (.ref a) H=∃l,H a=some (.lst l):=rfl
theorem aj{n:Nat}(h:n≤1000):n≤sizeLine:=Nat.le_of_lt (bE h)
end U
namespace U
open PySem L2
theorem ai{t u:TS'}{D:eF}{σ:St'}{H:PHp}(h:∀R:TS',R=u->sv t R D σ H):sv t u D σ H:=h u rfl
end U
namespace U
open PySem PySem.Spec PyProof.Rows L2
variable {B:Bs}
section
variable {X:Cx}{pins:List (Addr×Obj)}{σ:L2.St}{H H':Hp}{s:Shared}{h':Heap}{a C T:Addr}{fl:Value}
variable {M:Model}{E:Value->Shared->Prop}{Q:Unit->Shared->Prop}
end
end U
namespace U
open PySem PySem.Spec PyProof.Rows L2 PySem.W
section
variable {prog:Program}{w:World}{A:Around}{E:Value->Shared->Prop}{h:Heap}{g:Array GenState}{d:Drawn}{t:Nat}{os:OsState}{a C:Addr}{o:Obj}{K:Frag}
end
end U
namespace U
open PySem PySem.Spec PyProof.Rows L2
variable {B:Bs}
section
variable {P:Program}{w:World}{K:PySem.W.Frag}{mg:Str->Option Value}{base:Heap}
end
section
variable {X:Cx}{k:Nat}{f C D:Addr}{fd:FuncData}{ps:List Str}{sp:Sp'}{E:XK}{E':XK'}{x m n:Str}{p np pos apos cpos:Pos}{e o:Expr}{es:List Expr}{ta:TE'}{t:TA'}
end
end U
namespace U
open PySem PySem.Spec PyProof.Rows L2
variable {B:Bs}
section
variable {X:Cx}{pins:List (Addr×Obj)}{σ:L2.St}{H:Hp}{s:Shared}{a C T:Addr}{fl:Value}
abbrev mk(X:Cx)(e:Value):Cx:={ X with A:=X.A.mark (some e),calm:=false,xe:=fun _ _=>False }
end
end U
namespace U
open PySem PySem.Spec PyProof.Rows L2
variable {B:Bs}
section
variable {X:Cx}{k:Nat}{f C D:Addr}{fd:FuncData}{ps:List Str}{sp:Sp'}{x m n:Str}{p np pos apos cpos:Pos}{e o:Expr}{es:List Expr}{ta:TE'}{t:TA'}
end
end U
namespace U
open PySem L2
def pr(p:Str×Bool):PV:=.tup [.str p.1,.bl p.2]
def told(xs:List (Str×Bool)):List PV:=(xs.filter (·.2)).map fun p=>PV.str p.1
end U
namespace U
open PySem L2
def pairs:List (Str×TE')->List Bool->List PV
 |(n,_)::r,b::bs=>.tup [.str n,.bl b]::pairs r bs
 | _,_=>[]
end U
namespace U
open PySem
theorem len0{P:List Value->Prop}(h:P [])(us:List Value)(hl:us.length=0):P us:=by
 cases us with
 | nil=>exact h
 | cons a r=>exact absurd hl (Nat.succ_ne_zero _)
theorem Bo{P:List Value->Prop}(h:∀a,P [a])(us:List Value)(hl:us.length=1):P us:=by
 cases us with
 | nil=>exact absurd hl.symm (Nat.succ_ne_zero _)
 | cons a r=>exact len0 (P:=fun r=>P (a::r)) (h a) r (Nat.succ.inj hl)
theorem AL{P:List Value->Prop}(h:∀a b,P [a,b])(us:List Value)(hl:us.length=2):P us:=by
 cases us with
 | nil=>exact absurd hl.symm (Nat.succ_ne_zero _)
 | cons a r=>exact Bo (P:=fun r=>P (a::r)) (h a) r (Nat.succ.inj hl)
theorem zV{P:List Value->Prop}(h:∀a b c,P [a,b,c])(us:List Value)(hl:us.length=3):P us:=by
 cases us with
 | nil=>exact absurd hl.symm (Nat.succ_ne_zero _)
 | cons a r=>exact AL (P:=fun r=>P (a::r)) (h a) r (Nat.succ.inj hl)
theorem Bw{P:List Value->Prop}(h:∀a b c d,P [a,b,c,d])(us:List Value)(hl:us.length=4):P us:=by
 cases us with
 | nil=>exact absurd hl.symm (Nat.succ_ne_zero _)
 | cons a r=>exact zV (P:=fun r=>P (a::r)) (h a) r (Nat.succ.inj hl)
end U
namespace U
open PySem PySem.Spec PyProof.Rows L2
variable {B:Bs}{X:Cx}
end U
namespace L2
open PySem PySem.Spec PyProof.Rows
def c7(X:Cx)(N2:List Str)(scope:Scope)(cl:List (Str×Addr))(s0:Shared)(H0:Hp)(fp:List Addr)(ps:List (Addr×Obj)):Cx :=
 { X with N:=N2,s₀:=s0,H₀:=H0,env:=compEnvC scope cl s0.heap.objs.size X.env,outer:=X.stack,stack:=X.stack,ex:=fp,fn:=fun x=>(cl.lookup x).isNone,pn:=ps,xe:=fun _ _=>False }
def kv(nt:Nat)(js:List Nat)(σ:St):St:=List.replicate nt none++js.map fun j=>(σ[j]?).join
theorem cA{env:Env}:∀{names:List (Str×NameKind)} {x:Str},names.lookup x=some .free ->
  (names.map fun(n,k)=>if (k==NameKind.free&&env.scope.kind==.function&&env.kindOf n==some .cell)then(n,NameKind.cell)else(n,k)).lookup x=some .cell ∨
  (names.map fun(n,k)=>if (k==NameKind.free&&env.scope.kind==.function&&env.kindOf n==some .cell)then(n,NameKind.cell)else(n,k)).lookup x=some .free
 | [],_,h=>by simp at h
 |(n,k)::r,x,h=>by
  have ih:=@cA env r x
  show List.lookup x ((if (k==NameKind.free&&env.scope.kind==.function&&env.kindOf n==some .cell)=true then(n,NameKind.cell)else(n,k))::_)=_∨List.lookup x ((if (k==NameKind.free&&env.scope.kind==.function&&env.kindOf n==some .cell)=true then(n,NameKind.cell)else(n,k))::_)=_
  cases hx:x==n with
  | true =>
   simp only[List.lookup_cons,hx]at h
   cases h
   by_cases hc:(NameKind.free==NameKind.free&&env.scope.kind==.function&&env.kindOf n==some .cell)=true
   ·rw[if_pos hc];simp[List.lookup_cons,hx]
   ·rw[if_neg hc];simp[List.lookup_cons,hx]
  | false =>
   simp only[List.lookup_cons,hx]at h
   by_cases hc:(k==NameKind.free&&env.scope.kind==.function&&env.kindOf n==some .cell)=true
   ·rw[if_pos hc];simp only[List.lookup_cons,hx];exact ih h
   ·rw[if_neg hc];simp only[List.lookup_cons,hx];exact ih h
structure cx (X:Cx) (N2:List Str) (nt:Nat) (js:List Nat) (scope:Scope) (cl:List (Str × Addr)) (sc:Scope):Prop where
 clos:closureFor scope X.env=pure cl
 sub:∀x c,cl.lookup x=some c->X.env.cells.lookup x=some c
 xsc:X.env.scope=sc
 kind:scope.kind=.function
 nocell:∀y∈scope.names,y.2≠.cell
 loc:∀y∈scope.names,y.2=.local->scope.names.lookup y.1=some .local
 has:∀y∈scope.names,y.2=.free->y.1∈cl.map (·.1)
 frs:∀x∈N2.drop nt,scope.names.lookup x=some .free/\sc.names.lookup x=some .cell
 len:N2.length=nt+js.length
 pl:∀(k j:Nat),js[k]?=some j->X.N[j]?=N2[nt+k]?
theorem mem_lookup{α:Type}:∀{l:List (Str×α)} {x:Str},x∈l.map (·.1)->∃c,l.lookup x=some c
 | [],_,h=>by simp at h
 |(n,k)::r,x,h=>by
  cases hx:x==n with
  | true=>exact⟨k,by simp[List.lookup_cons,hx]⟩
  | false =>
   have h':x=n∨x∈r.map (·.1):=by simpa using h
   have hn:x≠n:=by intro e;subst e;simp at hx
   obtain⟨c,e⟩:=mem_lookup (h'.resolve_left hn)
   exact⟨c,by simp[List.lookup_cons,hx,e]⟩
theorem lookup_mem{α:Type}:∀{l:List (Str×α)} {x:Str} {c:α},l.lookup x=some c->(x,c)∈l
 | [],_,_,h=>by simp at h
 |(n,k)::r,x,c,h=>by
  cases hx:x==n with
  | true =>
   simp only[List.lookup_cons,hx]at h
   have e:x=n:=by simpa using hx
   cases h;subst e;exact List.mem_cons_self
  | false =>
   simp only[List.lookup_cons,hx]at h
   exact List.mem_cons_of_mem _ (lookup_mem h)
section
variable {X:Cx}{pins:List (Addr×Obj)}{σ:St}{H:Hp}{s:Shared}{N2:List Str}{nt:Nat}{js:List Nat}{scope sc:Scope}{cl:List (Str×Addr)}{fp:List Addr}
theorem cx.kindOf(O:cx X N2 nt js scope cl sc){x:Str}{C:Addr}(h:(compEnvC scope cl C X.env).kindOf x=some .cell∨(compEnvC scope cl C X.env).kindOf x=some .free):∃c,cl.lookup x=some c:=by
 have h':(relabel scope X.env).names.lookup x=some .cell∨(relabel scope X.env).names.lookup x=some .free:=h
 have key:∀(k:NameKind),(relabel scope X.env).names.lookup x=some k->(k=.cell∨k=.free)->∃y∈scope.names,y.1=x/\(y.2=.cell∨y.2=.free):=fun k e hk=>by
  have m:=lookup_mem e
  obtain⟨⟨n,k'⟩,hm,e'⟩:=List.mem_map.mp m
  by_cases hc:(k'==NameKind.free&&X.env.scope.kind==.function&&X.env.kindOf n==some .cell)=true
  ·simp only[hc,if_true]at e'
   have e1:n=x:=congrArg Prod.fst e'
   refine⟨(n,k'),hm,e1,.inr ?_⟩
   rw[Bool.and_eq_true,Bool.and_eq_true]at hc
   exact beq_iff_eq.mp hc.1.1
  ·have e'':(n,k')=(x,k):=by
    dsimp only at e'
    rw[if_neg hc]at e'
    exact e'
   cases e''
   exact⟨(x,k),hm,rfl,hk⟩
 obtain⟨y,hy,rfl,hk⟩:=h'.elim (fun e=>key _ e (.inl rfl)) fun e=>key _ e (.inr rfl)
 rcases hk with hk | hk
 ·exact absurd hk (O.nocell y hy)
 ·exact mem_lookup (O.has y hy hk)
theorem oq(O:cx X N2 nt js scope cl sc)(I:Inv X pins σ H s)(hf:∀b∈fp,fK X pins H b)(hlt:∀b∈fp,b<s.heap.objs.size):(c7 X N2 scope cl s H fp (X.pn++pins)).Ok where
 mod:=I.ok.mod
 kind:=O.kind
 glob:=I.ok.glob
 blt:=I.ok.blt
 above:=Nat.le_refl _
 inj:=fun x y c h1 h2=>I.ok.inj x y c (O.sub x c h1) (O.sub y c h2)
 has:=fun x h=>O.kindOf h
 cab:=fun x c h1 h2=>by
  have h1':(cl.lookup x).isNone=true:=h1
  have h2':cl.lookup x=some c:=h2
  rw[h2']at h1';cases h1'
 hd:=I.ok.hd
 frames:=I.ok.frames
 stk:=.inl rfl
 exf:=fun b hb=>⟨Nat.ne_of_lt (hlt b hb),fun x c e=>(hf b hb).2.2.2.2.1 x c (O.sub x c e)⟩
 bs:=I.bs
 bsz:=Nat.le_trans I.ok.bsz I.sz
 noex:=fun b o e hb=>by
  obtain⟨_,_,_,h3,_⟩:=hf b hb
  rcases h3 with h3 | h3
  ·exact I.ok.noex b o e h3
  ·exact absurd (Nat.lt_of_lt_of_le (Heap.lt_size (I.ok.bs b o e).1) h3) (Nat.lt_irrefl _)
 exfs:=fun b hb hs=>by
  obtain⟨_,h1,h2,_⟩:=hf b hb
  rcases List.mem_cons.mp (I.stkSub b hs)with e | e
  ·exact h1 e
  ·exact h2 e
 funs:=I.stack
 frf:=I.stkFree
theorem lK(O:cx X N2 nt js scope cl sc)(I:Inv X pins σ H s)(hf:∀b∈fp,fK X pins H b)(hlt:∀b∈fp,b<s.heap.objs.size){h4:Heap}{t4:Nat}(hn:h4.Ns s.heap.objs.size fun _=>none)
  (hk:∀b o,s.heap.get? b=some o->h4.get? b=some o):Inv (c7 X N2 scope cl s H fp (X.pn++pins)) [] (kv nt js σ) H { s with heap:=h4,toks:=t4 }:=by
 refine⟨oq O I hf hlt,rfl,I.bare,Un.kept hk,⟨_,hn,fun i x v e1 e2 e3=>?_⟩,fun x c e=>?_,I.hok.fresh (Nat.le_refl _),fun x c e=>I.freeC x c (O.sub x c e),fun p hp=>?_,I.hok.kept hk,?_⟩
 ·unfold kv at e2
  by_cases hi:i<nt
  ·rw[List.getElem?_append_left (by simpa using hi),List.getElem?_replicate]at e2
   split at e2<;>cases e2
  ·obtain⟨k,rfl⟩:∃k,i=nt+k:=⟨i - nt,by omega⟩
   rw[List.getElem?_append_right (by simp),List.length_replicate,Nat.add_sub_cancel_left,List.getElem?_map]at e2
   cases ej:js[k]? with
   | none=>rw[ej]at e2;cases e2
   | some j =>
    rw[ej]at e2
    have e2':(σ[j]?).join=some v:=Option.some.inj e2
    have eσ:σ[j]?=some (some v):=by
     cases q:σ[j]? with
     | none=>rw[q]at e2';cases e2'
     | some o=>rw[q]at e2';exact congrArg some e2'
    have eN:X.N[j]?=some x:=(O.pl k j ej).trans e1
    have hx:x∈N2.drop nt:=by
     have:(N2.drop nt)[k]?=some x:=by rw[List.getElem?_drop];exact e1
     exact List.mem_of_getElem? this
    obtain⟨f1,f2⟩:=O.frs x hx
    have vis:Vis X.env.scope x:=.inr (.inl (by rw[O.xsc];exact f2))
    obtain⟨m,hnX,hl⟩:=I.loc
    obtain⟨u,r,l⟩:=hl j x v eN eσ vis
    refine⟨u,r,.inr ⟨?_,?_⟩⟩
    ·exact cA f1
    ·rcases l with⟨k1,_⟩ |⟨_,c,ec,ic⟩
     ·have k2:sc.names.lookup x=some .local:=by rw[←O.xsc];exact k1
      rw[f2]at k2;cases k2
     ·obtain⟨c',ec'⟩:=mem_lookup (O.has (x,.free) (lookup_mem f1) rfl)
      have:=O.sub x c' ec'
      rw[ec]at this;cases this
      obtain⟨o,ho,hd⟩:=ic
      exact⟨c,ec',o,hk _ _ ho,hd⟩
 ·obtain⟨v,o,ho,hd⟩:=I.cell x c (O.sub x c e)
  exact⟨v,o,hk _ _ ho,hd⟩
 ·have hp':p∈X.pn++pins:=by
   have hp2:p∈(X.pn++pins)++[]:=hp
   rwa [List.append_nil]at hp2
  obtain⟨e,n,ne,nf,d⟩:=I.pin p hp'
  refine⟨hk _ _ e,n,Nat.ne_of_lt (Heap.lt_size e),fun hb=>?_,d⟩
  rcases List.mem_cons.mp (I.stkSub p.1 hb)with z | z
  ·exact ne z
  ·exact nf z
 ·unfold kv
  show _=N2.length
  rw[List.length_append,List.length_replicate,List.length_map,O.len]
theorem rH{σ':St}{H':Hp}{s':Shared}{pl:List (Addr×Obj)}(I:Inv X pins σ H s)(hf:∀b∈fp,fK X pins H b)(J:Inv (c7 X N2 scope cl s H fp (X.pn++pins)) pl σ' H' s'):Inv X pins σ H' s' :=
 I.call' (ch:=fp) J.os J.base J.hok J.bare fun b hb=>by
  obtain⟨h0,h1,h2,h3,h4,h5⟩:=hf b hb
  exact⟨h3,h1,h4,h5⟩
end
end L2
namespace L2
open PySem PySem.Spec PyProof.Rows
def PIf(Y:Cx)(ifs:List Expr)(t:TT):Prop :=
 ∀(pins:List (Addr×Obj)) (s:Shared) (σ:St) (H:Hp) (Q:Bool->Hp->Prop),Inv Y pins σ H s->t σ H Q ->
  wpAny (model Y.prog Y.w) Y.A (forIn ifs true fun c r=>if r=true then do let ok←isTrue c Y.env (eval c Y.env);pure (ForInStep.yield ok)else pure (ForInStep.yield r)) (TP Y pins σ Q) Y.xe s
def D0:TT:=fun _ H Q=>Q true H
theorem sN{Y:Cx}:PIf Y [] D0:=fun _ _ _ H _ I h=>wpAny_tests_nil ⟨H,I,h⟩
theorem sD{Y:Cx}{c:Expr}{t:TT}(h:PT Y c t):PIf Y [c] t:=fun pins s σ H Q I hw=>wpAny_tests_one (h pins s σ H Q I hw)
def vC(acc:Addr)(J:It)(g:TG)(tt:TT)(te:TE)(W:Nat->Nat->L2.St->Hp->Prop)(i m:Nat)(σ0:L2.St)(H:Hp):Prop :=
 J.go i H/\∀x H',J.yld i H x H'->g x σ0 H' fun σ3 H2=>tt σ3 H2 fun b H3 =>
  if b=true then te σ3 H3 fun y H4=>∃ys,H4 acc=some (.lst ys)/\ys.length<sizeLine/\∃m',m'<m/\W (i+1) m' σ3 (upd H4 acc (.lst (ys++[y])))
  else ∃m',m'<m/\W (i+1) m' σ3 H3
def nA(nt:Nat)(js:List Nat)(wi:TI)(g:TG)(tt:TT)(te:TE):TE:=fun σ H Q=>wi σ H fun J H1=>∀acc,H1 acc=none ->
 ∃W:Nat->Nat->L2.St->Hp->Prop,(∃m,W 0 m (kv nt js σ) (upd H1 acc (.lst [])))/\∀i m σ0 H,W i m σ0 H->(J.stop i H/\Q (.ref acc) H)∨vC acc J g tt te W i m σ0 H
structure rf (Y:Cx) (tg:Expr) (ifs:List Expr) (elt:Expr) (g:TG) (tt:TT) (te:TE):Prop where
 tgt:PG Y tg g
 tst:PIf Y ifs tt
 elt:PE Y elt te
theorem j4{prog:Program}{w:World}{A:Around}{R:Result->Shared->Prop}{s:Shared}{elt target iter:Expr}{ifs:List Expr}{scope:Scope}{pos:Pos}{it acc:Value}{env:Env}(I:Nat->Shared->Prop)
  (turn:∀n s,I n s->wpAny (model prog w) A (pyNext it) (fun r s₁=>match r with
   | none=>R (.ok .next) s₁
   | some v=>wpAny (model prog w) A (letOwnedTupleGo target it v) (fun _ s₀=>wpAny (model prog w) A (assign target env v) (fun _ s₂ =>
     wpAny (model prog w) A (forIn ifs true fun c r=>if r=true then do let ok←isTrue c env (eval c env);pure (ForInStep.yield ok)else pure (ForInStep.yield r)) (fun ok s₃ =>
      if ok=true then wpAny (model prog w) A (eval elt env) (fun x s₄ =>
       wpAny (model prog w) A (call (.builtin "list.append") [acc,x]) (fun _ s₅=>∃m,m<n/\I m s₅) (fun _ _=>False) s₄) (fun _ _=>False) s₃
      else ∃m,m<n/\I m s₃) (fun _ _=>False) s₂) (fun _ _=>False) s₀) (fun _ _=>False) s₁) (fun _ _=>False) s)
  (n:Nat) (h:I n s) :
  codeAny (model prog w) A (.compLoop (.ListComp elt [⟨target,iter,ifs,0⟩] scope pos) 0 it acc env) R s:=by
 refine codeAny_loop rfl I (fun n s hI=>?_) n h
 show wpAny _ A ((compTurn (.ListComp elt [⟨target,iter,ifs,0⟩] scope pos) 0 it acc env).onRaise (fun x=>do noteFrame x env;theTreesLotGoes x)) _ _ s
 refine wpAny_noted ?_
 rw[compTurn_list]
 refine wpAny_bind (wpAny_standAt (wpAny_bind (wpAny_mono (turn n s hI) (fun r s₁ h₁=>?_) fun _ _ h'=>h'.elim)))
 cases r with
 | none=>exact wpAny_pure h₁
 | some v =>
  refine wpAny_bind (wpAny_mono h₁ (fun _ s₀ h₀=>?_) fun _ _ h'=>h'.elim)
  refine wpAny_bind (wpAny_mono h₀ (fun _ s₂ h₂=>wpAny_bind (wpAny_mono h₂ (fun ok s₃ h₃=>?_) fun _ _ h'=>h'.elim)) fun _ _ h'=>h'.elim)
  cases ok with
  | false=>exact wpAny_pure ⟨rfl,h₃⟩
  | true =>
   exact wpAny_bind (wpAny_bind (wpAny_mono h₃ (fun x s₄ h₄=>wpAny_bind (wpAny_mono h₄ (fun _ s₅ h₅=>wpAny_pure (wpAny_pure ⟨rfl,h₅⟩)) fun _ _ h'=>h'.elim)) fun _ _ h'=>h'.elim))
section
variable {X:Cx}{pins:List (Addr×Obj)}{σ:St}{H:Hp}{s:Shared}{N2:List Str}{nt:Nat}{js:List Nat}{scope sc:Scope}{cl:List (Str×Addr)}{fp:List Addr}{elt iter tg:Expr}{ifs:List Expr}{pos:Pos}
 {wi:TI} {g:TG} {tt:TT} {te:TE}
theorem kW(O:cx X N2 nt js scope cl sc)(hc:X.calm=true)(B:∀(s0:Shared) (H0:Hp) (fp:List Addr) (ps:List (Addr×Obj)),rf (c7 X N2 scope cl s0 H0 fp ps) tg ifs elt g tt te)
  {it:Addr} {tn:Nat->Heap->Prop} {J:It} {E:Value->Shared->Prop} {Q:VK} {RR:Value->Addr->Result->Shared->Prop}
  (I:Inv X pins σ H s) (T:Turn X.prog X.w X.K tg J fp it tn) (st:tn 0 s.heap) (hf:∀b∈fp,fK X pins H b)
  (h:∀acc,H acc=none->∃W:Nat->Nat->L2.St->Hp->Prop,(∃m,W 0 m (kv nt js σ) (upd H acc (.lst [])))/\∀i m σ0 H,W i m σ0 H->(J.stop i H/\Q (.ref acc) H)∨vC acc J g tt te W i m σ0 H)
  (hRR:∀(acc C:Addr) (s':Shared) (H':Hp) (m:Str->Option Value),s'.heap.Ns C m->Inv X pins σ H' s'->H' C=none->C≠X.env.locals->X.s₀.heap.objs.size≤C->(∀x c,X.env.cells.lookup x=some c->c≠C)->(∀p∈X.pn++pins,p.1≠C)->Q (.ref acc) H'->RR (.ref acc) C (.ok .next) s') :
  wpAny (model X.prog X.w) X.A (newList []) (fun acc s₃=>wpAny (model X.prog X.w) X.A (newFunctionEnv scope X.env.globals cl [] X.env.qual none .none (some X.env)) (fun cenv s₄ =>
   codeAny (model X.prog X.w) X.A (.compStart (.ListComp elt [⟨tg,iter,ifs,0⟩] scope pos) 0 (.ref it) acc { cenv with scope:=relabel scope X.env }) (RR acc cenv.locals) s₄) E s₃) E s:=by
 have hlt:∀b∈fp,b<s.heap.objs.size:=fun b hb=>by
  obtain⟨o,e,_⟩:=T.obj _ _ st b hb
  exact Heap.lt_size e
 have hnA:H s.heap.objs.size=none:=I.hok.fresh (Nat.le_refl _)
 obtain⟨W,⟨m0,w0⟩,turn⟩:=h s.heap.objs.size hnA
 refine wpAny_newObj_type (wpAny_newFunctionEnv O.nocell (by intro y hy;simp at hy) (fun h₁ hns₁ hsb₁=>?_) O.kind)
 dsimp only at hns₁ hsb₁ ⊢
 have I3:Inv X pins σ (upd H s.heap.objs.size (.lst [])) { s with heap:=s.heap.push { cls:=.type "list",dict:=none,data:=.seq ([]:List Value).toArray } } :=
  I.laid (t':=s.toks) (fun b u e=>Heap.get?_push_of_some _ e) (Nat.le_refl _) ⟨by show 0≤sizeLine;exact Nat.zero_le _,[],0,.nil,Heap.get?_push_size _ rfl⟩
 generalize hs3:({ s with heap:=s.heap.push { cls:=.type "list",dict:=none,data:=.seq ([]:List Value).toArray } }:Shared)=s3 at I3
 have e3:s3.heap=s.heap.push { cls:=.type "list",dict:=none,data:=.seq ([]:List Value).toArray }:=by rw[←hs3]
 rw[←e3]at hns₁ hsb₁ ⊢
 have et:s3.toks=s.toks:=by rw[←hs3]
 have hf3:∀b∈fp,fK X pins (upd H s.heap.objs.size (.lst [])) b:=fun b hb=>by
  obtain⟨f0,f⟩:=hf b hb
  exact⟨by rw[aV (Nat.ne_of_lt (hlt b hb))];exact f0,f⟩
 have hlt3:∀b∈fp,b<s3.heap.objs.size:=fun b hb=>by rw[e3,Heap.size_push];exact Nat.lt_succ_of_lt (hlt b hb)
 have hk4:∀b o,s3.heap.get? b=some o->h₁.get? b=some o:=fun b o e=>hsb₁.extBut b o (Nat.ne_of_lt (Heap.lt_size e)) (Heap.get?_push_of_some _ e)
 have hns':h₁.Ns s3.heap.objs.size fun _=>none:=hns₁
 have I4:=lK (t4:=s3.toks+([]:List (Str×Value)).length) O I3 hf3 hlt3 hns' hk4
 have st4:tn 0 h₁:=T.keep _ _ _ st fun b hb o e=>hk4 b o (by rw[e3];exact Heap.get?_push_of_some _ e)
 have B4:=B s3 (upd H s.heap.objs.size (.lst [])) fp (X.pn++pins)
 generalize hY:c7 X N2 scope cl s3 (upd H s.heap.objs.size (.lst [])) fp (X.pn++pins)=Y at I4 B4
 have yP:Y.prog=X.prog:=by rw[←hY];rfl
 have yw:Y.w=X.w:=by rw[←hY];rfl
 have yK:Y.K=X.K:=by rw[←hY];rfl
 have yA:Y.A=X.A:=by rw[←hY];rfl
 have yc:Y.calm=true:=by rw[←hY];exact hc
 have yx:Y.xe=fun _ _=>False:=by rw[←hY];rfl
 have ye:Y.env=compEnvC scope cl s3.heap.objs.size X.env:=by rw[←hY];rfl
 have fpY:∀{H':Hp},(∀b∈fp,H' b=none)->∀b∈fp,fK Y [] H' b:=fun hn b hb=>by
  obtain⟨f0,f1,f2,f3,f4,f5⟩:=hf3 b hb
  rw[←hY]
  refine⟨hn b hb,Nat.ne_of_lt (hlt3 b hb),fun hs=>?_,.inl hb,fun x c e=>f4 x c (O.sub x c e),fun p hp=>?_⟩
  ·rcases List.mem_cons.mp (I3.stkSub b hs)with e | e
   ·exact f1 e
   ·exact f2 e
  ·have hp2:p∈(X.pn++pins)++[]:=hp
   rw[List.append_nil]at hp2
   exact f5 p hp2
 have fin:∀{σ':St} {H':Hp} {s':Shared} {pl:List (Addr×Obj)},Inv Y pl σ' H' s'->Q (.ref s.heap.objs.size) H'->RR (.ref s.heap.objs.size) s3.heap.objs.size (.ok .next) s':=fun {σ' H' s' pl} I' q=>by
  have J':Inv X pins σ H' s':=rH I3 hf3 (hY▸I')
  obtain⟨m,hn,_⟩:=I'.loc
  have hfr:=I'.free
  rw[ye]at hn hfr
  refine hRR _ _ s' H' m hn J' hfr (Nat.ne_of_gt I3.lt) I3.sz (fun x c e z=>?_) (fun p hp z=>?_) q
  ·obtain⟨v,q⟩:=I3.cell x c e
   exact absurd (Nat.lt_of_lt_of_le q.lt (by rw[z];exact Nat.le_refl _)) (Nat.lt_irrefl _)
  ·exact absurd (Nat.lt_of_lt_of_le (Heap.lt_size (I3.pin p hp).1) (by rw[z];exact Nat.le_refl _)) (Nat.lt_irrefl _)
 have loop:∀s4:Shared,s4={ s3 with heap:=h₁,toks:=s3.toks+([]:List (Str×Value)).length } ->
   codeAny (model X.prog X.w) X.A (.compLoop (.ListComp elt [⟨tg,iter,ifs,0⟩] scope pos) 0 (.ref it) (.ref s.heap.objs.size) (compEnvC scope cl s3.heap.objs.size X.env)) (RR (.ref s.heap.objs.size) s3.heap.objs.size) s4:=by
  rintro s4 rfl
  refine j4 (fun n s'=>∃i σ0 H',Inv Y [] σ0 H' s'/\tn i s'.heap/\(∀b∈fp,H' b=none)/\W i n σ0 H') ?_ m0
   ⟨0,_,_,I4,st4,fun b hb=>(hf3 b hb).1,w0⟩
  rintro n s5 ⟨i,σ5,H5,I5,st5,fr5,w5⟩
  rcases turn i n σ5 H5 w5 with⟨stop,q⟩ |⟨go,step⟩
  ·have r:=T.done Y yP yw yK yc i [] s5 _ H5 (fun _ _=>False) I5 (fpY fr5) st5 stop
   rw[yA]at r
   refine thn r fun r s6 ⟨hr,I6⟩=>?_
   subst hr
   exact fin I6 q
  ·have r:=T.item Y yP yw yK yc i [] s5 _ H5 (fun _ _=>False) I5 (fpY fr5) st5 go
   rw[yA]at r
   refine thn r fun r s6 ⟨u,hr,h6⟩=>?_
   subst hr
   refine thn h6 fun _ s7 ⟨x,H7,I7,r7,y7,st7,fr7⟩=>?_
   have I7':=I7.pinned (fpY fr7) (T.obj _ _ st7)
   have r:=B4.tgt _ s7 _ H7 x u _ I7' r7 (step x H7 y7)
   rw[yP,yw,yA,yx,ye]at r
   refine thn r fun _ s8 ⟨σ8,H8,I8,q8⟩=>?_
   have r:=B4.tst _ s8 σ8 H8 _ I8 q8
   rw[yP,yw,yA,yx,ye]at r
   refine thn r fun ok s9 ⟨H9,I9,q9⟩=>?_
   have back:∀{s':Shared} {H':Hp},Inv Y ([]++iB fp s7.heap) σ8 H' s'->(Inv Y [] σ8 H' s'/\tn (i+1) s'.heap/\∀b∈fp,H' b=none):=fun {s' H'} I'=>by
    refine⟨I'.unpinned,T.keep _ _ _ st7 fun b hb o e=>(I'.pin (b,o) (List.mem_append_right _ (List.mem_append_right _ (dC hb e)))).1,fun b hb=>?_⟩
    obtain⟨o,e,d⟩:=T.obj _ _ st7 b hb
    exact(I'.pin (b,o) (List.mem_append_right _ (List.mem_append_right _ (dC hb e)))).2.1
   cases ok with
   | false =>
    have q9':∃m',m'<n/\W (i+1) m' σ8 H9:=q9
    obtain⟨m',hm,w9⟩:=q9'
    obtain⟨b1,b2,b3⟩:=back I9
    show ∃m,m<n/\_
    exact⟨m',hm,i+1,σ8,H9,b1,b2,b3,w9⟩
   | true =>
    have q9':te σ8 H9 fun y H4=>∃ys,H4 s.heap.objs.size=some (.lst ys)/\ys.length<sizeLine/\∃m',m'<n/\W (i+1) m' σ8 (upd H4 s.heap.objs.size (.lst (ys++[y]))):=q9
    have r:=B4.elt _ s9 σ8 H9 _ I9 q9'
    rw[yP,yw,yA,yx,ye]at r
    show wpAny _ _ (eval elt _) _ _ s9
    refine thn r fun y s10 ⟨yv,H10,I10,r10,q10⟩=>?_
    obtain⟨ys,a1,a2,m',hm,w10⟩:=q10
    have r:=bT (X:=Y) _ s10 σ8 H10 (.ref s.heap.objs.size) [yv] (.ref s.heap.objs.size) [y] (fun _ H'=>H'=upd H10 s.heap.objs.size (.lst (ys++[yv]))) I10 rfl (.cons r10 .nil) ⟨_,ys,yv,rfl,rfl,a1,a2,rfl⟩
    rw[yP,yw,yA,yx]at r
    refine thn r fun _ s11 ⟨_,H11,I11,_,e11⟩=>?_
    subst e11
    obtain⟨b1,b2,b3⟩:=back I11
    exact⟨m',hm,i+1,σ8,_,b1,b2,b3,w10⟩
 have st4':tn 0 ({ s3 with heap:=h₁,toks:=s3.toks+([]:List (Str×Value)).length }:Shared).heap:=st4
 have hs4:({ s with heap:=h₁,toks:=s.toks+([]:List (Str×Value)).length }:Shared)={ s3 with heap:=h₁,toks:=s3.toks+([]:List (Str×Value)).length }:=by rw[←hs3]
 exact codeAny_compStart_list (loop _ hs4) (T.self _ 0 _ _ _ st4 (loop _ hs4))
theorem kj(O:cx X N2 nt js scope cl sc)(hc:X.calm=true)(hi:PI X tg iter wi)(B:∀(s0:Shared) (H0:Hp) (fp:List Addr) (ps:List (Addr×Obj)),rf (c7 X N2 scope cl s0 H0 fp ps) tg ifs elt g tt te)
  (hs:∀x,foldedSetIterable iter X.env x=pure x:=by intro _;rfl):PE X (.ListComp elt [⟨tg,iter,ifs,0⟩] scope pos) (nA nt js wi g tt te):=by
 intro pins s σ H Q I h
 rw[eval_ListComp]
 refine wpAny_comprehension_free (use:=none) rfl hs O.clos O.kind O.loc (thn (hi pins s σ H _ I h) fun xv s1 h1=>thn h1 fun itv s2 h2=>?_)
 obtain⟨it,fp,tn,J,H2,e,I2,T,st2,f2,q⟩:=h2
 subst e
 refine kW (RR:=fun acc C=>compPost (model X.prog X.w) X.A X.xe none (EP X pins σ Q) acc C) O hc B I2 T st2 f2 q ?_
 intro acc C s' H' m hn J' c1 c2 c3 c4 c5 q'
 refine⟨m,hn,fun h' hsb=>⟨.ref acc,H',?_,rfl,q'⟩⟩
 exact J'.turned (t':=s'.toks) (fun b o hb e=>hsb.extBut b o hb e) c1 (Ne.symm c2 |> fun z=>fun y=>z y.symm) (.inr c3) c4 c5
theorem qJ{i:Nat}{y:Str}{py spos:Pos}(hN:X.N.Nodup)(hy:X.N[i]?=some y)(hl:Loc X.env.scope y)(O:cx X N2 nt js scope cl sc)(hc:X.calm=true)(hi:PI X tg iter wi)
  (B:∀(s0:Shared) (H0:Hp) (fp:List Addr) (ps:List (Addr×Obj)),rf (c7 X N2 scope cl s0 H0 fp ps) tg ifs elt g tt te)
  (hsw:swapsWith (.ListComp elt [⟨tg,iter,ifs,0⟩] scope pos) (some (.Name y py)) spos.line X.env=pure true:=by rfl)
  (hs:∀x,foldedSetIterable iter X.env x=pure x:=by intro _;rfl) (hfn:X.fn y=true∨X.env.scope.names.lookup y=some .local:=by first | exact .inl rfl | exact .inr rfl | assumption) :
  PS X (.Assign [.Name y py] (.ListComp elt [⟨tg,iter,ifs,0⟩] scope pos) spos) (uw (nA nt js wi g tt te) (mJ i)):=by
 intro pins s σ H D I h
 rw[exec_Assign_Name_used _ _ _ _ hsw]
 refine wpAny_bind (wpAny_standAt (wpAny_bind ?_))
 show wpAny _ X.A (do let _←comprehension (.ListComp elt [⟨tg,iter,ifs,0⟩] scope pos) scope X.env _ (newList []) false (eval iter X.env) (some (assign (.Name y py) X.env))) _ _ s
 refine wpAny_bind (wpAny_mono (wpAny_comprehension_free (use:=some (assign (.Name y py) X.env)) (Q:=fun _ s'=>SP X pins D .next s') rfl hs O.clos O.kind O.loc
  (thn (hi pins s σ H _ I h) fun xv s1 h1=>thn h1 fun itv s2 h2=>?_)) (fun _ s' hq=>wpAny_pure (wpAny_pure hq)) fun _ _ e=>e)
 obtain⟨it,fp,tn,J,H2,e,I2,T,st2,f2,q⟩:=h2
 subst e
 refine kW (Q:=fun v H1=>mJ i v σ H1 D.nx) (RR:=fun acc C=>compPost (model X.prog X.w) X.A X.xe (some (assign (.Name y py) X.env)) (fun _ s'=>SP X pins D .next s') acc C) O hc B I2 T st2 f2 q ?_
 intro acc C s' H' m hn J' c1 c2 c3 c4 c5 q'
 show wpAny _ X.A (assign (.Name y py) X.env (.ref acc)) _ _ _
 refine wpAny_assign_Name (i6 (v:=.ref acc) J' hN hy hl rfl (fun s2 I2' ⟨a,sb,ha⟩=>?_) hfn)
 have hCa:C≠a:=by
  rcases ha with ha | ha
  ·rw[ha];exact c2
  ·exact fun z=>c4 y a ha z.symm
 refine⟨m,hn.sameBut sb hCa,fun h' hsb=>⟨_,H',?_,q'⟩⟩
 exact I2'.turned (t':=s2.toks) (fun b o hb e=>hsb.extBut b o hb e) c1 c2 (.inr c3) c4 c5
end
end L2
namespace U
open PySem PySem.Spec PyProof.Rows L2
variable {B:Bs}{X:Cx}{pos:Pos}
def t7(nt:Nat)(js:List Nat)(σ:St'):St':=List.replicate nt none++js.map fun j=>(σ[j]?).join
theorem SR.sig{K:PySem.W.Frag}{σ':St'}{H':PHp}{σ:L2.St}{H:Hp}(s:SR K B σ' H' σ H)(nt:Nat)(js:List Nat):SR K B (t7 nt js σ') H' (kv nt js σ) H:=by
 refine⟨by simp[t7,kv],fun i v' e=>?_,s.hp,s.ev⟩
 unfold t7 at e
 unfold kv
 by_cases hi:i<nt
 ·rw[List.getElem?_append_left (by simpa using hi),List.getElem?_replicate]at e
  split at e<;>cases e
 ·rw[List.getElem?_append_right (by simp;omega),List.length_replicate,List.getElem?_map]at e ⊢
  cases ej:js[i - nt]? with
  | none=>rw[ej]at e;cases e
  | some j =>
   rw[ej]at e
   have e2:(σ'[j]?).join=some v':=Option.some.inj e
   cases q:σ'[j]? with
   | none=>rw[q]at e2;cases e2
   | some o =>
    rw[q]at e2
    have e3:σ'[j]?=some (some v'):=by rw[q];exact congrArg some e2
    obtain⟨v,a,b⟩:=s.loc j v' e3
    exact⟨v,by show some ((σ[j]?).join)=_;rw[a];rfl,b⟩
def cn(ok:PHp->Prop)(g:TG')(tt:TT')(te:TE')(acc:Addr)(Q:VK'):List PV->St'->PHp->Prop
 | [],σ,H=>ok H/\Q (.ref acc) H
 | x::r,σ,H=>ok H/\g x σ H fun σ3 H2=>tt σ3 H2 fun b H3=>cif b (te σ3 H3 fun y H4=>∃l,H4 acc=some (.lst l)/\l.length<sizeLine/\cn ok g tt te acc Q r σ3 (put H4 acc (.lst (l++[y])))) (cn ok g tt te acc Q r σ3 H3)
def iX(nt:Nat)(js:List Nat)(wi:TI')(g:TG')(tt:TT')(te:TE'):TE':=fun σ H Q=>wi σ H fun J H1=>∀acc,H1 acc=none->cn J.ok g tt te acc Q J.items (t7 nt js σ) (put H1 acc (.lst []))
def xy(Y:Cx)(B:Bs)(ifs:List Expr)(t:TT'):Prop:=PIf Y ifs (jS Y.K B t)
def AN:TT':=fun _ H Q=>Q true H
theorem bg{Y:Cx}:xy Y B [] AN:=fun pins s σ H Q I ⟨σ',H',Q',sr,h,k⟩=>sN pins s σ H Q I (k true H' H h sr (Ev.refl _ _))
theorem bj{Y:Cx}{c:Expr}{t:TT'}(h:PT' Y B c t):xy Y B [c] t:=sD h
theorem kl{K:PySem.W.Frag}{nt:Nat}{js:List Nat}{wi:TI'}{g:TG'}{tt:TT'}{te:TE'}{σ:L2.St}{H:Hp}{Q:VK}(h:low K B (iX nt js wi g tt te) σ H Q) :
  nA nt js (AD K B wi) (lowG K B g) (jS K B tt) (low K B te) σ H Q:=by
 obtain⟨σ',H',Q',s,h,k⟩:=h
 refine⟨σ',H',_,s,h,fun J' H1' J H1 h1 wk s1 e1 acc ha=>?_⟩
 have h1:=h1 acc (s1.hp.free ha)
 have sn:SR K B σ' (put H1' acc (.lst [])) σ (upd H1 acc (.lst [])):=s1.new ha ⟨[],bB,RPs.nil _⟩
 have en:Ev H1' H1 (put H1' acc (.lst [])) (upd H1 acc (.lst [])):=Ev.new ha
 refine⟨fun i m σ2 H2=>i≤J'.items.length/\m=J'.items.length - i/\∃σ2' H2',SR K B σ2' H2' σ2 H2/\SR K B σ' H2' σ H2/\Ev H1' H1 H2' H2/\cn J'.ok g tt te acc Q' (J'.items.drop i) σ2' H2',
  ⟨J'.items.length,Nat.zero_le _,by simp,_,_,sn.sig nt js,sn,en,h1⟩,?_⟩
 rintro i m σ2 H2 ⟨hi,rfl,σ2',H2',s2,so,e2,h2⟩
 have k2:=e2.kp s1.hp
 by_cases hlt:i<J'.items.length
 ·obtain⟨x',hx⟩:∃x',J'.items[i]?=some x':=⟨_,List.getElem?_eq_getElem hlt⟩
  have hd:J'.items.drop i=x'::J'.items.drop (i+1):=by
   rw[List.drop_eq_getElem_cons hlt]
   rw[List.getElem?_eq_getElem hlt]at hx
   cases hx;rfl
  rw[hd]at h2
  obtain⟨ok2,h2⟩:=(show J'.ok H2'/\_ from h2)
  refine .inr ⟨wk.go H2' H2 i k2 s2.hp ok2 hlt,fun x H3 y=>?_⟩
  obtain⟨rfl,rx⟩:=wk.yld H2' H2 i x H3 k2 s2.hp ok2 y
  refine⟨x',σ2',H2',_,rx x' hx,s2,h2,fun σ3' H3' σ3 H3 h3 s3 e3=>⟨σ3',H3',_,s3,h3,fun b H4' H4 h4 s4 e4=>?_⟩⟩
  cases b with
  | false =>
   have e24:=e3.trans e4
   exact jB ⟨J'.items.length - (i+1),by omega,hlt,rfl,σ3',H4',s4,so.kp e24 s4.hp,e2.trans e24,h4⟩
  | true =>
   refine jI ⟨σ3',H4',_,s4,h4,fun y' H5' y H5 h5 ry5 s5 e5=>?_⟩
   obtain⟨l,a1,a2,h5⟩:=h5
   have e25:=(e3.trans e4).trans e5
   obtain⟨us,q1,q2⟩:=s5.hp _ _ a1
   have wr:=wrL s5.hp a1 (RPs.append _ q2 (RPs.cons _ ry5 (RPs.nil _)))
   refine⟨us,q1,by rw[RPs.length _ q2];exact a2,J'.items.length - (i+1),by omega,hlt,rfl,σ3',_,s5.wr a1 wr,(so.kp e25 s5.hp).wr a1 wr,(e2.trans e25).trans (Ev.wr a1),h5⟩
 ·have hi':i=J'.items.length:=by omega
  subst hi'
  rw[List.drop_length]at h2
  obtain⟨ok2,h2⟩:=(show J'.ok H2'/\_ from h2)
  exact .inl ⟨wk.stop H2' H2 _ k2 s2.hp ok2 (Nat.le_refl _),k _ _ _ _ h2 (by simp[RP]) so (e1.trans e2)⟩
section
variable {N2:List Str}{nt:Nat}{js:List Nat}{scope sc:Scope}{cl:List (Str×Addr)}{elt iter tg:Expr}{ifs:List Expr}{wi:TI'}{g:TG'}{tt:TT'}{te:TE'}
structure lX (Y:Cx) (B:Bs) (tg:Expr) (ifs:List Expr) (elt:Expr) (g:TG') (tt:TT') (te:TE'):Prop where
 tgt:PG' Y B tg g
 tst:xy Y B ifs tt
 elt:PE' Y B elt te
theorem bf(O:cx X N2 nt js scope cl sc)(hc:X.calm=true)(hi:PI' X B tg iter wi)(b:∀(s0:Shared) (H0:Hp) (fp:List Addr) (ps:List (Addr×Obj)),lX (c7 X N2 scope cl s0 H0 fp ps) B tg ifs elt g tt te)
  (hs:∀x,foldedSetIterable iter X.env x=pure x:=by intro _;rfl):PE' X B (.ListComp elt [⟨tg,iter,ifs,0⟩] scope pos) (iX nt js wi g tt te) :=
 a8 (kj (g:=lowG X.K B g) (tt:=jS X.K B tt) (te:=low X.K B te) O hc hi (fun s0 H0 fp ps=>⟨(b s0 H0 fp ps).tgt,(b s0 H0 fp ps).tst,(b s0 H0 fp ps).elt⟩) hs) fun _ _ _ h=>kl h
theorem bx{i:Nat}{y:Str}{py spos:Pos}(hN:X.N.Nodup)(hy:X.N[i]?=some y)(hl:Loc X.env.scope y)(O:cx X N2 nt js scope cl sc)(hc:X.calm=true)(hi:PI' X B tg iter wi)
  (b:∀(s0:Shared) (H0:Hp) (fp:List Addr) (ps:List (Addr×Obj)),lX (c7 X N2 scope cl s0 H0 fp ps) B tg ifs elt g tt te)
  (hsw:swapsWith (.ListComp elt [⟨tg,iter,ifs,0⟩] scope pos) (some (.Name y py)) spos.line X.env=pure true:=by rfl)
  (hs:∀x,foldedSetIterable iter X.env x=pure x:=by intro _;rfl) (hfn:X.fn y=true∨X.env.scope.names.lookup y=some .local:=by first | exact .inl rfl | exact .inr rfl | assumption) :
  PS' X B (.Assign [.Name y py] (.ListComp elt [⟨tg,iter,ifs,0⟩] scope pos) spos) (rm (iX nt js wi g tt te) (ju i)) :=
 da (qJ (g:=lowG X.K B g) (tt:=jS X.K B tt) (te:=low X.K B te) hN hy hl O hc hi (fun s0 H0 fp ps=>⟨(b s0 H0 fp ps).tgt,(b s0 H0 fp ps).tst,(b s0 H0 fp ps).elt⟩) hsw hs hfn) fun D σ H ⟨σ',H',D',s,h,d⟩=>by
  refine kl ⟨σ',H',_,s,h,fun v' H1' v H1 q r s1 e1=>?_⟩
  exact d.nx _ _ _ _ q (s1.set r i) e1
end
end U
namespace U
open PySem PySem.Spec PyProof.Rows L2
def nX(cs:List (Str×Addr)):List (Str×Addr)->Prop
 | []=>True
 | p::r=>cs.lookup p.1=some p.2/\nX cs r
theorem nX.mem{cs:List (Str×Addr)}:∀{l:List (Str×Addr)} {p:Str×Addr},nX cs l->p∈l->cs.lookup p.1=some p.2
 | q::r,p,h,m=>by
  rcases List.mem_cons.mp m with rfl | m
  ·exact h.1
  ·exact nX.mem h.2 m
theorem cok{X:Cx}{N2:List Str}{nt:Nat}{js:List Nat}{scope sc:Scope}{cl:List (Str×Addr)}(clos:closureFor scope X.env=pure cl)(sub:nX X.env.cells cl)(xsc:X.env.scope=sc)(kind:scope.kind=.function)
  (nocell:∀y∈scope.names,y.2≠.cell) (loc:∀y∈scope.names,y.2=.local->scope.names.lookup y.1=some .local) (names:cl.map (·.1)=((scope.names.filter (·.2==.free)).map (·.1)).reverse)
  (frs:∀x∈N2.drop nt,scope.names.lookup x=some .free/\sc.names.lookup x=some .cell) (len:N2.length=nt+js.length) (pl:js.map (fun j=>X.N[j]?)=(N2.drop nt).map some):cx X N2 nt js scope cl sc :=
 ⟨clos,fun x c e=>sub.mem (lookup_mem e),xsc,kind,nocell,loc,fun y m f=>by rw[names];exact List.mem_reverse.mpr (List.mem_map_of_mem (List.mem_filter.mpr ⟨m,by rw[f];rfl⟩)),frs,len,fun k j e=>by
  have h:(js.map (fun j=>X.N[j]?))[k]?=((N2.drop nt).map some)[k]?:=by rw[pl]
  rw[List.getElem?_map,List.getElem?_map,e,List.getElem?_drop]at h
  cases q:N2[nt+k]? with
  | none=>rw[q]at h;cases h
  | some x=>rw[q]at h;exact Option.some.inj h⟩
end U
namespace U
open PySem PySem.Spec PyProof.Rows L2
end U
namespace L2
open PySem PySem.Spec PyProof.Rows
variable {X:Cx}{a b c d:Expr}{pos:Pos}{ta tb tc td:TE}
def sQ(r r' r'':R2)(ta tb tc td:TE):TE:=fun σ H Q=>ta σ H fun x H1=>tb σ H1 fun y H2=>r x y H2 fun z H3=>∃k,z=.bl k /\
 (if k=true then tc σ H3 fun w' H4=>r' y w' H4 fun z' H5=>∃k',z'=.bl k'/\(if k'=true then td σ H5 fun v' H6=>r'' w' v' H6 Q else Q (.bl false) H5)else Q (.bl false) H3)
theorem oa{op op' op'':CmpOp}{r r' r'':R2}(ho:OpR X (compareOp op) r)(ho':OpR X (compareOp op') r')(ho'':OpR X (compareOp op'') r'')(ha:PE X a ta)(hb:PE X b tb)(hc:PE X c tc)(hd:PE X d td)
  (hm:lastMarks [op,op',op''] [b,c,d]=false:=by with_unfolding_all rfl):PE X (.Compare a [op,op',op''] [b,c,d] pos) (sQ r r' r'' ta tb tc td):=by
 intro pins s σ H Q I h
 refine Compare_chain (thn (ha pins s σ H _ I h) fun v s1 ⟨x,H1,I1,r1,q1⟩=>chain_link (thn (hb pins s1 σ H1 _ I1 q1) fun u s2 ⟨y,H2,I2,r2,q2⟩ =>
  thn (ho pins s2 σ H2 x y v u _ I2 r1 r2 q2) fun d s3 ⟨z,H3,I3,r3,k,e,q3⟩=>?_)) hm
 subst e
 cases r3
 refine wpAny_truthy_bool ?_
 cases k with
 | false=>exact ite_ff ⟨.bl false,H3,I3,rfl,q3⟩
 | true =>
  refine ite_tt (chain_link (thn (hc pins s3 σ H3 _ I3 q3) fun w' s4 ⟨z',H4,I4,r4,q4⟩=>thn (ho' pins s4 σ H4 y z' u w' _ I4 r2 r4 q4) fun d' s5 ⟨z5,H5,I5,r5,k5,e5,q5⟩=>?_))
  subst e5
  cases r5
  refine wpAny_truthy_bool ?_
  cases k5 with
  | false=>exact ite_ff ⟨.bl false,H5,I5,rfl,q5⟩
  | true=>exact ite_tt (chain_last (thn (hd pins s5 σ H5 _ I5 q5) fun w6 s6 ⟨z6,H6,I6,r6,q6⟩=>ho'' pins s6 σ H6 z' z6 w' w6 Q I6 r4 r6 q6))
end L2
namespace U
open PySem PySem.Spec PyProof.Rows L2
variable {B:Bs}{X:Cx}{a b c d e o value:Expr}{pos pos' apos p:Pos}{ta tb tc td tv:TE'}{f m x:Str}{C g:Addr}
def nO(r r' r'':R2')(ta tb tc td:TE'):TE':=fun σ H Q=>ta σ H fun x H1=>tb σ H1 fun y H2=>r x y H2 fun z H3=>dP z fun k=>cif k (tc σ H3 fun w' H4=>r' y w' H4 fun z' H5=>dP z' fun k'=>cif k' (td σ H5 fun v' H6=>r'' w' v' H6 Q) (Q (.bl false) H5)) (Q (.bl false) H3)
theorem oz{op op' op'':CmpOp}{r1' r2' r3':R2'}{r1 r2 r3:R2}(ho:OpR X (compareOp op) r1)(v1:VR X.K B r1' r1)(ho':OpR X (compareOp op') r2)(v2:VR X.K B r2' r2)(ho'':OpR X (compareOp op'') r3)(v3:VR X.K B r3' r3)
  (ha:PE' X B a ta) (hb:PE' X B b tb) (hc:PE' X B c tc) (hd:PE' X B d td)
  (hm:lastMarks [op,op',op''] [b,c,d]=false:=by with_unfolding_all rfl):PE' X B (.Compare a [op,op',op''] [b,c,d] pos) (nO r1' r2' r3' ta tb tc td):=a8 (oa ho ho' ho'' ha hb hc hd hm) fun σ H Q ⟨σ',H',Q',s,h,k⟩=>by
 refine⟨σ',H',_,s,h,fun x' H1' x H1 h1 rx s1 e1=>⟨σ',H1',_,s1,h1,fun y' H2' y H2 h2 ry s2 e2=>?_⟩⟩
 refine v1 σ' σ H2' H2 x' y' x y _ _ s2 (RP.kp X.K (e2.kp s1.hp) rx) ry h2 fun z' H3' z H3 q rz s3 e3=>?_
 obtain⟨b,rfl,q⟩:=q.ex
 simp only[RP]at rz
 refine⟨b,rz,?_⟩
 cases b with
 | false=>exact jB (k _ _ _ _ q (by simp[RP]) s3 ((e1.trans e2).trans e3))
 | true =>
  refine jI ⟨σ',H3',_,s3,q,fun w' H4' w H4 h4 rw4 s4 e4=>?_⟩
  refine v2 σ' σ H4' H4 y' w' y w _ _ s4 (RP.kp X.K ((e3.trans e4).kp s2.hp) ry) rw4 h4 fun z5' H5' z5 H5 q5 rz5 s5 e5=>?_
  obtain⟨b5,rfl,q5⟩:=q5.ex
  simp only[RP]at rz5
  refine⟨b5,rz5,?_⟩
  cases b5 with
  | false=>exact jB (k _ _ _ _ q5 (by simp[RP]) s5 ((((e1.trans e2).trans e3).trans e4).trans e5))
  | true =>
   refine jI ⟨σ',H5',_,s5,q5,fun v' H6' v H6 h6 rv s6 e6=>?_⟩
   exact v3 σ' σ H6' H6 w' v' w v _ _ s6 (RP.kp X.K ((e5.trans e6).kp s4.hp) rw4) rv h6 fun z7' H7' z7 H7 q7 rz7 s7 e7=>k _ _ _ _ q7 rz7 s7 ((((((e1.trans e2).trans e3).trans e4).trans e5).trans e6).trans e7)
def vb(C:Addr)(f:Str)(x:PV)(H:PHp)(Q:VK'):Prop:=match x with
 | .ref a=>∃dx fs v,H a=some (.ins C dx fs)/\fs.lookup f=some v/\Q v H
 | _=>False
def zh(C:Addr)(f:Str)(ta:TE'):TE':=fun σ H Q=>ta σ H fun x H1=>vb C f x H1 Q
theorem gH{K:PySem.W.Frag}{H:Hp}{f:Str}{v:PV}:∀{fs:List (Str×PV)} {gs:List (Str×V)},eG K H fs gs->fs.lookup f=some v->∃u,gs.lookup f=some u/\RP K H v u
 | [],[],_,e=>by simp at e
 |(n,y)::r,(m,z)::q,.cons h t,e=>by
  obtain⟨rfl,hr⟩:=h
  dsimp only at hr
  cases hx:f==n with
  | true =>
   simp only[List.lookup_cons,hx]at e ⊢
   cases e
   exact⟨z,rfl,hr⟩
  | false =>
   simp only[List.lookup_cons,hx]at e ⊢
   exact gH t e
theorem ja{K:PySem.W.Frag}{H:Hp}{f:Str}:∀{fs:List (Str×PV)} {gs:List (Str×V)},eG K H fs gs->fs.lookup f=none->gs.lookup f=none
 | [],[],_,e=>rfl
 |(n,y)::r,(m,z)::q,.cons h t,e=>by
  obtain⟨rfl,hr⟩:=h
  cases hx:f==n with
  | true=>simp only[List.lookup_cons,hx]at e;cases e
  | false =>
   simp only[List.lookup_cons,hx]at e ⊢
   exact ja t e
theorem kz{K:PySem.W.Frag}{H:Hp}:∀{fs:List (Str×PV)} {gs:List (Str×V)},eG K H fs gs->gs.length=fs.length
 | [],[],_=>rfl
 | _::_,_::_,.cons _ t=>by simp[kz t]
theorem cg(ha:PE' X B e ta)(cl:Cls X.K C)(n:cR X.K C f)(hb:attributeBase e f X.env (eval e X.env)=eval e X.env):PE' X B (.Attribute e f pos) (zh C f ta):=a8 (wY ha hb) fun σ H Q ⟨σ',H',Q',s,h,k⟩=>by
 refine⟨σ',H',_,s,h,fun x' H1' x H1 h1 rx s1 e1=>?_⟩
 cases x' with
 | ref a =>
  obtain⟨dx,fs,v,ea,l,q⟩:=h1
  simp only[RP]at rx
  subst rx
  obtain⟨gs,eg,fr⟩:=s1.hp _ _ ea
  obtain⟨u,lu,ru⟩:=gH fr l
  exact⟨a,C,dx,gs,u,rfl,eg,cl,n,lu,k _ _ _ _ q ru s1 e1⟩
 | _=>exact h1.elim
def h7(f:Str)(v:PV):List (Str×PV)->List (Str×PV)
 | []=>[(f,v)]
 |(g,x)::r=>if g=f then(g,v)::r else(g,x)::h7 f v r
theorem kC{K:PySem.W.Frag}{H:Hp}{f:Str}{v:PV}{u:V}(rv:RP K H v u):∀{fs:List (Str×PV)} {gs:List (Str×V)},eG K H fs gs->eG K H (h7 f v fs) (dq f u gs)
 | [],[],_=>.cons ⟨rfl,rv⟩ .nil
 |(n,y)::r,(m,z)::q,.cons h t=>by
  obtain⟨rfl,hr⟩:=h
  unfold h7 dq
  by_cases hn:n=f
  ·rw[if_pos hn,if_pos hn];exact .cons ⟨rfl,rv⟩ t
  ·rw[if_neg hn,if_neg hn];exact .cons ⟨rfl,hr⟩ (kC rv t)
def vy(C:Addr)(f:Str)(x y:PV)(H:PHp)(Q:PHp->Prop):Prop:=match x with
 | .ref a=>∃dx fs,H a=some (.ins C dx fs)/\fs.length<1000/\Q (put H a (.ins C dx (h7 f y fs)))
 | _=>False
def rO(C:Addr)(f:Str)(ta tv:TE'):TS':=fun D σ H=>tv σ H fun y H1=>ta σ H1 fun x H2=>vy C f x y H2 fun H3=>D.nx σ H3
theorem fY(ha:PE' X B o ta)(hv:PE' X B value tv)(cl:Cls X.K C)(n:cR X.K C f)(hs:swapsWith value (some (.Attribute o f pos')) pos.line X.env=pure false):PS' X B (.Assign [.Attribute o f pos'] value pos) (rO C f ta tv):=da (xh ha hv hs) fun D σ H ⟨σ',H',D',s,h,dd⟩=>by
 refine⟨σ',H',_,s,h,fun y' H1' y H1 h1 ry s1 e1=>⟨σ',H1',_,s1,h1,fun x' H2' x H2 h2 rx s2 e2=>?_⟩⟩
 cases x' with
 | ref a =>
  obtain⟨dx,fs,ea,l,q⟩:=h2
  simp only[RP]at rx
  subst rx
  obtain⟨gs,eg,fr⟩:=s2.hp _ _ ea
  have ry2:=RP.kp X.K (e2.kp s1.hp) ry
  have new:OAt X.K (upd H2 a (.ins C dx (dq f y gs))) a (.ins C dx (h7 f y' fs)):=⟨_,bB,eG.kp (s2.hp.kpw ea) (kC ry2 fr)⟩
  exact⟨a,C,dx,gs,rfl,eg,cl,n,by rw[kz fr];exact l,dd.nx _ _ _ _ q (s2.wr ea new) ((e1.trans e2).trans (Ev.wr ea))⟩
 | _=>exact h2.elim
def isIn(C:Addr)(m:Str)(x:PV)(H:PHp):Prop:=match x with
 | .ref a=>∃dx fs,H a=some (.ins C dx fs)/\fs.lookup m=none
 | _=>False
def qV(C:Addr)(m:Str)(sp:Sp')(E':XK')(ta:TE')(t:TA'):TE':=fun σ H Q=>ta σ H fun x H1=>isIn C m x H1/\t σ H1 fun vs H2=>sp (x::vs) H2 Q E'
section
variable {k:Nat}{fd:FuncData}{ps:List Str}{sp:Sp'}{es:List Expr}{t:TA'}
theorem ou{K:PySem.W.Frag}{σ:L2.St}{H:Hp}{Q:VK}(h:low K B (qV C m sp X0 ta t) σ H Q):vo C m (gA K sp) [] E0 (low K B ta) (qC K B t) σ H Q:=by
 obtain⟨σ',H',Q',s,h,k⟩:=h
 refine⟨σ',H',_,s,h,fun x' H1' x H1 h1 rx s1 e1=>?_⟩
 obtain⟨hi,h1⟩:=h1
 cases x' with
 | ref a =>
  obtain⟨dx,fs,ea,l⟩:=hi
  simp only[RP]at rx
  subst rx
  obtain⟨gs,eg,fr⟩:=s1.hp _ _ ea
  refine⟨a,dx,gs,rfl,eg,ja fr l,σ',H1',_,s1,h1,fun vs' H2' vs H2 h2 r2 s2 e2=>?_⟩
  show gA K sp (V.ref a::(vs++[])) H2 Q E0
  rw[List.append_nil]
  exact⟨.ref a::vs',H2',Q',X0,RPs.cons _ (by simp[RP]) r2,s2.hp,h2,fun v' H3' v H3 q r3 h3 e3=>k v' H3' v H3 q r3 (s2.kp e3 h3) ((e1.trans e2).trans e3),fun _ _ _ _ z=>z.elim⟩
 | _=>exact hi.elim
theorem bu{pl:Sem Bool}(he:PE' X B o ta)(cl:Cls X.K C)(hm:Meth X.K C m g)(F:aN X.prog X.w X.K X.mg X.base CX0 k g fd ps sp)(hr:cf k X.A)(hb:Binds X.K fd ps [])(ha:PA' X B (e::es) t)
  (hst:starEach (e::es) X.env=(false,eval e X.env)::starEach es X.env:=by rfl) (hpl:(backTo pos (starEach es X.env)).any (·.1)=false:=by rfl)
  (ht:eval (.Call (.Attribute o m apos) (e::es) [] pos) X.env=(do
   let ov←eval o X.env
   standAt apos.atName
   let (f,first)←holding [ov] (getMethod ov m pl)
   callWith pos f first (backTo pos (starEach (e::es) X.env)) (backToKw pos (keywordEach [] X.env))):=by rfl) :
  PE' X B (.Call (.Attribute o m apos) (e::es) [] pos) (qV C m sp X0 ta t):=a8 (tf he cl hm F hr hb .nil rJ ha hst hpl ht) fun _ _ _ h=>ou h
def vG(C:Addr)(sp:Sp')(E':XK')(t:TA'):TE':=fun σ H Q=>t σ H fun vs H1=>∀x dx,H1 x=none->H1 dx=none->dx≠x->sp (.ref x::vs) (put H1 x (.ins C dx [])) (fun v H2=>v=.non/\Q (.ref x) H2) E'
theorem jE(M:Mk X.K C g)(F:aN X.prog X.w X.K X.mg X.base CX0 k g fd ps sp)(hr:cf (k+1) X.A)(hg:Gl X x)(hm:X.mg x=some (.ref C))(hb:Binds X.K fd ps [])
  (ha:PA' X B (e::es) t) (hdb:(x==("__debug__":Str))=false:=by decide) (he:starEach (e::es) X.env=(false,eval e X.env)::starEach es X.env:=by rfl) (hpl:(backTo pos (starEach es X.env)).any (·.1)=false:=by rfl) :
  PE' X B (.Call (.Name x p) (e::es) [] pos) (vG C sp X0 t):=a8 (uG M F hr hg hm hb .nil rJ ha hdb he hpl) fun σ H Q ⟨σ',H',Q',s,h,k⟩=>by
 refine⟨σ',H',_,s,h,fun vs' H1' vs H1 h1 r1 s1 e1=>?_⟩
 intro x dx nx nd ne
 have h2:=h1 x dx (s1.hp.free nx) (s1.hp.free nd) ne
 have nx2:upd H1 dx (.own x) x=none:=by rw[aV (Ne.symm ne)];exact nx
 have sd:=s1.hid (o:=.own x) nd
 have new:OAt X.K (upd (upd H1 dx (.own x)) x (.ins C dx [])) x (.ins C dx []):=⟨[],bB,.nil⟩
 have s2:=sd.new nx2 new
 have e2:Ev H1' H1 (put H1' x (.ins C dx [])) (upd (upd H1 dx (.own x)) x (.ins C dx [])):=(Ev.hid nd).trans (Ev.new nx2)
 show gA X.K sp (.ref x::(vs++[])) _ _ E0
 rw[List.append_nil]
 refine⟨.ref x::vs',_,_,X0,RPs.cons _ (by simp[RP]) (RPs.kp X.K (e2.kp s1.hp) r1),s2.hp,h2,fun v' H3' v H3 q r3 h3 e3=>?_,fun _ _ _ _ z=>z.elim⟩
 obtain⟨rfl,q⟩:=q
 simp only[RP]at r3
 exact⟨r3,k _ _ _ _ q (by simp[RP]) (s2.kp e3 h3) ((e1.trans e2).trans e3)⟩
end
end U
namespace L2
open PySem PySem.Spec PyProof.Rows
variable {X:Cx}
def A6(K:PySem.W.Frag):List V->Hp->VK->Prop:=fun xs H Q=>∃(p:Addr) (bs:List Bool),xs=[.ref p]/\SqL K H p (bs.map V.bl)/\Q (.bl (bs.all id)) H
theorem eJ:∀{bs:List Bool} {us:List Value},Vals (bs.map V.bl) us->us=bs.map Value.bool
 | [],_,.nil=>rfl
 | b::bs,_,.cons r t=>by rw[eJ t];cases r;rfl
theorem ia(hc:X.calm=true):cb X (.builtin "all") (A6 X.K):=by
 intro pins s σ H xs us Q I r h
 obtain⟨a,bs,rfl,hq,q⟩:=h
 obtain⟨u,rfl,ru⟩:=Vals.one r
 cases ru
 obtain⟨its,rv,p,hz⟩:=I.list hq
 have e:=eJ rv
 subst e
 have hl:s.heap.IsList a (bs.map Value.bool).toArray:=p.isList
 have llt:a<s.heap.objs.size:=by obtain⟨o,e,_⟩:=hl;exact Heap.lt_size e
 have hne:a≠s.heap.objs.size:=Nat.ne_of_lt llt
 refine call_all_walk (wpAny_pyIter_list hl ?_)
 refine⟨s.heap.objs.size,[s.heap.objs.size,a],[s.heap.objs.size],(bs.map Value.bool).toArray.size,_,_,fun i=>bs.getD i false,rfl,Walks.list (by simpa using I.ok.hd hc) _ a hne _,⟨⟨_,Heap.get?_push_size _ rfl,rfl,rfl⟩,hl.at fun o e=>Heap.get?_push_of_some _ e⟩,?_,?_⟩
 ·intro i v s' Q' E' hv hQ
  have:v=Value.bool (bs.getD i false):=by
   have hv':(bs.map Value.bool)[i]?=some v:=by simpa using hv
   rw[List.getElem?_map]at hv'
   cases hb:bs[i]? with
   | none=>rw[hb]at hv';cases hv'
   | some b=>rw[hb]at hv';cases hv';rw[List.getD_eq_getElem?_getD,hb];rfl
  subst this
  exact wpAny_truthy_bool hQ
 ·intro h' tk kp
  have e:(List.range (bs.map Value.bool).toArray.size).all (fun i=>bs.getD i false)=bs.all id:=by
   have hs:(bs.map Value.bool).toArray.size=bs.length:=by simp
   rw[hs]
   rw[Bool.eq_iff_iff,List.all_eq_true,List.all_eq_true]
   constructor
   ·intro h b hb
    obtain⟨i,hi,e⟩:=List.getElem_of_mem hb
    have:=h i (List.mem_range.mpr hi)
    rw[List.getD_eq_getElem?_getD,List.getElem?_eq_getElem hi,e]at this
    exact this
   ·intro h i hi
    have hi:=List.mem_range.mp hi
    rw[List.getD_eq_getElem?_getD,List.getElem?_eq_getElem hi]
    exact h _ (List.getElem_mem hi)
  rw[e]
  refine⟨.bl (bs.all id),H,I.kept (t':=tk) fun b o e=>?_,rfl,q⟩
  exact kp b o (by simpa using Nat.ne_of_lt (Heap.lt_size e)) (Heap.get?_push_of_some _ e)
end L2
namespace U
open PySem PySem.Spec PyProof.Rows L2
variable {B:Bs}{X:Cx}
theorem f9{K:PySem.W.Frag}{H:Hp}:∀{bs:List Bool} {us:List V},RPs K H (bs.map PV.bl) us->us=bs.map V.bl
 | [],us,h=>by simpa[RPs]using h
 | b::bs,us,h=>by
  simp only[List.map_cons,RPs,RP]at h
  obtain⟨u,r,rfl,rfl,h2⟩:=h
  rw[f9 h2];rfl
theorem iM{K:PySem.W.Frag}{H:Hp}:∀{bs:List Int},RPs K H (bs.map PV.int) (bs.map V.int)
 | []=>RPs.nil _
 | b::bs=>RPs.cons _ (by simp[RP]) iM
def Bc:List PV->PHp->VK'->Prop:=dc fun x H Q=>match x with
 | .ref a=>∃bs:List Bool,H a=some (.lst (bs.map PV.bl))/\Q (.bl (bs.all id)) H
 | _=>False
theorem ma{K:PySem.W.Frag}:VC K B Bc (A6 K):=by
 intro σ' σ H' H xs' xs Q' Q s r h k
 obtain⟨x',x,rfl,rfl,rx,h⟩:=dc.ex h r
 cases x' with
 | ref a =>
  obtain⟨bs,ea,q⟩:=h
  simp only[RP]at rx
  subst rx
  obtain⟨us,e,r2⟩:=s.hp _ _ ea
  rw[f9 r2]at e
  exact⟨a,bs,rfl,.inl (.inl e),k _ _ _ _ q (by simp[RP]) s (Ev.refl _ _)⟩
 | _=>exact h.elim
def wU:List PV->PHp->VK'->Prop:=dc fun x H Q=>match x with
 | .ref a=>∃ns:List Int,H a=some (.lst (ns.map PV.int))/\ns.length<64/\∀(r:Addr) (ms:List Int),H r=none->ms.Perm ns->ms.Pairwise (·≤·)->Q (.ref r) (put H r (.lst (ms.map PV.int)))
 | _=>False
end U
namespace SP
open PySem
def hs:List Int:=[-1950498447580522560,7204814214171964562,-3550055125485641917,-4734289103435588629,-1440771752368011620,
 8409376899596376432,1773351652666409796,-6333845781340707986,3516302870623680066,1079245023883434373,
 -3119722376306286570,173794974761290439,-8422800446983873125,7586885779985432798,-1009709641759730766]
def prs:List (Int×Int):=[(0,1),(0,2),(1,2),(0,3),(1,3),(2,3),(0,4),(1,4),(2,4),(3,4),(0,5),(1,5),(2,5),(3,5),(4,5)]
def hp(p:Int×Int):Int:=reduceHash (Builtin.Tuple.tupleHashOf [p.1,p.2])
theorem zA:prs.map hp=hs:=by decide +kernel
theorem lQ{p:Int×Int}(h:p∈prs):hp p∈hs:=by rw[←zA];exact List.mem_map.mpr ⟨p,h,rfl⟩
theorem v8:∀p∈prs,∀q∈prs,hp p=hp q->p=q:=by decide +kernel
theorem tW{u v:Int}(h0:0≤u)(h1:u<v)(h2:v<6):(u,v)∈prs:=by
 have hv:v=1∨v=2∨v=3∨v=4∨v=5:=by omega
 have hu:u=0∨u=1∨u=2∨u=3∨u=4:=by omega
 rcases hv with rfl | rfl | rfl | rfl | rfl<;>rcases hu with rfl | rfl | rfl | rfl | rfl<;>first |(exfalso;omega) | decide
def pe(mask:Nat)(p:SetTable.Probe):SetTable.Probe :=
 if p.more>0 then { p with j:=p.j+1,more:=p.more - 1 }else
 let (i,perturb):=SetTable.leap mask p.i p.perturb
 { p with j:=i,more:=SetTable.runEnd mask i - i,i,perturb }
theorem ym(t:SetTable)(p:SetTable.Probe):t.advance p=pe t.mask p:=rfl
theorem oM(mask:Nat)(p:SetTable.Probe):(pe mask p).dummy=p.dummy:=by unfold pe;split<;>rfl
def visit(mask:Nat):Nat->SetTable.Probe->List Nat
 | 0,_=>[]
 | f+1,p=>p.j::visit mask f (pe mask p)
def startM(mask:Nat)(h:Int):SetTable.Probe :=
 let i:=SetTable.bits h % (mask+1)
 { j:=i,more:=SetTable.runEnd mask i - i,i,perturb:=SetTable.bits h,dummy:=none }
theorem qH(t:SetTable)(h:Int):t.probeStart h=startM t.mask h:=rfl
theorem xu:∀h∈hs,∀j∈List.range 8,j∈visit 7 220 (startM 7 h):=by decide +kernel
theorem uN:∀h∈hs,∀j∈List.range 32,j∈visit 31 460 (startM 31 h):=by decide +kernel
theorem qt:∀(n:Nat) (l:List Nat),(∀j,j<n->j∈l)->n≤l.length
 | 0,_,_=>Nat.zero_le _
 | n+1,l,h=>by
  have hm:=h n (Nat.lt_succ_self n)
  have:=qt n (l.erase n) fun j hj=>(List.mem_erase_of_ne (by omega)).mpr (h j (by omega))
  rw[List.length_erase_of_mem hm]at this
  have:0<l.length:=List.length_pos_of_mem hm
  omega
theorem pQ{n:Nat}{l:List Nat}(h:l.length<n):∃j,j<n/\j∉l :=
 Classical.byContradiction fun c=>absurd (qt n l fun j hj=>Classical.byContradiction fun q=>c ⟨j,hj,q⟩) (by omega)
theorem slot_of{t:SetTable}(hd:t.dummies=#[])(j:Nat):t.slot j=.empty∨∃i,t.slot j=.live i/\i<t.place.size/\j∈t.place.toList:=by
 unfold SetTable.slot
 dsimp only
 split
 ·rename_i h
  have h':=beq_iff_eq.mp h
  obtain⟨hi,e⟩:=Array.getElem?_eq_some_iff.mp h'
  refine .inr ⟨_,rfl,hi,?_⟩
  rw[←e]
  exact Array.getElem_mem_toList hi
 ·left
  have:SetTable.has t.dummies j=false:=by
   rw[hd];rfl
  rw[this];rfl
theorem ke{t:SetTable}{hashAt:Nat->Int}{h:Int}(hd:t.dummies=#[])(hn:∀i,i<t.place.size->hashAt i≠h):∀(fuel:Nat) (p:SetTable.Probe),p.dummy=none ->
  (∃j∈visit t.mask fuel p,j∉t.place.toList)->∃j,SetTable.probe.go t hashAt h fuel p=some (.empty j none)
 | 0,_,_,⟨_,hj,_⟩=>by simp[visit]at hj
 | f+1,p,hp,⟨j,hj,hjn⟩=>by
  unfold SetTable.probe.go
  rcases slot_of hd p.j with e |⟨i,e,hi,hm⟩
  ·rw[e];dsimp only
   exact⟨p.j,by rw[hp]⟩
  ·rw[e];dsimp only
   rw[if_neg (by intro q;exact hn i hi (beq_iff_eq.mp q)),ym]
   refine ke hd hn f (pe t.mask p) (by rw[oM];exact hp) ⟨j,?_,hjn⟩
   have hj':j=p.j∨j∈visit t.mask f (pe t.mask p):=List.mem_cons.mp hj
   rcases hj' with rfl | hj'
   ·exact absurd hm hjn
   ·exact hj'
theorem pP{t:SetTable}{hashAt:Nat->Int}{h:Int}(hh:h∈hs)(hd:t.dummies=#[])(hn:∀i,i<t.place.size->hashAt i≠h)(hm:t.mask=7∨t.mask=31)(hsz:t.place.size≤t.mask) :
  ∃j,t.probe hashAt h (t.probeStart h)=some (.empty j none):=by
 unfold SetTable.probe
 refine ke hd hn _ _ rfl ?_
 obtain⟨j,hj,hjn⟩:=pQ (n:=t.mask+1) (l:=t.place.toList) (by simpa using Nat.lt_succ_of_le hsz)
 refine⟨j,?_,hjn⟩
 rw[qH]
 rcases hm with e | e
 ·rw[e]at hj ⊢
  exact xu h hh j (List.mem_range.mpr hj)
 ·rw[e]at hj ⊢
  exact uN h hh j (List.mem_range.mpr hj)
theorem pO(t:SetTable)(j:Nat):(t.put j).1.place.size=t.place.size+1:=by
 unfold SetTable.put SetTable.insertAt
 dsimp only
 simp only[Array.size_append,Array.size_push,Array.size_extract]
 omega
theorem k7{t:SetTable}(hd:t.dummies=#[])(j:Nat):(t.put j).1.dummies=#[]:=by
 unfold SetTable.put
 dsimp only
 rw[hd];rfl
theorem pC(t:SetTable)(j:Nat):(t.put j).1.mask=t.mask/\(t.put j).1.plain=t.plain:=⟨rfl,rfl⟩
theorem insertAt_perm{α:Type}(xs:Array α)(p:Nat)(x:α):(SetTable.insertAt xs p x).toList.Perm (x::xs.toList):=by
 unfold SetTable.insertAt
 rw[Array.toList_append,Array.toList_push,List.append_assoc]
 have e:xs.toList=(xs.extract 0 p).toList++(xs.extract p xs.size).toList:=by
  rw[Array.toList_extract,Array.toList_extract]
  unfold List.extract
  rw[List.drop_zero,Nat.sub_zero]
  have e2:(List.drop p xs.toList).take (xs.size - p)=List.drop p xs.toList:=List.take_of_length_le (by rw[List.length_drop];simp)
  rw[e2,List.take_append_drop]
 rw[e]
 exact List.perm_middle
def runs(mask:Nat):Nat->Nat->Nat->List Nat
 | 0,_,_=>[]
 | f+1,i,pt=>((List.range (SetTable.runEnd mask i+1 - i)).map (i+·))++runs mask f (SetTable.leap mask i pt).1 (SetTable.leap mask i pt).2
theorem xf:∀h∈hs,∀j∈List.range 32,j∈runs 31 46 (SetTable.bits h % 32) (SetTable.bits h):=by decide +kernel
theorem i0{mask:Nat}{owner:Array (Option Nat)}:∀(f i pt:Nat),(∃j∈runs mask f i pt,(owner.getD j (some 0)).isNone=true)->∃j,SetTable.layClean.free mask owner f i pt=some j/\(owner.getD j (some 0)).isNone=true
 | 0,_,_,⟨_,hj,_⟩=>by simp[runs]at hj
 | f+1,i,pt,⟨j,hj,hn⟩=>by
  unfold SetTable.layClean.free
  cases e:(List.range (SetTable.runEnd mask i+1 - i)).find? fun k=>(owner.getD (i+k) (some 0)).isNone with
  | some k =>
   dsimp only
   exact⟨i+k,rfl,by have:=List.find?_some e;exact this⟩
  | none =>
   dsimp only
   rcases List.mem_append.mp hj with hj | hj
   ·obtain⟨k,hk,rfl⟩:=List.mem_map.mp hj
    have:=List.find?_eq_none.mp e k hk
    exact absurd hn this
   ·exact i0 f _ _ ⟨j,hj,hn⟩
theorem h9{α:Type}:∀(l:List (Option α)) (j:Nat) (k:α),l[j]?=some none->((l.set j (some k)).filterMap id).Perm (k::l.filterMap id)
 | [],_,_,h=>by simp at h
 | none::l,0,k,_=>by simp
 | some x::l,0,k,h=>by simp at h
 | none::l,j+1,k,h=>by
  have:=h9 l j k (by simpa using h)
  simpa using this
 | some x::l,j+1,k,h=>by
  have:=h9 l j k (by simpa using h)
  simp only[List.set_cons_succ,List.filterMap_cons_some (f:=id) rfl]
  exact(this.cons x).trans (List.Perm.swap k x _)
theorem cX{α:Type}:∀(l:List (Option α)),(l.filterMap id).length<l.length->∃j:Nat,l[j]?=some none
 | [],h=>by simp at h
 | none::l,_=>⟨0,rfl⟩
 | some x::l,h=>by
  have h':(l.filterMap id).length<l.length:=by simpa using h
  obtain⟨j,e⟩:=cX l h'
  exact⟨j+1,by simpa using e⟩
def gY(mask:Nat)(acc:Option (Array (Option Nat)×Nat))(h:Int):Option (Array (Option Nat)×Nat):=do
 let (owner,k)←acc
 let j←SetTable.layClean.free mask owner (SetTable.turns mask) (SetTable.bits h % (mask+1)) (SetTable.bits h)
 pure (owner.setIfInBounds j (some k),k+1)
theorem kq:∀(l:List Int) (owner:Array (Option Nat)) (k:Nat),(∀h∈l,h∈hs)->owner.size=32->(owner.toList.filterMap id).Perm (List.range k)->k+l.length≤32 ->
  ∃ow',l.foldl (gY 31) (some (owner,k))=some (ow',k+l.length)/\ow'.size=32/\(ow'.toList.filterMap id).Perm (List.range (k+l.length))
 | [],owner,k,_,hs,hp,_=>⟨owner,rfl,hs,hp⟩
 | h::l,owner,k,hh,hsz,hp,hl=>by
  have hlen:(owner.toList.filterMap id).length=k:=by rw[hp.length_eq,List.length_range]
  obtain⟨j,hj⟩:=cX owner.toList (by rw[hlen];simp only[List.length_cons]at hl;rw[show owner.toList.length=32 by simpa using hsz];omega)
  have hjlt:j<32:=by
   have:=(List.getElem?_eq_some_iff.mp hj).1
   simpa[hsz]using this
  have hnone:∀j,(owner.getD j (some 0)).isNone=true->owner.toList[j]?=some none:=fun j q=>by
   rw[Array.getElem?_toList]
   unfold Array.getD at q
   split at q
   ·rename_i hlt
    rw[Array.getElem?_eq_getElem hlt]
    cases e:owner[j]with
    | none=>rfl
    | some x =>
     have q':(owner[j]).isNone=true:=q
     rw[e]at q';cases q'
   ·cases q
  obtain⟨j',ej,hn⟩:=i0 (mask:=31) (owner:=owner) 46 (SetTable.bits h % 32) (SetTable.bits h) ⟨j,xf h (hh h List.mem_cons_self) j (List.mem_range.mpr hjlt),by
   unfold Array.getD
   rw[dif_pos (by rw[hsz];exact hjlt)]
   rw[Array.getElem?_toList,Array.getElem?_eq_getElem (by rw[hsz];exact hjlt)]at hj
   have:=Option.some.inj hj
   show(owner[j]).isNone=true
   rw[this];rfl⟩
  have est:gY 31 (some (owner,k)) h=some (owner.setIfInBounds j' (some k),k+1):=by
   unfold gY
   show(SetTable.layClean.free 31 owner (SetTable.turns 31) (SetTable.bits h % 32) (SetTable.bits h) >>= fun j=>pure (owner.setIfInBounds j (some k),k+1))=_
   rw[show SetTable.turns 31=46 from rfl,ej]
   rfl
  have hp':((owner.setIfInBounds j' (some k)).toList.filterMap id).Perm (List.range (k+1)):=by
   rw[Array.toList_setIfInBounds]
   refine(h9 _ _ _ (hnone j' hn)).trans ?_
   rw[List.range_succ]
   exact(hp.cons k).trans (List.perm_append_singleton k _).symm
  obtain⟨ow',e1,e2,e3⟩:=kq l (owner.setIfInBounds j' (some k)) (k+1) (fun x hx=>hh x (List.mem_cons_of_mem _ hx)) (by simpa using hsz) hp' (by simp only[List.length_cons]at hl;omega)
  refine⟨ow',?_,e2,?_⟩
  ·rw[List.foldl_cons,est,e1]
   simp only[List.length_cons]
   congr 2
   omega
  ·rw[List.length_cons,show k+(l.length+1)=k+1+l.length by omega];exact e3
theorem oB{t:SetTable}{hashes:Array Int}{wanted:Nat}(hw:SetTable.sizeAbove wanted=32)(hh:∀h∈hashes.toList,h∈hs)(hl:hashes.size≤32) :
  ∃t' order,t.relaid hashes wanted=some (t',order)/\t'.mask=31/\t'.dummies=#[]/\t'.place.size=hashes.size/\order.toList.Perm (List.range hashes.size)/\t'.plain=t.plain:=by
 have e0:(Array.replicate 32 (none:Option Nat)).toList.filterMap id=[]:=by decide
 obtain⟨ow,e1,e2,e3⟩:=kq hashes.toList (Array.replicate 32 none) 0 hh (by simp) (by rw[e0];exact List.Perm.refl _) (by simpa using hl)
 rw[Nat.zero_add]at e1 e3
 have hlc:SetTable.layClean 31 hashes=some ow:=by
  unfold SetTable.layClean
  rw[←Array.foldl_toList]
  show Option.map (·.1) (hashes.toList.foldl (gY 31) (some (Array.replicate 32 none,0)))=_
  rw[e1];rfl
 have live2:((List.range 32).filterMap fun j=>(ow.getD j none).map ((j,·):Nat->Nat×Nat)).map (·.2)=ow.toList.filterMap id:=by
  have gen:∀(l:List (Option Nat)) (n:Nat),((l.zipIdx n).filterMap (fun q=>q.1.map ((q.2,·):Nat->Nat×Nat))).map (·.2)=l.filterMap id:=by
   intro l
   induction l with
   | nil=>intro n;rfl
   | cons a l ih =>
    intro n
    rw[List.zipIdx_cons]
    cases a with
    | none=>simpa using ih (n+1)
    | some x=>simpa using ih (n+1)
  rw[←gen ow.toList 0]
  congr 1
  have ez:ow.toList.zipIdx 0=(List.range 32).map fun j=>(ow.getD j none,j):=by
   apply List.ext_getElem?
   intro j
   rw[List.getElem?_zipIdx,List.getElem?_map]
   by_cases hj:j<32
   ·rw[List.getElem?_range hj,Array.getElem?_toList,Array.getElem?_eq_getElem (by rw[e2];exact hj)]
    simp[Array.getD,e2,hj]
   ·rw[List.getElem?_eq_none (show ow.toList.length≤j by simpa[e2]using Nat.le_of_not_lt hj),List.getElem?_eq_none (show(List.range 32).length≤j by simpa using Nat.le_of_not_lt hj)]
    rfl
  rw[ez,List.filterMap_map]
  rfl
 have hlen:(ow.toList.filterMap id).length=hashes.size:=by rw[e3.length_eq,List.length_range];simp
 refine⟨{ mask:=31,place:=(((List.range 32).filterMap fun j=>(ow.getD j none).map ((j,·):Nat->Nat×Nat)).map (·.1)).toArray,dummies:=#[],finger:=t.finger,led:=t.led,moves:=t.movedTo 31,plain:=t.plain },
  (((List.range 32).filterMap fun j=>(ow.getD j none).map ((j,·):Nat->Nat×Nat)).map (·.2)).toArray,by
  unfold SetTable.relaid SetTable.laid
  rw[hw]
  show(SetTable.layClean 31 hashes >>= _)=_
  rw[hlc]
  rfl,rfl,rfl,?_,?_,rfl⟩
 ·show(((List.range 32).filterMap fun j=>(ow.getD j none).map ((j,·):Nat->Nat×Nat)).map (·.1)).toArray.size=_
  rw[List.size_toArray,List.length_map,← hlen,← live2,List.length_map]
 ·show((((List.range 32).filterMap fun j=>(ow.getD j none).map ((j,·):Nat->Nat×Nat)).map (·.2)).toArray).toList.Perm _
  rw[live2]
  have:hashes.size=hashes.toList.length:=by simp
  rw[this]
  exact e3
theorem l7{α:Type}{es:Array α}{order:Array Nat}(h:order.toList.Perm (List.range es.size)):(order.filterMap (es[·]?)).toList.Perm es.toList:=by
 have e:(order.filterMap (es[·]?)).toList=order.toList.filterMap (es[·]?):=by simp
 rw[e]
 refine(h.filterMap _).trans ?_
 have:(List.range es.size).filterMap (es[·]?)=es.toList:=by
  apply List.ext_getElem?
  intro i
  have gen:∀n,n≤es.size->(List.range n).filterMap (es[·]?)=es.toList.take n:=by
   intro n
   induction n with
   | zero=>intro _;simp
   | succ n ih =>
    intro hn
    rw[List.range_succ,List.filterMap_append,ih (by omega),List.take_add_one]
    simp[Array.getElem?_eq_getElem (show n<es.size by omega)]
  rw[gen es.size (Nat.le_refl _),List.take_of_length_le (by simp)]
 rw[this]
end SP
namespace SP
open PySem PyProof.Rows
section
variable {prog:Program}{w:World}{A:Around}{E:Value->Shared->Prop}{s:Shared}
structure iR (h:Heap) (S:Addr) (done:List (Int × Int)):Prop where
 is:∃es ep t,h.get? S=some { cls:=.type "set",dict:=none,data:=.set es ep t }/\t.dummies=#[]/\t.place.size=es.size/\es.size=done.length/\((t.mask=7/\es.size≤4)∨(t.mask=31/\es.size≤18)) /\
  ∀e∈es.toList,∃p∈done,e.1=hp p
theorem fits_of{t:SetTable}{n:Nat}(hd:t.dummies=#[])(h1:t.place.size=n)(h2:n≤t.mask):t.fits n=true:=by
 unfold SetTable.fits SetTable.fill
 rw[hd]
 simp[h1,h2]
theorem n8(u v:Int)(h:(u,v)∈prs):tupleKeyHash (intKind prog w) [u,v]=hp (u,v):=by
 have key:∀p∈prs,hashInt p.1=p.1/\hashInt p.2=p.2:=by decide +kernel
 obtain⟨h1,h2⟩:=key _ h
 show reduceHash (Builtin.Tuple.tupleHashOf [hashInt u,hashInt v])=reduceHash (Builtin.Tuple.tupleHashOf [u,v])
 have h1':hashInt u=u:=h1
 have h2':hashInt v=v:=h2
 rw[h1',h2']
theorem uQ{ks:List Int}{vs:List Value}(h:ItemsAre (intKind prog w) ks vs):∀x∈vs,∃i t,x=.int i t:=by
 induction h with
 | nil=>intro x hx;simp at hx
 | cons h1 _ ih =>
  intro x hx
  rcases List.mem_cons.mp hx with rfl | hx
  ·obtain⟨t,rfl⟩:=Value.isInt_shape h1
   exact⟨_,t,rfl⟩
  ·exact ih x hx
theorem gr{a:Addr}{u v:Int}{Q:Bool->Shared->Prop}(hk:IsTupleKey (intKind prog w) s.heap [u,v] a)(h:Q true s):wpAny (model prog w) A (hashByValue 8 (.ref a)) Q E s:=by
 have hT:=hk.typeIs
 obtain⟨o,items,n,ho,hc,hd,hi⟩:=hk
 unfold hashByValue
 refine wpAny_bind (wpAny_specialOf hT F.slot_tuple_hash.lookup ?_)
 show wpAny _ _ (seqItems? (.ref a) >>= _) _ _ s
 refine wpAny_bind (wpAny_seqItems ho hd ?_)
 refine wpAny_bind ?_
 show wpAny _ _ (forIn items _ _) _ _ s
 rw[←Array.forIn_toList]
 have hall:=uQ hi
 refine wpAny_forIn_list _ (fun rest r s'=>r.1=none/\s'=s/\∀v∈rest,∃i t,v=.int i t) _ ?_ ?_ _ _ ⟨rfl,rfl,hall⟩
 ·rintro v rest r s' ⟨hr,rfl,hall⟩
  obtain⟨i,t,rfl⟩:=hall v List.mem_cons_self
  show wpAny _ _ (pure true >>= _) _ _ _
  refine wpAny_bind (wpAny_pure ?_)
  simp only[Bool.not_true,Bool.false_eq_true,if_false]
  exact wpAny_pure ⟨rfl,rfl,fun u hu'=>hall u (List.mem_cons_of_mem _ hu')⟩
 ·rintro⟨r1,r2⟩ s' ⟨hr,rfl,_⟩
  simp only at hr
  subst hr
  exact wpAny_pure h
theorem lC{S a:Addr}{done:List (Int×Int)}{u v:Int}{Q:Bool->Shared->Prop}(hu:A.units<cLine)(hk:IsTupleKey (intKind prog w) s.heap [u,v] a)(hP:iR s.heap S done)(hin:(u,v)∈prs)(hd:∀p∈done,p∈prs)
  (hn:(u,v)∉done) (hlen:done.length<15)
  (h:∀h' tk,Heap.SameBut S s.heap h'->iR h' S (done++[(u,v)])->Q true { s with heap:=h',toks:=tk }):wpAny (model prog w) A (setAdd S (.ref a)) Q E s:=by
 obtain⟨es,ep,t,ho,htd,hts,hes,hm,hh⟩:=hP.is
 have hsa:S≠a:=by
  rintro rfl
  obtain⟨o,items,n,ho',hc,_⟩:=hk
  rw[ho]at ho';cases ho';exact absurd (show Value.type "set"=Value.type "tuple" from hc) (by decide)
 unfold setAdd
 refine wpAny_holding (wpAny_bind (wpAny_pyHash_tuple hu hk ?_))
 rw[n8 u v hin]
 generalize hs':({ s with toks:=s.toks+([u,v].length+1) }:Shared)=s1
 have e1:s1.heap=s.heap:=by rw[←hs']
 have ho1:s1.heap.get? S=some { cls:=.type "set",dict:=none,data:=.set es ep t }:=by rw[e1];exact ho
 have hk1:IsTupleKey (intKind prog w) s1.heap [u,v] a:=by rw[e1];exact hk
 have hmk:es.size≤t.mask:=by omega
 have hf:t.fits es.size=true:=fits_of htd hts hmk
 unfold setAddHashed
 refine wpAny_holding ?_
 show wpAny _ _ (setAddHashedIn S (.ref a) (hp (u,v)) (99999+1)) _ _ _
 unfold setAddHashedIn
 refine wpAny_bind (wpAny_setState_of ho1 rfl hf ?_)
 dsimp only
 have hbs:byScan (.ref a) es=false:=rfl
 rw[hbs]
 simp only[Bool.false_eq_true,if_false]
 obtain⟨j,hj⟩:=pP (t:=t) (hashAt:=fun i=>(es[i]?.map (·.1)).getD 0) (h:=hp (u,v)) (lQ hin) htd (fun i hi q=>by
  rw[hts]at hi
  rw[Array.getElem?_eq_getElem hi]at q
  have q':(es[i]).1=hp (u,v):=q
  obtain⟨p,hpd,e⟩:=hh es[i] (Array.getElem_mem_toList hi)
  rw[e]at q'
  exact hn (v8 p (hd p hpd) _ hin q'▸hpd)) (by omega) (by omega)
 unfold setSearch
 show wpAny _ _ (setSearchFrom S (.ref a) (hp (u,v)) true (99999+1) none >>= _) _ _ _
 unfold setSearchFrom
 refine wpAny_bind (wpAny_bind (wpAny_setState_of ho1 rfl hf ?_))
 dsimp only
 have hgw:t.gaveWay=false:=by
  unfold SetTable.gaveWay
  rcases hm with hm | hm<;>rw[hm.1]<;>rfl
 rw[hgw,if_neg (by decide)]
 generalize hX:t.probe _ (hp (u,v)) (none.getD (t.probeStart (hp (u,v))))=X0
 have hX':X0=some (.empty j none):=by rw[←hX];exact hj
 subst hX'
 dsimp only
 refine wpAny_pure ?_
 dsimp only
 refine wpAny_bind (wpAny_setState_of ho1 rfl hf ?_)
 dsimp only
 -- the new table
 have hps:=pO t j
 have hpd:=k7 htd j
 obtain⟨hpm,hpp⟩:=pC t j
 have hip:=insertAt_perm es (t.put j).2 (hp (u,v),Value.ref a)
 have his:(SetTable.insertAt es (t.put j).2 (hp (u,v),Value.ref a)).size=es.size+1:=by
  have:=hip.length_eq
  simpa using this
 have hash':∀e∈(SetTable.insertAt es (t.put j).2 (hp (u,v),Value.ref a)).toList,∃p∈done++[(u,v)],e.1=hp p:=fun e he=>by
  rcases List.mem_cons.mp (hip.mem_iff.mp he)with rfl | he
  ·exact⟨(u,v),by simp,rfl⟩
  ·obtain⟨p,h1,h2⟩:=hh e he
   exact⟨p,List.mem_append_left _ h1,h2⟩
 have last:wpAny (model prog w) A (do
   storeSet S (SetTable.insertAt es (t.put j).2 (hp (u,v),Value.ref a)) (t.put j).1
   if (!false&&(t.put j).1.tooFull)=true then do
    setRelay S (SetTable.grown (es.size+1))
    pure true
   else pure true) Q E s1:=by
  refine wpAny_bind (wpAny_storeSet_of ho1 rfl ?_ (by rw[his,sizeLine_eq];omega))
  have hg:(s1.heap.update S (Obj.putSet (SetTable.insertAt es (t.put j).2 (hp (u,v),Value.ref a)) (t.put j).1)).get? S=some { cls:=.type "set",dict:=none,data:=.set (SetTable.insertAt es (t.put j).2 (hp (u,v),Value.ref a)) (ep+1) (t.put j).1 } :=
   Heap.get?_update_self _ ho1 rfl
  have sb1:Heap.SameBut S s.heap (s1.heap.update S (Obj.putSet (SetTable.insertAt es (t.put j).2 (hp (u,v),Value.ref a)) (t.put j).1)):=by rw[e1];exact Heap.SameBut.update ..
  have hs1:∀hh':Heap,({ s1 with heap:=hh' }:Shared)={ s with heap:=hh',toks:=s1.toks }:=fun hh'=>by rw[←hs']
  by_cases hfull:(t.put j).1.tooFull=true
  ·rw[hfull,if_pos (by rfl)]
   have hfu:((t.put j).1.place.size+(t.put j).1.dummies.size)*5≥(t.put j).1.mask*3:=by
    have q:=hfull
    unfold SetTable.tooFull SetTable.fill at q
    exact of_decide_eq_true q
   rw[hps,hpd,hpm,hts]at hfu
   have hz:(#[]:Array Nat).size=0:=rfl
   rw[hz]at hfu
   have h5:t.mask=7/\es.size=4:=by omega
   have hw:SetTable.grown (es.size+1)=20:=by rw[h5.2];rfl
   rw[hw]
   have hf2:(t.put j).1.fits (SetTable.insertAt es (t.put j).2 (hp (u,v),Value.ref a)).size=true:=fits_of hpd (by rw[hps,his,hts]) (by rw[his,hpm];omega)
   obtain⟨t',order,r1,r2,r3,r4,r5,r6⟩:=oB (t:=(t.put j).1) (hashes:=(SetTable.insertAt es (t.put j).2 (hp (u,v),Value.ref a)).map (·.1)) (wanted:=20) rfl (fun h0 hm0=>by
    rw[Array.toList_map]at hm0
    obtain⟨e,he,rfl⟩:=List.mem_map.mp hm0
    obtain⟨p,hp1,hp2⟩:=hash' e he
    rw[hp2]
    rcases List.mem_append.mp hp1 with q | q
    ·exact lQ (hd p q)
    ·rw[List.mem_singleton.mp q];exact lQ hin) (by rw[Array.size_map,his];omega)
   rw[Array.size_map]at r4 r5
   have op:=l7 r5
   have osz:(order.filterMap ((SetTable.insertAt es (t.put j).2 (hp (u,v),Value.ref a))[·]?)).size=(SetTable.insertAt es (t.put j).2 (hp (u,v),Value.ref a)).size:=by
    rw[←Array.length_toList,← Array.length_toList];exact op.length_eq
   unfold setRelay
   refine wpAny_bind (wpAny_bind (wpAny_setState_of hg rfl hf2 ?_))
   dsimp only
   rw[if_neg (show ¬SetTable.sizeAbove 20>sizeLine by rw[sizeLine_eq];decide)]
   refine wpAny_bind ?_
   rw[r1]
   show wpAny _ _ (if (Array.size (order.filterMap ((SetTable.insertAt es (t.put j).2 (hp (u,v),Value.ref a))[·]?)) !=(SetTable.insertAt es (t.put j).2 (hp (u,v),Value.ref a)).size)=true then _ else _) _ _ _
   rw[if_neg (by rw[osz];simp)]
   refine wpAny_pure ?_
   dsimp only
   refine wpAny_storeSet_of hg rfl ?_ (by rw[osz,his,sizeLine_eq];omega)
   refine wpAny_pure ?_
   have hg3:=Heap.get?_update_self (Obj.putSet (order.filterMap ((SetTable.insertAt es (t.put j).2 (hp (u,v),Value.ref a))[·]?)) t') hg rfl
   rw[hs1]
   refine h _ _ (sb1.trans (Heap.SameBut.update ..)) ⟨_,_,_,hg3,r3,by rw[r4,osz],by rw[osz,his,hes];simp,.inr ⟨r2,by rw[osz,his];omega⟩,fun e he=>hash' e (op.mem_iff.mp he)⟩
  ·rw[Bool.not_eq_true]at hfull
   rw[hfull,if_neg (by decide)]
   refine wpAny_pure ?_
   rw[hs1]
   refine h _ _ sb1 ⟨_,_,_,hg,hpd,by rw[hps,his,hts],by rw[his,hes];simp,?_,hash'⟩
   have hfu:¬((t.put j).1.place.size+(t.put j).1.dummies.size)*5≥(t.put j).1.mask*3:=by
    have q:=hfull
    unfold SetTable.tooFull SetTable.fill at q
    exact of_decide_eq_false q
   rw[hps,hpd,hpm,hts]at hfu
   have hz:(#[]:Array Nat).size=0:=rfl
   rw[hz]at hfu
   rw[his,hpm]
   omega
 by_cases hpl:(t.put j).1.plain=true
 ·rw[if_pos hpl]
  refine wpAny_bind (gr hk1 ?_)
  exact last
 ·rw[if_neg hpl]
  refine wpAny_bind (wpAny_pure ?_)
  exact last
def pU(h:Heap)(vs:List Value)(ps:List (Int×Int)):Prop:=∀(i:Nat) (v:Value),vs[i]?=some v->∃a p,v=.ref a/\ps[i]?=some p/\IsTupleKey (intKind prog w) h [p.1,p.2] a
theorem qW{h h':Heap}{S a:Addr}{u v:Int}{es:Array (Int×Value)}{ep:Nat}{t:SetTable}(x:IsTupleKey (intKind prog w) h [u,v] a)(ho:h.get? S=some { cls:=.type "set",dict:=none,data:=.set es ep t })
  (sb:∀b o,b≠S->h.get? b=some o->h'.get? b=some o):IsTupleKey (intKind prog w) h' [u,v] a:=by
 obtain⟨o,items,n,e,c,d,i⟩:=x
 refine⟨o,items,n,sb a o ?_ e,c,d,i⟩
 rintro rfl
 rw[ho]at e;cases e;cases d
theorem o8{S I l:Addr}{vs:List Value}{ps:List (Int×Int)}{R:Result->Shared->Prop}(hu:A.units+1<cLine)(hh:A.in1.handled=none)(hlen:vs.length=ps.length)(hl15:ps.length≤15)(hnd:ps.Nodup)(hin:∀p∈ps,p∈prs)
  (hSI:S≠I) (hSl:S≠l) (hlI:l≠I):∀(k i:Nat) (s:Shared),ps.length - i=k->i≤ps.length->s.heap.IsListIter I l i->s.heap.IsList l vs.toArray->pU (prog:=prog) (w:=w) s.heap vs ps->iR s.heap S (ps.take i) ->
   (∀h' tk,(∀b o,b≠S->b≠I->s.heap.get? b=some o->h'.get? b=some o)->iR h' S ps->R (.ok (.ret .none)) { s with heap:=h',toks:=tk }) ->
   codeAny (model prog w) A (.builtin "set.update.loop" ⟨[.ref S,.ref I],[]⟩) R s:=by
 intro k
 induction k with
 | zero =>
  intro i s hk hi hit hl hT hP hR
  have e:i=ps.length:=by omega
  subst e
  rw[List.take_length]at hP
  refine codeAny_builtin F.entry_set_update_loop ?_
  rw[Around.under_plainId F.plain_set_update_loop _]
  show wpAny _ A.in1 (pyNext (.ref I) >>= _) _ _ s
  refine wpAny_bind (wpAny_pyNext_list_end hh hit hl (by simp[hlen]) fun h' eb=>?_)
  show wpAny _ A.in1 (ret Value.none) _ _ _
  refine wpAny_pure (hR h' s.toks (fun b o _ hb e=>eb b o hb e) ?_)
  obtain⟨es,ep,t,ho,r⟩:=hP.is
  exact⟨es,ep,t,eb S _ hSI ho,r⟩
 | succ k ih =>
  intro i s hk hi hit hl hT hP hR
  have hlt:i<ps.length:=by omega
  have hvi:vs[i]?=some vs[i]:=List.getElem?_eq_getElem (by omega)
  obtain⟨a,p,ev,ep,key⟩:=hT i _ hvi
  refine codeAny_builtin F.entry_set_update_loop ?_
  rw[Around.under_plainId F.plain_set_update_loop _]
  show wpAny _ A.in1 (pyNext (.ref I) >>= _) _ _ s
  refine wpAny_bind (wpAny_pyNext_list_item hit hl (x:=.ref a) (by rw[←ev];simp) fun h1 hit1 sb1=>?_)
  have k1:∀b o,b≠I->s.heap.get? b=some o->h1.get? b=some o:=fun b o hb e=>sb1.extBut b o hb e
  obtain⟨es,epo,t,ho,r⟩:=id hP.is
  have hP1:iR h1 S (ps.take i):=⟨es,epo,t,k1 S _ hSI ho,r⟩
  have key1:IsTupleKey (intKind prog w) h1 [p.1,p.2] a:=by
   obtain⟨o,items,n,e,c,d,ii⟩:=key
   refine⟨o,items,n,k1 a o ?_ e,c,d,ii⟩
   rintro rfl
   obtain⟨oi,hoi,hci,_⟩:=hit
   rw[hoi]at e;cases e;rw[hci]at c;exact absurd c (by decide)
  show wpAny _ A.in1 (holding [Value.ref a] (setAdd S (.ref a)) >>= _) _ _ _
  have hmem:p∈ps:=List.mem_of_getElem? ep
  have hnot:p∉ps.take i:=fun hm=>by
   obtain⟨j,hj,e⟩:=List.mem_iff_getElem.mp hm
   rw[List.getElem_take]at e
   rw[List.length_take]at hj
   obtain⟨hi',e'⟩:=List.getElem?_eq_some_iff.mp ep
   have:=(List.getElem_inj hnd (h₀:=by omega) (h₁:=hi')).mp (e.trans e'.symm)
   omega
  refine wpAny_bind (wpAny_holding (lC (u:=p.1) (v:=p.2) (A:=A.in1) (by show A.units+1<cLine;exact hu) key1 hP1 (hin p hmem) (fun q hq=>hin q (List.mem_of_mem_take hq)) hnot (by rw[List.length_take];omega) fun h2 tk sb2 hP2=>?_))
  have k2:∀b o,b≠S->h1.get? b=some o->h2.get? b=some o:=fun b o hb e=>sb2.extBut b o hb e
  have et:ps.take i++[p]=ps.take (i+1):=by rw[List.take_add_one,ep];rfl
  refine wpAny_pure ⟨plainId_quiet F.plain_set_update_loop _,ih (i+1) { s with heap:=h2,toks:=tk } (by omega) (by omega) (hit1.extBut (fun b o hb e=>k2 b o hb e) (Ne.symm hSI)) ?_ ?_ (by rw[←et];exact hP2) ?_⟩
  ·exact(hl.extBut (fun b o hb e=>k1 b o hb e) hlI).extBut (fun b o hb e=>k2 b o hb e) (Ne.symm hSl)
  ·intro j v hv
   obtain⟨a',p',e1',e2',key'⟩:=hT j v hv
   refine⟨a',p',e1',e2',qW ?_ (k1 S _ hSI ho) k2⟩
   obtain⟨o,items,n,e,c,d,ii⟩:=key'
   refine⟨o,items,n,k1 a' o ?_ e,c,d,ii⟩
   rintro rfl
   obtain⟨oi,hoi,hci,_⟩:=hit
   rw[hoi]at e;cases e;rw[hci]at c;exact absurd c (by decide)
  ·intro h3 tk3 kp hP3
   exact hR h3 tk3 (fun b o hb hb' e=>kp b o hb hb' (k2 b o hb (k1 b o hb' e))) hP3
set_option maxHeartbeats 4000000 in
theorem iN{l:Addr}{vs:List Value}{ps:List (Int×Int)}{Q:Value->Shared->Prop}(hu:A.units+8<cLine)(hh:A.handled=none)(hl:s.heap.IsList l vs.toArray)(hlen:vs.length=ps.length)(hl15:ps.length≤15)
  (hnd:ps.Nodup) (hin:∀p∈ps,p∈prs) (hT:pU (prog:=prog) (w:=w) s.heap vs ps)
  (h:∀h' tk,(∀b o,b<s.heap.objs.size->s.heap.get? b=some o->h'.get? b=some o)->iR h' s.heap.objs.size ps->Q (.ref s.heap.objs.size) { s with heap:=h',toks:=tk }) :
  wpAny (model prog w) A (call (.type "set") [.ref l]) Q E s:=by
 obtain⟨c0,tl0,mro0⟩:=F.called_set.mro
 have made0:=F.called_set.made
 have sub0:=F.called_set.sub
 have nt0:=F.called_set.notType
 have cc0:=F.called_set.canCreate
 have tc0:=F.typeCall_set_1 (.ref l)
 refine wpAny_call (codeAny_of_tree ?_)
 show wpAny _ _ (callAny (.type "set") _) _ _ _
 refine wpAny_pure ⟨Code.quiet_builtin _ (by decide +kernel),codeAny_builtin F.entry_type_call ?_⟩
 rw[Around.under_plain (weight_type_call_type "set" [.ref l] []) rfl]
 repeat (any_goals (first | assumption | wp_step))
 refine codeAny_mono (code_set_new_1 (.ref l) (E:=E) (Q₁:=fun obj s1=>∃led:Bool,obj=.ref s.heap.objs.size /\
  s1={ s with heap:=s.heap.push { cls:=.type "set",dict:=none,data:=.set #[] 0 (.fresh 0 0 led) } }) fun led=>⟨led,rfl,rfl⟩) fun r s1 hr=>?_
 cases r with
 | error e=>exact hr
 | ok fl =>
  cases fl with
  | ret obj =>
   obtain⟨led,rfl,rfl⟩:=hr
   generalize hH:s.heap.push { cls:=.type "set",dict:=none,data:=.set #[] 0 (.fresh 0 0 led) }=H1
   have hS:H1.get? s.heap.objs.size=some { cls:=.type "set",dict:=none,data:=.set #[] 0 (.fresh 0 0 led) }:=by rw[←hH];exact Heap.get?_push_size _ rfl
   have old:∀b o,s.heap.get? b=some o->H1.get? b=some o:=fun b o e=>by rw[←hH];exact Heap.get?_push_of_some _ e
   have hsz:H1.objs.size=s.heap.objs.size+1:=by rw[←hH,Heap.size_push]
   have tyS:Shared.TypeIs { s with heap:=H1 } (.ref s.heap.objs.size) "set":=⟨_,hS,rfl⟩
   have li0:=F.called_set.init.lookup
   have bi0:=F.called_set.init.bind (.ref s.heap.objs.size)
   repeat (any_goals (first | assumption | wp_step))
   refine codeAny_mono (codeAny_call_builtin (R:=wants (fun r s2=>r=.none/\∃h' tk,s2={ s with heap:=h',toks:=tk }/\iR h' s.heap.objs.size ps /\
    (∀b o,b<s.heap.objs.size->s.heap.get? b=some o->h'.get? b=some o)) E) F.called_set.init.plain F.entry_set_init (check_set_init_1 tyS ?_)) fun r2 s2 hr2=>?_
   ·obtain⟨ol,hol,hcl,nl,hdl⟩:=hl
    obtain⟨oc,od,oda,osl⟩:=ol
    simp only at hcl hdl
    subst hcl;subst hdl
    have hol1:H1.get? l=some { cls:=.type "list",dict:=od,data:=.seq vs.toArray nl,slots:=osl }:=old _ _ hol
    have sls:=F.sub_list_set
    have slf:=F.sub_list_frozenset
    have nld:(Value.type "list"==Value.type "dict")=false:=by decide
    have hl1:H1.IsList l vs.toArray:=⟨_,hol1,rfl,nl,rfl⟩
    have llt:l<s.heap.objs.size:=Heap.lt_size hol
    unfold Builtin.«set.__init__» noKeywords Builtin.Frozenset.updateFrom
    generalize hPI:pyIter=PI
    wp_walk
    subst hPI
    refine wpAny_pyIter_list hl1 ?_
    refine wpAny_bind (wpAny_runValue ?_)
    generalize hH2:H1.push { cls:=.type "list_iterator",data:=.fields #[.ref l,.int 0 0] }=H2
    have old2:∀b o,H1.get? b=some o->H2.get? b=some o:=fun b o e=>by rw[←hH2];exact Heap.get?_push_of_some _ e
    refine o8 (l:=l) (ps:=ps) (vs:=vs) (by show A.units+1+1+1<cLine;omega) (by simp[hh]) hlen hl15 hnd hin (by show s.heap.objs.size≠H1.objs.size;rw[hsz];exact Nat.ne_of_lt (Nat.lt_succ_self _)) (Nat.ne_of_gt llt) (by show l≠H1.objs.size;rw[hsz];exact Nat.ne_of_lt (Nat.lt_succ_of_lt llt)) ps.length 0 _ (by omega) (Nat.zero_le _) ?_ ?_ ?_ ?_ ?_
    ·rw[←hH2]
     exact⟨_,Heap.get?_push_size _ rfl,rfl,rfl⟩
    ·exact⟨_,old2 _ _ hol1,rfl,nl,rfl⟩
    ·intro i v hv
     obtain⟨a,p,e1,e2,o,items,n,e,r⟩:=hT i v hv
     exact⟨a,p,e1,e2,o,items,n,old2 _ _ (old _ _ e),r⟩
    ·exact⟨#[],0,.fresh 0 0 led,old2 _ _ hS,rfl,rfl,rfl,.inl ⟨rfl,by decide⟩,fun e he=>by simp at he⟩
    ·intro h' tk kp hP
     show wpAny _ _ (pure ()) _ _ _
     refine wpAny_pure ?_
     show wpAny _ _ (ret Value.none) _ _ _
     refine wpAny_pure ⟨rfl,h',tk,rfl,hP,fun b o hb e=>?_⟩
     refine kp b o (Nat.ne_of_lt hb) ?_ (old2 _ _ (old _ _ e))
     show b≠H1.objs.size
     rw[hsz];exact Nat.ne_of_lt (Nat.lt_succ_of_lt hb)
   ·cases r2 with
    | error e=>exact hr2
    | ok f2 =>
     cases f2 with
     | ret r =>
      obtain⟨rfl,h',tk,rfl,hP,hk⟩:=hr2
      repeat (any_goals (first | assumption | wp_step))
      exact h _ _ hk hP
     | _=>exact hr2.elim
  | _=>exact hr.elim
end
end SP
namespace L2
open PySem PySem.Spec PyProof.Rows
variable {X:Cx}
def tR(S:Addr)(n:Nat):Heap->Prop:=fun h=>∃es ep t,h.get? S=some { cls:=.type "set",dict:=none,data:=.set es ep t }/\es.size=n/\t.fits es.size=true
def Prs(K:PySem.W.Frag)(H:Hp)(us:List V)(ps:List (Int×Int)):Prop:=Paired (fun(u:V) (p:Int×Int)=>∃t,u=.ref t/\SqT K H t [.int p.1,.int p.2]) us ps
theorem jX{K:PySem.W.Frag}{H:Hp}:∀{us:List V} {ps:List (Int×Int)} {i:Nat} {u:V},Prs K H us ps->us[i]?=some u->∃p t,ps[i]?=some p/\u=.ref t/\SqT K H t [.int p.1,.int p.2]
 | [],_,i,u,_,e=>by simp at e
 | _::_,_::_,0,u,.cons h _,e=>by
  obtain⟨t,h1,h2⟩:=h
  simp at e
  subst e
  exact⟨_,t,by simp,h1,h2⟩
 | _::_,_::_,i+1,u,.cons _ t,e=>by
  obtain⟨p,a,e1,e2⟩:=jX (i:=i) (u:=u) t (by simpa using e)
  exact⟨p,a,by simpa using e1,e2⟩
theorem jZ{K:PySem.W.Frag}{H:Hp}{us:List V}{ps:List (Int×Int)}(h:Prs K H us ps):us.length=ps.length:=Paired.length h
theorem oV(hc:X.calm=true)(hu:X.A.units+64<cLine):cb X (.type "set") (fun xs H Q=>∃(a:Addr) (us:List V) (ps:List (Int×Int)),xs=[.ref a]/\SqL X.K H a us/\Prs X.K H us ps/\ps.Nodup/\(∀p∈ps,p∈SP.prs)/\ps.length≤15/\∀S,H S=none->Q (.ref S) (upd H S (.ext (tR S ps.length)))):=by
 intro pins s σ H xs us Q I r h
 obtain⟨a,ws,ps,rfl,hq,hP,nd,hin,h15,q⟩:=h
 obtain⟨u,rfl,ru⟩:=Vals.one r
 cases ru
 obtain⟨its,rv,p,hz⟩:=I.list hq
 have hlen:its.length=ps.length:=rv.length.symm.trans (jZ hP)
 refine SP.iN (by omega) (I.ok.hd hc) p.isList hlen h15 nd hin ?_ fun h' tk kp P=>?_
 ·intro i v hv
  have hi:i<ws.length:=by rw[rv.length];exact(List.getElem?_eq_some_iff.mp hv).1
  obtain⟨pr,t,e1,e2,hs⟩:=jX (i:=i) hP (List.getElem?_eq_getElem hi)
  obtain⟨u,eu,ru⟩:=rv.get (List.getElem?_eq_getElem hi)
  rw[hv]at eu;cases eu
  rw[e2]at ru
  cases ru
  obtain⟨is,r2,⟨o,ho,hcl,n,hd⟩,_⟩:=I.tuple hs
  obtain⟨x,y,rfl,rx,ry⟩:=vals2 r2
  obtain⟨t1,rfl⟩:=rx
  obtain⟨t2,rfl⟩:=ry
  exact⟨t,pr,rfl,e1,o,_,n,ho,hcl,hd,.cons (by simp[intKind,Value.isInt]) (.cons (by simp[intKind,Value.isInt]) .nil)⟩
 ·have hn:H s.heap.objs.size=none:=I.hok.fresh (Nat.le_refl _)
  obtain⟨es,ep,t,ho,hd,hp,hl,hm,_⟩:=P.is
  have hf:t.fits es.size=true:=SP.fits_of hd hp (by rcases hm with⟨e,k⟩ |⟨e,k⟩<;>omega)
  refine⟨.ref s.heap.objs.size,_,I.laid (t':=tk) (o:=.ext (tR s.heap.objs.size ps.length)) (fun b o e=>kp b o (Heap.lt_size e) e) (Nat.le_refl _) ?_,rfl,q _ hn⟩
  exact⟨⟨es,ep,t,ho,hl,hf⟩,⟨_,ho⟩,fun h1 h2 ⟨es,ep,t,e,l,f⟩ k=>⟨es,ep,t,k _ e,l,f⟩⟩
theorem oo:cb X (.builtin "len") (fun xs H Q=>∃(S:Addr) (n:Nat),xs=[.ref S]/\H S=some (.ext (tR S n))/\n<1000/\Q (.int n) H):=by
 intro pins s σ H xs us Q I r h
 obtain⟨S,n,rfl,hS,hn,q⟩:=h
 obtain⟨u,rfl,ru⟩:=Vals.one r
 cases ru
 obtain⟨⟨es,ep,t,ho,hl,hf⟩,_,_⟩:=(show bQ X.prog X.w H s.heap S (.ext (tR S n))from I.hok S _ hS)
 subst hl
 exact call_len_set ho ⟨rfl,rfl,rfl⟩ rfl hf (by omega) ⟨.int es.size,H,I.tok _,⟨_,rfl⟩,q⟩
end L2
namespace U
open PySem PySem.Spec PyProof.Rows L2
variable {B:Bs}{X:Cx}{e:Expr}{ta:TE'}{p p2 pos pos2:Pos}
def prV(p:Int×Int):PV:=.tup [.int p.1,.int p.2]
theorem lN{K:PySem.W.Frag}{H:Hp}:∀{ps:List (Int×Int)} {us:List V},RPs K H (ps.map prV) us->Prs K H us ps
 | [],us,h=>by
  have:us=[]:=by simpa[RPs]using h
  subst this;exact .nil
 | q::ps,us,h=>by
  simp only[List.map_cons,RPs,RP,prV]at h
  obtain⟨u,r,rfl,⟨t,ws,rfl,hs,w1,r1,rfl,rfl,w2,r2,rfl,rfl,rfl⟩,h2⟩:=h
  exact .cons ⟨t,rfl,hs⟩ (lN h2)
def qR(x:PV)(H:PHp)(Q:VK'):Prop:=match x with
 | .ref a=>∃ps:List (Int×Int),H a=some (.lst (ps.map prV))/\ps.Nodup/\(∀p∈ps,p∈SP.prs)/\ps.length≤15/\Q (.int ps.length) H
 | _=>False
def mR(ta:TE'):TE':=fun σ H Q=>ta σ H fun x H1=>qR x H1 Q
theorem lM(hc:X.calm=true)(hu:X.A.units+64<cLine)(hgl:Gl X "len")(hml:X.mg "len"=none)(hgs:Gl X "set")(hms:X.mg "set"=none)(bs:bootBuiltins "set"=some (.type "set"))(ha:PE' X B e ta)
  (he:starEach [.Call (.Name "set" p2) [e] [] pos2] X.env=[(false,eval (.Call (.Name "set" p2) [e] [] pos2) X.env)]:=by rfl) (he2:starEach [e] X.env=[(false,eval e X.env)]:=by rfl) :
  PE' X B (.Call (.Name "len" p) [.Call (.Name "set" p2) [e] [] pos2] [] pos) (mR ta) :=
 a8 (dR oo hgl hml PySem.boot_len (cD (dj (oV hc hu) hgs hms bs (cD ha dB he2) (by decide) (by decide) he2 rfl) dB he) (by decide) (by decide) he rfl) fun σ H Q h=>by
  obtain⟨σ',H',Q',s,h,k⟩:=h
  refine⟨σ',H',_,s,h,fun x' H1' x H1 h1 rx s1 e1=>?_⟩
  cases x' with
  | ref a =>
   obtain⟨ps,ea,nd,hin,h15,q⟩:=h1
   simp only[RP]at rx
   subst rx
   obtain⟨us,eg,r2⟩:=s1.hp _ _ ea
   refine⟨a,us,ps,rfl,.inl (.inl eg),lN r2,nd,hin,h15,fun S hS=>?_⟩
   exact⟨S,ps.length,rfl,bB,by omega,k _ _ _ _ q (by simp[RP]) (s1.hid hS) (e1.trans (Ev.hid hS))⟩
  | _=>exact h1.elim
end U
namespace U
open PySem PySem.Spec PyProof.Rows L2
variable {B:Bs}{X:Cx}{a b:Expr}{ta tb:TE'}{pos:Pos}
def zi:R2':=uI (fun _ j=>0≤j) fun i j=>.int (i / 2 ^ j.toNat)
def vx:R2':=uI0 fun i j=>.int (Builtin.bitAnd i j)
theorem yb(ha:PE' X B a ta)(hb:PE' X B b tb):PE' X B (.BinOp a .RShift b pos) (uOp zi ta tb):=fE xq (sO fun _ _ _=>by simp[RP]) ha hb
theorem ui(ha:PE' X B a ta)(hb:PE' X B b tb):PE' X B (.BinOp a .BitAnd b pos) (uOp vx ta tb):=fE wm (hZ fun _ _ _=>by simp[RP]) ha hb
end U
namespace ST
open PySem PySem.W PyProof.Rows
def key(K:Nat->Int)(p:Array Nat)(i:Nat):Int:=K ((p[i]?).getD 0)
structure Ok (n:Nat) (p:Array Nat):Prop where
 perm:p.toList.Perm (List.range n)
def S(K:Nat->Int)(p:Array Nat)(m:Nat):Prop:=∀i j,i<j->j<m->key K p i<key K p j
theorem Ok.size{n:Nat}{p:Array Nat}(h:Ok n p):p.size=n:=by
 have:=h.perm.length_eq
 simpa using this
theorem Ok.lt{n:Nat}{p:Array Nat}(h:Ok n p)(h0:0<n)(i:Nat):p.getD i 0<n:=by
 rw[Array.getD_eq_getD_getElem?]
 cases e:p[i]? with
 | none=>exact h0
 | some x =>
  have:x∈p.toList:=by
   obtain⟨hi,rfl⟩:=Array.getElem?_eq_some_iff.mp e
   simp
  exact List.mem_range.mp (h.perm.mem_iff.mp this)
theorem Ok.of{n:Nat}{p q:Array Nat}(h:Ok n p)(r:q.Perm p):Ok n q:=⟨(Array.perm_iff_toList_perm.mp r).trans h.perm⟩
section
variable {cmp:Nat->Nat->(Bool->Shared->Prop)->Shared->Prop}{s:Shared}{n:Nat}{K:Nat->Int}{p:Array Nat}
theorem Ok.ne(hK:∀i j,i<n->j<n->K i=K j->i=j)(h:Ok n p){i j:Nat}(hi:i<n)(hj:j<n)(hne:i≠j):key K p i≠key K p j:=by
 intro e
 have hs:=h.size
 have h0:0<n:=by omega
 unfold key at e
 rw[Array.getElem?_eq_getElem (by omega),Array.getElem?_eq_getElem (by omega)]at e
 simp only[Option.getD_some]at e
 have nd:p.toList.Nodup:=(h.perm.nodup_iff).mpr List.nodup_range
 have l1:p[i]<n:=by have:=h.lt h0 i;rwa [Array.getD_eq_getD_getElem?,Array.getElem?_eq_getElem (by omega)]at this
 have l2:p[j]<n:=by have:=h.lt h0 j;rwa [Array.getD_eq_getD_getElem?,Array.getElem?_eq_getElem (by omega)]at this
 have q:=hK _ _ l1 l2 e
 have:i=j:=by
  exact(List.getElem_inj nd (h₀:=by simpa[hs]using hi) (h₁:=by simpa[hs]using hj)).mp (by simpa using q)
 exact hne this
theorem kG(K:Nat->Int)(p:Array Nat)(i:Nat):K (p.getD i 0)=key K p i:=by
 unfold key;rw[Array.getD_eq_getD_getElem?]
variable (hc:∀i j C,i<n->j<n->C (decide (K i<K j)) s->cmp i j C s)(hK:∀i j,i<n->j<n->K i=K j->i=j)
include hc
theorem iq{G:Bool->Shared->Prop}(h0:0<n)(ok:Ok n p){i j:Nat}(h:G (decide (key K p i<key K p j)) s):cmp (p.getD i 0) (p.getD j 0) G s:=by
 refine hc _ _ _ (ok.lt h0 i) (ok.lt h0 j) ?_
 rw[kG K p i,kG K p j]
 exact h
include hK
theorem f7{i j:Nat}(ok:Ok n p)(hi:i<n)(hj:j<n)(hne:i≠j)(h:¬key K p i<key K p j):key K p j<key K p i:=by
 have:=ok.ne hK hi hj hne
 omega
theorem asc(ok:Ok n p):∀(f m:Nat) {G:Nat->Shared->Prop},1≤m->m+f≤n->S K p m ->
  (∀m',m≤m'->m'≤m+f->S K p m'->(m'<m+f->key K p m'<key K p (m' - 1))->G m' s)->(kas_asc p f m).kasWp cmp G s
 | 0,m,G,_,_,hS,h=>h m (Nat.le_refl _) (Nat.le_refl _) hS fun q=>absurd q (Nat.lt_irrefl _)
 | f+1,m,G,h1,hm,hS,h=>by
  refine iq hc (by omega) ok (G:=fun c s'=>(if c=true then KasT.ret m else kas_asc p f (m+1)).kasWp cmp G s') ?_
  by_cases q:key K p m<key K p (m - 1)
  ·rw[decide_eq_true q]
   show G m s
   exact h m (Nat.le_refl _) (by omega) hS fun _=>q
  ·rw[decide_eq_false q]
   show(kas_asc p f (m+1)).kasWp cmp G s
   have q':=f7 hc hK ok (by omega) (by omega) (by omega) q
   refine asc ok f (m+1) (by omega) (by omega) ?_ fun m' a b c d=>h m' (by omega) (by omega) c fun e=>d (by omega)
   intro i j hij hj
   by_cases hjm:j<m
   ·exact hS i j hij hjm
   ·have:j=m:=by omega
    subst this
    by_cases him:i=j - 1
    ·subst him;exact q'
    ·have:=hS i (j - 1) (by omega) (by omega)
     omega
theorem desc(ok:Ok n p):∀(f m:Nat) {G:Array Nat×Nat×Nat->Shared->Prop},1≤m->m+f≤n->(∀i j,i<j->j<m->key K p j<key K p i) ->
  (∀m',m≤m'->m'≤m+f->(∀i j,i<j->j<m'->key K p j<key K p i)->G (p,m',0) s)->(kas_desc f p m 0).kasWp cmp G s
 | 0,m,G,_,_,hS,h=>h m (Nat.le_refl _) (Nat.le_refl _) hS
 | f+1,m,G,h1,hm,hS,h=>by
  refine iq hc (by omega) ok (G:=fun c s'=>(if c=true then(if 0>0 then kas_desc f (kas_rev p (m - (0+1)) m) (m+1) 0 else kas_desc f p (m+1) 0)
   else KasT.ask (p.getD (m - 1) 0) (p.getD m 0) fun d=>if d=true then KasT.ret (p,m,0)else kas_desc f p (m+1) (0+1)).kasWp cmp G s') ?_
  by_cases q:key K p m<key K p (m - 1)
  ·rw[decide_eq_true q,if_pos rfl,if_neg (by omega)]
   refine desc ok f (m+1) (by omega) (by omega) ?_ fun m' a b c=>h m' (by omega) (by omega) c
   intro i j hij hj
   by_cases hjm:j<m
   ·exact hS i j hij hjm
   ·have:j=m:=by omega
    subst this
    by_cases him:i=j - 1
    ·subst him;exact q
    ·have:=hS i (j - 1) (by omega) (by omega)
     omega
  ·rw[decide_eq_false q]
   have q':=f7 hc hK ok (by omega) (by omega) (by omega) q
   refine iq hc (by omega) ok (G:=fun d s'=>(if d=true then KasT.ret (p,m,0)else kas_desc f p (m+1) (0+1)).kasWp cmp G s') ?_
   rw[decide_eq_true q',if_pos rfl]
   exact h m (Nat.le_refl _) (by omega) hS
theorem nk{m:Nat}(ok:Ok n p)(hm:m≤n)(i:Nat):key K (kas_rev p 0 m) i=if i<m then key K p (m - 1 - i)else key K p i:=by
 unfold key kas_rev
 rw[getElem?_mirror_all (by rw[ok.size];exact hm)]
 by_cases h:i<m
 ·rw[if_pos ⟨Nat.zero_le _,h⟩,if_pos h]
  congr 3
  omega
 ·rw[if_neg (by omega),if_neg h]
theorem count{G:Nat×Array Nat->Shared->Prop}(ok:Ok n p)(h1:1≤n)(h:∀m p',Ok n p'->1≤m->m≤n->S K p' m->G (m,p') s):(kas_count n p).kasWp cmp G s:=by
 unfold kas_count
 rw[KasT.kasWp_bind]
 refine asc hc hK ok (n - 1) 1 (Nat.le_refl _) (by omega) (fun i j a b=>by omega) fun m' a b hS st=>?_
 by_cases e:m'=n
 ·subst e
  rw[if_pos (by simp)]
  exact h _ _ ok (by omega) (Nat.le_refl _) hS
 ·rw[if_neg (by simpa using e)]
  by_cases e1:m'>1
  ·rw[if_pos e1]
   refine iq hc (by omega) ok (G:=fun c s'=>(if c=true then KasT.ret (m',p)else kas_descPart m' n (kas_rev p 0 m')).kasWp cmp G s') ?_
   rw[decide_eq_true (hS 0 (m' - 1) (by omega) (by omega)),if_pos rfl]
   exact h _ _ ok (by omega) (by omega) hS
  ·rw[if_neg e1]
   have:m'=1:=by omega
   subst this
   unfold kas_descPart
   rw[KasT.kasWp_bind]
   have st1:=st (by omega)
   refine desc hc hK ok (n - (1+1)) (1+1) (by omega) (by omega) (fun i j hij hj=>?_) fun m' a b hD=>?_
   ·have h1:j=1:=by omega
    have h2:i=0:=by omega
    subst h1;subst h2
    exact st1
   ·rw[if_neg (by simp)]
    unfold kas_tail3
    rw[KasT.kasWp_bind]
    have ok2:Ok n (kas_rev p 0 m'):=ok.of (mirror_perm _ _ _ _)
    refine asc hc hK ok2 (n - m') m' (by omega) (by omega) (fun i j hij hj=>?_) fun m2 a2 b2 hS2 _=>?_
    ·rw[nk hc hK ok (by omega),nk hc hK ok (by omega),if_pos (by omega),if_pos hj]
     exact hD _ _ (by omega) (by omega)
    ·exact h m2 _ ok2 (by omega) (by omega) hS2
theorem place(ok:Ok n p){k:Nat}(hk:k<n)(hS:S K p k):∀(f l r:Nat) {G:Nat->Shared->Prop},l≤r->r≤k->r - l≤f->(∀i,i<l->key K p i<key K p k)->(∀i,r≤i->i<k->key K p k<key K p i) ->
  (∀l',l'≤k->(∀i,i<l'->key K p i<key K p k)->(∀i,l'≤i->i<k->key K p k<key K p i)->G l' s)->(kas_place p k f l r).kasWp cmp G s
 | 0,l,r,G,h1,h2,h3,ha,hb,h=>h l (by omega) ha fun i x y=>hb i (by omega) y
 | f+1,l,r,G,h1,h2,h3,ha,hb,h=>by
  unfold kas_place
  by_cases e:l≥r
  ·rw[if_pos e]
   exact h l (by omega) ha fun i x y=>hb i (by omega) y
  ·rw[if_neg e]
   refine iq hc (by omega) ok (G:=fun c s'=>(if c=true then kas_place p k f l ((l+r) / 2)else kas_place p k f ((l+r) / 2+1) r).kasWp cmp G s') ?_
   have hmid:(l+r) / 2<k:=by omega
   generalize hm:(l+r) / 2=mid at *
   by_cases q:key K p k<key K p mid
   ·rw[decide_eq_true q,if_pos rfl]
    refine place ok hk hS f l mid (by omega) (by omega) (by omega) ha (fun i x y=>?_) h
    by_cases z:i=mid
    ·subst z;exact q
    ·have:=hS mid i (by omega) y
     omega
   ·rw[decide_eq_false q,if_neg (by simp)]
    have q':=f7 hc hK ok hk (by omega) (by omega) q
    refine place ok hk hS f (mid+1) r (by omega) h2 (by omega) (fun i x=>?_) hb h
    by_cases z:i=mid
    ·subst z;exact q'
    ·have:=hS i mid (by omega) hmid
     omega
theorem ni{k l:Nat}(ok:Ok n p)(hk:k<n)(hl:l≤k)(i:Nat):key K (bubble p k (k - l)) i=if i=l then key K p k else if l<i/\i≤k then key K p (i - 1)else key K p i:=by
 unfold key
 rw[getElem?_bubble (by rw[ok.size];exact hk) _ (Nat.sub_le _ _)]
 rw[show k - (k - l)=l by omega]
 split
 ·rfl
 ·split<;>rfl
theorem bin:∀(f k:Nat) (p:Array Nat) {G:Array Nat->Shared->Prop},Ok n p->1≤k->k+f=n->S K p k->(∀p',Ok n p'->S K p' n->G p' s)->(kas_bin f p k).kasWp cmp G s
 | 0, k, p, G, ok, h1, h2, hS, h => h p ok (by have : k = n := by omega
                                               subst this; exact hS)
 | f+1,k,p,G,ok,h1,h2,hS,h=>by
  unfold kas_bin
  rw[KasT.kasWp_bind]
  refine place hc hK ok (by omega) hS k 0 k (by omega) (Nat.le_refl _) (by omega) (fun i x=>by omega) (fun i x y=>by omega) fun l hl ha hb=>?_
  refine bin f (k+1) _ (ok.of (bubble_perm _ _ _)) (by omega) (by omega) (fun i j hij hj=>?_) h
  rw[ni hc hK ok (by omega) hl,ni hc hK ok (by omega) hl]
  by_cases c1:i=l
  ·rw[if_pos c1]
   rw[if_neg (by omega),if_pos (by omega)]
   exact hb _ (by omega) (by omega)
  ·rw[if_neg c1]
   by_cases c2:j=l
   ·rw[if_pos c2,if_neg (by omega)]
    exact ha _ (by omega)
   ·rw[if_neg c2]
    by_cases c3:l<i/\i≤k
    ·rw[if_pos c3,if_pos (by omega)]
     exact hS _ _ (by omega) (by omega)
    ·rw[if_neg c3]
     by_cases c4:l<j/\j≤k
     ·rw[if_pos c4]
      by_cases c5:i=j - 1
      ·omega
      ·exact hS _ _ (by omega) (by omega)
     ·rw[if_neg c4]
      exact hS _ _ hij (by omega)
theorem sorts{G:Array Nat->Shared->Prop}(h1:1≤n)(h:∀p,Ok n p->S K p n->G p s):(kas_sort n).kasWp cmp G s:=by
 unfold kas_sort
 rw[KasT.kasWp_bind]
 refine count hc hK (p:=(List.range n).toArray) ⟨by simp⟩ h1 fun m p' ok a b hS=>?_
 show(if m<n then kas_bin (n - max m 1) p' (max m 1)else KasT.ret p').kasWp cmp G s
 by_cases e:m<n
 ·rw[if_pos e,show max m 1=m by omega]
  exact bin hc hK (n - m) m p' ok a (by omega) hS h
 ·rw[if_neg e]
  have:m=n:=by omega
  subst this
  exact h p' ok hS
end
end ST
namespace ST
open PySem PySem.W PyProof.Rows
def pk(p:Int×Int):Int:=6*p.1+p.2
def Tp(h:Heap)(v:Value)(p:Int×Int):Prop:=∃t o k u1 u2,v=.ref t/\h.get? t=some o/\o.cls=.type "tuple"/\o.data=.seq #[.int p.1 u1,.int p.2 u2] k
def Tps(h:Heap)(vs:List Value)(ps:List (Int×Int)):Prop:=vs.length=ps.length/\∀i v,vs[i]?=some v->Tp h v (ps.getD i (0,0))
theorem Tp.kp{h h':Heap}{v:Value}{p:Int×Int}(x:Tp h v p)(k:∀b o,o.cls=.type "tuple"->h.get? b=some o->h'.get? b=some o):Tp h' v p:=by
 obtain⟨t,o,n,u1,u2,e,ho,hc,hd⟩:=x
 exact⟨t,o,n,u1,u2,e,k _ _ hc ho,hc,hd⟩
section
variable {prog:Program}{w:World}{A:Around}{E:Value->Shared->Prop}{s:Shared}
theorem tw{x y:Value}{p q:Int×Int}{C:Bool->Shared->Prop}(hx:Tp s.heap x p)(hy:Tp s.heap y q)(bp:0≤p.2/\p.2<6)(bq:0≤q.2/\q.2<6)(h:C (decide (pk p<pk q)) s) :
  wpAny (model prog w) A (keyLt' (tuples' true) x y) C E s:=by
 obtain⟨t,o,n,u1,u2,rfl,ho,hc,hd⟩:=hx
 obtain⟨t',o',n',w1,w2,rfl,ho',hc',hd'⟩:=hy
 refine kat_lt ho hd ho' hd' ?_
 show KatLex prog w A true (decide (2<2)) C [(.int p.1 u1,.int q.1 w1),(.int p.2 u2,.int q.2 w2)] 0 s
 refine kat_cons (wpAny_eqBool_int ?_)
 refine kat_go (fun e1=>kat_yes (kat_cons (wpAny_eqBool_int ?_))) (fun e1=>kat_no ?_)
 ·have e1:p.1=q.1:=by simpa using e1
  refine kat_go (fun e2=>kat_yes (kat_nil ?_)) (fun e2=>kat_no ?_)
  ·have e2:p.2=q.2:=by simpa using e2
   have:decide (pk p<pk q)=decide (2<2):=by unfold pk;rw[e1,e2];simp
   rw[←this];exact h
  ·refine kat_one _ _ (PyProof.Rows.lt_int ?_)
   have:decide (pk p<pk q)=decide (p.2<q.2):=by
    rw[decide_eq_decide];unfold pk;omega
   show C (decide (p.2<q.2)) s
   rw[←this];exact h
 ·have e1:¬p.1=q.1:=by simpa using e1
  refine oneLt_int ?_
  have:decide (pk p<pk q)=decide (p.1<q.1):=by
   rw[decide_eq_decide];unfold pk;omega
  rw[←this];exact h
theorem nS{h:Heap}:∀{vs:List Value} {ps:List (Int×Int)},Tps h vs ps->∃fs,KatTups h vs fs/\fs.length=vs.length/\∀v∈fs,∃i t,v=.int i t
 | [],ps,_=>⟨[],KatTups.nil,rfl,by simp⟩
 | v::vs,[],x=>by have:=x.1;simp at this
 | v::vs,p::ps,x=>by
  obtain⟨fs,t,l,q⟩:=nS (h:=h) (vs:=vs) (ps:=ps) ⟨by have:=x.1;simpa using this,fun i v e=>by simpa using x.2 (i+1) v (by simpa using e)⟩
  obtain⟨t0,o,n,u1,u2,rfl,ho,hc,hd⟩:=x.2 0 v (by simp)
  refine⟨.int _ u1::fs,KatTups.cons ho hc hd rfl t,by simp[l],?_⟩
  intro z hz
  rcases List.mem_cons.mp hz with rfl | hz
  ·exact⟨_,_,rfl⟩
  ·exact q z hz
theorem gL{a:Addr}{vs:List Value}{ps:List (Int×Int)}{n:Nat}{P:PySem.Fin->Shared->Prop}(ho:s.heap.get? a=some (seqObj "list" vs.toArray n))(hT:Tps s.heap vs ps)(nd:ps.Nodup)
  (hb:∀p∈ps,0≤p.2/\p.2<6) (h64:vs.length<64)
  (h:∀q:List Nat,q.Perm (List.range vs.length)->(q.map fun i=>ps.getD i (0,0)).Pairwise (fun x y=>pk x<pk y)->P (.done (.ret .none)) { s with heap:=sortedHeap s.heap a vs (q.map fun i=>vs.getD i Value.none).toArray }) :
  wpAny (model prog w) A (Builtin.«list.sort» ⟨[.ref a],[]⟩) P E s:=by
 rw[list_sort_plain]
 have hls:vs.length≤sizeLine:=by rw[sizeLine_eq];omega
 refine wpAny_bind (listItems_at ho rfl (wpAny_bind ?_))
 refine(listUpdate_at ho rfl ?_ (by rw[List.size_toArray];omega) (Nat.zero_le _))
 obtain⟨ea0,oa0⟩:∃ea0,(s.heap.update a (Obj.mapSeq fun _=>#[])).get? a=some (seqObj "list" #[] ea0):=⟨_,get?_update_seq ho (fun _=>#[])⟩
 refine wpAny_bind (seqEpoch_at oa0 rfl ?_)
 refine wpAny_bind (wpAny_newTuple ?_ (by show vs.length≤_;omega))
 refine wpAny_bind (wpAny_newList ?_ (Nat.zero_le _))
 refine wpAny_holding ?_
 have kq0:∀b o,b≠a->s.heap.get? b=some o->(((s.heap.update a (Obj.mapSeq fun _=>#[])).push (seqObj "tuple" vs.toArray 0)).push (seqObj "list" #[] 0)).get? b=some o:=fun b o hne q =>
  Heap.get?_push_of_some _ (Heap.get?_push_of_some _ (by rw[Heap.get?_update_ne _ _ _ _ hne];exact q))
 have og0:(((s.heap.update a (Obj.mapSeq fun _=>#[])).push (seqObj "tuple" vs.toArray 0)).push (seqObj "list" #[] 0)).get? a=some (seqObj "list" #[] ea0) :=
  Heap.get?_push_of_some _ (Heap.get?_push_of_some _ oa0)
 have hT6:Tps (((s.heap.update a (Obj.mapSeq fun _=>#[])).push (seqObj "tuple" vs.toArray 0)).push (seqObj "list" #[] 0)) vs ps:=⟨hT.1,fun i v e=>(hT.2 i v e).kp fun b o hcl q=>kq0 b o (fun z=>by
  subst z;rw[ho]at q;cases q;exact absurd hcl (by simp[seqObj])) q⟩
 show wpAny (model prog w) _ _ P _ { s with heap:=((s.heap.update a (Obj.mapSeq fun _=>#[])).push (seqObj "tuple" vs.toArray 0)).push (seqObj "list" #[] 0) }
 dsimp only
 have zq0:vs.toArray.size=vs.length:=by simp
 by_cases hq2:vs.toArray.size<2
 ·rw[if_pos hq2,if_pos hq2]
  refine wpAny_bind (wpAny_pure ?_)
  rw[StateT.run_pure]
  refine wpAny_bind (wpAny_pure ?_)
  dsimp only
  refine wpAny_bind (seqEpoch_at og0 rfl ?_)
  refine wpAny_bind (listUpdate_at og0 rfl ?_ (Nat.zero_le _) (by rw[Array.size_map];show(pairsOf vs).size≤_;rw[pairsOf_size];omega))
  simp only[bne_self_eq_false,Bool.false_eq_true,if_false]
  have hq:=h (List.range vs.length) (List.Perm.refl _) ?_
  ·have e:(arrOf (SortSt.mk' general' (vs.toArray.zip vs.toArray) #[] 7 none)).map (·.2)=((List.range vs.length).map fun i=>vs.getD i Value.none).toArray:=by
    show(vs.toArray.zip vs.toArray).map (·.2)=_
    match vs,hq2 with
    | [],_=>apply Array.toList_inj.mp;simp
    | [v],_=>apply Array.toList_inj.mp;simp[List.range_succ]
    | _::_::_,hq2=>exact absurd hq2 (by simp)
   refine wpAny_pure ?_
   rw[e]
   exact hq
  ·match vs,hq2 with
   | [],_=>exact List.Pairwise.nil
   | [v],_=>exact List.pairwise_singleton _ _
   | _::_::_,hq2=>exact absurd hq2 (by simp)
 ·rw[if_neg hq2,if_neg hq2]
  obtain⟨fs,hfs,hfl,hfi⟩:=nS hT6
  rw[zq0]at hq2
  refine wpAny_bind (kat_kind hfs (by omega) (T:=.type "int") (fun v hv=>?_) rfl ?_)
  ·obtain⟨i,t,rfl⟩:=hfi v hv
   exact Looks.of_pure rfl
  ·show wpAny (model prog w) A _ P E _
   have hinj:∀i j,i<vs.length->j<vs.length->pk (ps.getD i (0,0))=pk (ps.getD j (0,0))->i=j:=by
    intro i j hi hj e
    have hi':i<ps.length:=by rw[←hT.1];exact hi
    have hj':j<ps.length:=by rw[←hT.1];exact hj
    have g1:ps.getD i (0,0)=ps[i]:=by rw[List.getD_eq_getElem?_getD,List.getElem?_eq_getElem hi'];rfl
    have g2:ps.getD j (0,0)=ps[j]:=by rw[List.getD_eq_getElem?_getD,List.getElem?_eq_getElem hj'];rfl
    rw[g1,g2]at e
    have b1:=hb _ (List.getElem_mem hi')
    have b2:=hb _ (List.getElem_mem hj')
    unfold pk at e
    have e2:ps[i]=ps[j]:=Prod.ext (by omega) (by omega)
    exact(List.getElem_inj nd).mp e2
   refine wpAny_bind (wpAny_mono (kat_run (ks:=vs) (vs:=vs) (κ:=tuples' true)
    (Q:=fun st' s'=>s'={ s with heap:=((s.heap.update a (Obj.mapSeq fun _=>#[])).push (seqObj "tuple" vs.toArray 0)).push (seqObj "list" #[] 0) }/\∃p:Array Nat,Ok vs.length p/\S (fun i=>pk (ps.getD i (0,0))) p vs.length/\arrOf st'=p.map (kas_item (vs.toArray.zip vs.toArray))/\failedOf st'=none)
    (G:=fun p s'=>s'={ s with heap:=((s.heap.update a (Obj.mapSeq fun _=>#[])).push (seqObj "tuple" vs.toArray 0)).push (seqObj "list" #[] 0) }/\Ok vs.length p/\S (fun i=>pk (ps.getD i (0,0))) p vs.length)
    rfl (by omega) h64 (fun p st' s' a1 a2 a3 a4=>⟨a4.1,p,a4.2.1,a4.2.2,a2,a3⟩) ?run) ?post fun _ _ e=>e)
   case run =>
    refine sorts (n:=vs.length) (K:=fun i=>pk (ps.getD i (0,0))) (fun i j C hi hj hC=>?_) hinj (by omega) fun p ok sS=>⟨rfl,ok,sS⟩
    unfold kas_ask
    have hi':i<ps.length:=by rw[←hT.1];exact hi
    have hj':j<ps.length:=by rw[←hT.1];exact hj
    refine tw (hT6.2 i _ ?_) (hT6.2 j _ ?_) (hb _ ?_) (hb _ ?_) hC
    ·rw[List.getD_eq_getElem?_getD,List.getElem?_eq_getElem hi];rfl
    ·rw[List.getD_eq_getElem?_getD,List.getElem?_eq_getElem hj];rfl
    ·rw[List.getD_eq_getElem?_getD,List.getElem?_eq_getElem hi'];exact List.getElem_mem hi'
    ·rw[List.getD_eq_getElem?_getD,List.getElem?_eq_getElem hj'];exact List.getElem_mem hj'
   case post =>
    rintro⟨⟨⟩,st'⟩ s' ⟨rfl,p,ok,sS,har,hf⟩
    dsimp only
    have hout:=kat_snds (ks:=vs) (vs:=vs) rfl har
    have hpz:(List.toArray (p.toList.map fun i=>vs.getD i Value.none)).size=vs.length:=by rw[List.size_toArray,List.length_map,Array.length_toList,ok.size]
    rw[hout]
    refine wpAny_bind (seqEpoch_at og0 rfl ?_)
    refine wpAny_bind (listUpdate_at og0 rfl ?_ (Nat.zero_le _) (by omega))
    rw[hf]
    simp only[bne_self_eq_false,Bool.false_eq_true,if_false]
    refine wpAny_pure (h p.toList ok.perm ?_)
    rw[List.pairwise_map,List.pairwise_iff_getElem]
    intro i j hi hj hij
    have:=sS i j hij (by rw[←ok.size];simpa using hj)
    unfold key at this
    have hi2:i<p.size:=by simpa using hi
    have hj2:j<p.size:=by simpa using hj
    rw[Array.getElem?_eq_getElem hi2,Array.getElem?_eq_getElem hj2]at this
    simpa using this
theorem jz{l:Addr}{vs:List Value}{ps:List (Int×Int)}{Q:Value->Shared->Prop}(hl:s.heap.IsList l vs.toArray)(hT:Tps s.heap vs ps)(nd:ps.Nodup)(hb:∀p∈ps,0≤p.2/\p.2<6)(h64:vs.length<64)
  (h:∀q:List Nat,q.Perm (List.range vs.length)->(q.map fun i=>ps.getD i (0,0)).Pairwise (fun x y=>pk x<pk y)->Q (.ref (s.heap.objs.size+1)) { s with heap:=sortedAll s.heap vs (q.map fun i=>vs.getD i Value.none).toArray }) :
  wpAny (model prog w) A (call (.builtin "sorted") [.ref l]) Q E s:=by
 refine Calls.call_function_entry kind_sorted plain_sorted entry_sorted (args_sorted1 _) ?_
 unfold Builtin.«sorted»
 refine wpAny_bind (m:=checkCount "sorted" 1 1 _) (wpAny_pure (wpAny_bind (collect_list hl (wpAny_bind (wpAny_newList ?_ (by rw[sizeLine_eq];omega))) (by rw[sizeLine_eq];omega))))
 have zq0:((s.heap.push (seqObj "list" #[] 0)).update s.heap.objs.size (Obj.mapSeq (·++vs.toArray))).objs.size=s.heap.objs.size+1:=by
  rw[Heap.size_update,size_push']
 have oq0:(((s.heap.push (seqObj "list" #[] 0)).update s.heap.objs.size (Obj.mapSeq (·++vs.toArray))).push (seqObj "list" vs.toArray 0)).get? (s.heap.objs.size+1)=some (seqObj "list" vs.toArray 0):=by
  rw[←zq0];exact Heap.get?_push_size _ rfl
 have kq0:∀b o,s.heap.get? b=some o->(((s.heap.push (seqObj "list" #[] 0)).update s.heap.objs.size (Obj.mapSeq (·++vs.toArray))).push (seqObj "list" vs.toArray 0)).get? b=some o:=fun b o q=>by
  have lq0:b<s.heap.objs.size:=Heap.lt_size q
  rw[Heap.get?_push_ne _ _ _ (by rw[zq0];exact Nat.ne_of_lt (Nat.lt_succ_of_lt lq0)),Heap.get?_update_ne _ _ _ _ (Nat.ne_of_lt lq0),Heap.get?_push_ne _ _ _ (Nat.ne_of_lt lq0)]
  exact q
 show wpAny (model prog w) _ _ _ _ { s with heap:=((s.heap.push (seqObj "list" #[] 0)).update s.heap.objs.size (Obj.mapSeq (·++vs.toArray))).push (seqObj "list" vs.toArray 0) }
 rw[zq0]
 refine wpAny_bind (wpAny_holding (wpAny_call_entry slot_list_sort ⟨_,oq0,rfl⟩ entry_list_sort (gL (ps:=ps) oq0 ⟨hT.1,fun i v e=>(hT.2 i v e).kp fun b o _ q=>kq0 b o q⟩ nd hb h64 fun q a1 a2=>⟨_,rfl,?_⟩) (args_list_sort _)))
 exact wpAny_pure ⟨_,rfl,h q a1 a2⟩
end
end ST
namespace L2
open PySem PySem.Spec PyProof.Rows
variable {X:Cx}
def qT(K:PySem.W.Frag):List V->Hp->VK->Prop:=fun xs H Q=>∃(a:Addr) (us:List V) (ps:List (Int×Int)),xs=[.ref a]/\SqL K H a us/\Prs K H us ps/\ps.Nodup/\(∀p∈ps,0≤p.2/\p.2<6)/\ps.length<64 /\
 ∀(r:Addr) (q:List Nat),H r=none->q.Perm (List.range ps.length)->(q.map fun i=>ps.getD i (0,0)).Pairwise (fun x y=>ST.pk x<ST.pk y)->Q (.ref r) (upd H r (.lst (q.map fun i=>us.getD i .non)))
theorem jr{us:List V}{vs:List Value}(r:Vals us vs):∀(q:List Nat),(∀i∈q,i<us.length)->Vals (q.map fun i=>us.getD i .non) (q.map fun i=>vs.getD i Value.none)
 | [],_=>.nil
 | i::q,h=>by
  have hi:=h i List.mem_cons_self
  obtain⟨u,eu,ru⟩:=r.get (List.getElem?_eq_getElem hi)
  refine .cons ?_ (jr r q fun j hj=>h j (List.mem_cons_of_mem _ hj))
  dsimp only
  rw[List.getD_eq_getElem?_getD,List.getElem?_eq_getElem hi,List.getD_eq_getElem?_getD,eu]
  exact ru
theorem dz:cb X (.builtin "sorted") (qT X.K):=by
 intro pins s σ H xs us Q I r h
 obtain⟨a,ws,ps,rfl,hq,hP,nd,hb,h64,q⟩:=h
 obtain⟨u,rfl,ru⟩:=Vals.one r
 cases ru
 obtain⟨its,rv,p,hz⟩:=I.list hq
 have hlen:its.length=ps.length:=rv.length.symm.trans (jZ hP)
 refine ST.jz (ps:=ps) p.isList ⟨hlen,fun i v hv=>?_⟩ nd hb (by omega) fun qs h1 h2=>?_
 ·have hi:i<ws.length:=by rw[rv.length];exact(List.getElem?_eq_some_iff.mp hv).1
  obtain⟨pr,t,e1,e2,hs⟩:=jX (i:=i) hP (List.getElem?_eq_getElem hi)
  obtain⟨u,eu,ru⟩:=rv.get (List.getElem?_eq_getElem hi)
  rw[hv]at eu;cases eu
  rw[e2]at ru
  cases ru
  obtain⟨is,r2,⟨o,ho,hcl,n,hd⟩,_⟩:=I.tuple hs
  obtain⟨x,y,rfl,rx,ry⟩:=vals2 r2
  obtain⟨t1,rfl⟩:=rx
  obtain⟨t2,rfl⟩:=ry
  refine⟨t,o,n,t1,t2,rfl,ho,hcl,?_⟩
  rw[List.getD_eq_getElem?_getD,e1]
  exact hd
 ·have hn:H (s.heap.objs.size+1)=none:=I.hok.fresh (Nat.le_succ _)
  obtain⟨e,he⟩:=sortedAll_at s.heap its (qs.map fun i=>its.getD i Value.none).toArray
  rw[hlen]at h1
  have hin:∀i∈qs,i<ws.length:=fun i hi=>by
   have:=List.mem_range.mp (h1.mem_iff.mp hi)
   rw[jZ hP];exact this
  have hv:=jr rv qs hin
  have hz2:(qs.map fun i=>ws.getD i V.non).length≤sizeLine:=by rw[List.length_map,h1.length_eq,List.length_range,sizeLine_eq];omega
  refine⟨.ref (s.heap.objs.size+1),_,I.laid (t':=s.toks) (o:=.lst (qs.map fun i=>ws.getD i V.non)) (fun b o e=>sortedAll_old e) (Nat.le_succ _) ?_,rfl,q _ qs hn h1 h2⟩
  exact⟨hz2,_,e,hv,he⟩
end L2
namespace U
open PySem PySem.Spec PyProof.Rows L2
variable {B:Bs}{X:Cx}{a b:Expr}{ta tb:TE'}{pos:Pos}
def rN:List PV->PHp->VK'->Prop:=dc fun x H Q=>match x with
 | .ref a=>∃ps:List (Int×Int),H a=some (.lst (ps.map prV))/\ps.Nodup/\(∀p∈ps,0≤p.2/\p.2<6)/\ps.length<64/\∀(r:Addr) (qs:List (Int×Int)),H r=none->qs.Perm ps->qs.Pairwise (fun x y=>ST.pk x<ST.pk y)->Q (.ref r) (put H r (.lst (qs.map prV)))
 | _=>False
theorem lx{K:PySem.W.Frag}{H:Hp}{ps:List (Int×Int)}{us:List V}(r:RPs K H (ps.map prV) us):∀(q:List Nat),(∀i∈q,i<ps.length)->RPs K H ((q.map fun i=>ps.getD i (0,0)).map prV) (q.map fun i=>us.getD i V.non)
 | [],_=>RPs.nil _
 | i::q,h=>by
  have hi:=h i List.mem_cons_self
  obtain⟨u,eu,ru⟩:=RPs.get _ (i:=i) (x:=prV ps[i]) r (by rw[List.getElem?_map,List.getElem?_eq_getElem hi];rfl)
  refine RPs.cons _ ?_ (lx r q fun j hj=>h j (List.mem_cons_of_mem _ hj))
  dsimp only
  rw[List.getD_eq_getElem?_getD,List.getElem?_eq_getElem hi,List.getD_eq_getElem?_getD,eu]
  exact ru
theorem eC{α:Type}(l:List α)(d:α){q:List Nat}(h:q.Perm (List.range l.length)):(q.map fun i=>l.getD i d).Perm l:=by
 refine(h.map _).trans ?_
 have:(List.range l.length).map (fun i=>l.getD i d)=l:=by
  apply List.ext_getElem
  ·simp
  ·intro i h1 h2
   simp[List.getD_eq_getElem?_getD,List.getElem?_eq_getElem h2]
 rw[this]
theorem eP{K:PySem.W.Frag}:VC K B rN (qT K):=by
 intro σ' σ H' H xs' xs Q' Q s r h k
 obtain⟨x',x,rfl,rfl,rx,h⟩:=dc.ex h r
 cases x' with
 | ref a =>
  obtain⟨ps,ea,nd,hb,h64,q⟩:=h
  simp only[RP]at rx
  subst rx
  obtain⟨us,e,r2⟩:=s.hp _ _ ea
  refine⟨a,us,ps,rfl,.inl (.inl e),lN r2,nd,hb,h64,fun r qs hr h1 h2=>?_⟩
  have hin:∀i∈qs,i<ps.length:=fun i hi=>List.mem_range.mp (h1.mem_iff.mp hi)
  exact k _ _ _ _ (q r _ (s.hp.free hr) (eC ps (0,0) h1) h2) (by simp[RP]) (s.new hr (lA hr (lx r2 qs hin))) (Ev.new hr)
 | _=>exact h.elim
def qD:PV->List PV->PHp->VK'->Prop:=fun x vs H Q=>match x,vs with
 | .ref a,[]=>∃l,H a=some (.lst l)/\Q .non (put H a (.lst l.reverse))
 | _,_=>False
def iG:PV->List PV->PHp->VK'->Prop:=fun x vs H Q=>match x,vs with
 | .ref a,[]=>∃l,H a=some (.lst l)/\Q .non (put H a (.lst []))
 | _,_=>False
theorem ft{K:PySem.W.Frag}:VM K B iG qS:=by
 intro σ' σ H' H x' xs' x xs Q' Q s rx r h k
 unfold iG at h
 split at h
 ·rename_i a
  obtain⟨l,e,h⟩:=h
  obtain⟨us,q,r2⟩:=s.hp _ _ e
  simp only[RP,RPs]at rx r
  subst rx;subst r
  exact⟨a,us,rfl,rfl,q,k _ _ _ _ h (by simp[RP]) (s.wr e (wrL s.hp e (RPs.nil _))) (Ev.wr e)⟩
 ·exact h.elim
theorem fB:∀x H Q,iG x [] H Q->match x with | .ref a=>∃l,H a=some (.lst l) | _=>False:=by
 intro x H Q h
 cases x with
 | ref a=>obtain⟨l,e,_⟩:=h;exact⟨l,e⟩
 | _=>exact h
def u7:PV->List PV->PHp->VK'->Prop:=fun x vs H Q=>match x,vs with
 | .ref a,[.int i,y]=>∃l,H a=some (.lst l)/\0≤i/\i.toNat≤l.length/\l.length<1000/\Q .non (put H a (.lst (l.take i.toNat++y::l.drop i.toNat)))
 | _,_=>False
theorem DS{a:Addr}{H:PHp}{Q:VK'}:qD (.ref a) [] H Q=∃l,H a=some (.lst l)/\Q .non (put H a (.lst l.reverse)):=rfl
theorem DG{a:Addr}{H:PHp}{Q:VK'}:iG (.ref a) [] H Q=∃l,H a=some (.lst l)/\Q .non (put H a (.lst [])):=rfl
theorem Cw{a:Addr}{i:Int}{y:PV}{H:PHp}{Q:VK'}:u7 (.ref a) [.int i,y] H Q=∃l,H a=some (.lst l)/\0≤i/\i.toNat≤l.length/\l.length<1000/\Q .non (put H a (.lst (l.take i.toNat++y::l.drop i.toNat))):=rfl
end U
namespace U
open PySem PySem.Spec PyProof.Rows L2
theorem bW{B:Bs}{X:Cx}{x:Str}{v':PV}{v:V}{pos:Pos}(hg:Gl X x)(h:∃u,X.mg x=some u/\RelV v u)(r':∀H,RP X.K H v' v)(hd:(x==("__debug__":Str))=false:=by decide):PE' X B (.Name x pos) (uC v'):=by
 obtain⟨u,hm,r⟩:=h
 exact tq hg hm r r' hd
theorem aC{ok:PHp->Prop}{g:TG'}{tt:TT'}{te:TE'}{acc:Addr}{Q:VK'}{H1:PHp}{xs:List PV}(f:PV->PV)(pz:PV->Bool)(Iv:St'->Prop)(hlen:xs.length≤1000)(hok:∀l,ok (put H1 acc (.lst l)))
  (hs:∀x∈xs,∀(l:List PV) (σ:St') (R:St'->PHp->Prop),Iv σ->l.length<sizeLine->(pz x=true->∀σ3,Iv σ3->R σ3 (put H1 acc (.lst (l++[f x]))))->(pz x=false->∀σ3,Iv σ3->R σ3 (put H1 acc (.lst l))) ->
   g x σ (put H1 acc (.lst l)) fun σ3 H2=>tt σ3 H2 fun b H3=>cif b (te σ3 H3 fun y H4=>∃l',H4 acc=some (.lst l')/\l'.length<sizeLine/\R σ3 (put H4 acc (.lst (l'++[y])))) (R σ3 H3))
  (hq:Q (.ref acc) (put H1 acc (.lst ((xs.filter pz).map f)))) {σ:St'} (h0:Iv σ):cn ok g tt te acc Q xs σ (put H1 acc (.lst [])):=by
 have key:∀(r d:List PV) (σ:St'),xs=d++r->Iv σ->cn ok g tt te acc Q r σ (put H1 acc (.lst ((d.filter pz).map f))):=by
  intro r
  induction r with
  | nil =>
   intro d σ e hv
   have:d=xs:=by rw[e,List.append_nil]
   subst this
   exact⟨hok _,hq⟩
  | cons x r ih =>
   intro d σ e hv
   have hd:((d.filter pz).map f).length<sizeLine:=by
    have h1:d.length+(r.length+1)=xs.length:=by rw[e,List.length_append,List.length_cons]
    have h2:=List.length_filter_le pz d
    have:=bE (n:=1000) (by decide)
    rw[List.length_map]
    omega
   refine⟨hok _,hs x (by rw[e];simp) _ σ _ hv hd (fun hp σ3 h3=>?_) (fun hp σ3 h3=>?_)⟩
   ·have:=ih (d++[x]) σ3 (by rw[e];simp) h3
    rw[List.filter_append,List.map_append]at this
    simpa[hp]using this
   ·have:=ih (d++[x]) σ3 (by rw[e];simp) h3
    rw[List.filter_append,List.map_append]at this
    simpa[hp]using this
 exact key xs [] σ rfl h0
end U
namespace U
open PySem PySem.Spec PyProof.Rows L2
theorem BP{C:Addr}{f:Str}{a:Addr}{H:PHp}{Q:VK'}:vb C f (.ref a) H Q=∃dx fs v,H a=some (.ins C dx fs)/\fs.lookup f=some v/\Q v H:=rfl
theorem BA{C:Addr}{f:Str}{a:Addr}{y:PV}{H:PHp}{Q:PHp->Prop}:vy C f (.ref a) y H Q=∃dx fs,H a=some (.ins C dx fs)/\fs.length<1000/\Q (put H a (.ins C dx (h7 f y fs))):=rfl
theorem Cc{C:Addr}{m:Str}{a:Addr}{H:PHp}:isIn C m (.ref a) H=∃dx fs,H a=some (.ins C dx fs)/\fs.lookup m=none:=rfl
theorem D5{a:Addr}{H:PHp}{Q:VK'}:Bc [.ref a] H Q=∃bs:List Bool,H a=some (.lst (bs.map PV.bl))/\Q (.bl (bs.all id)) H:=rfl
theorem Ee{a:Addr}{H:PHp}{Q:VK'}:qR (.ref a) H Q=∃ps:List (Int×Int),H a=some (.lst (ps.map prV))/\ps.Nodup/\(∀p∈ps,p∈SP.prs)/\ps.length≤15/\Q (.int ps.length) H:=rfl
theorem Ce{a:Addr}{H:PHp}{Q:VK'}:rN [.ref a] H Q=∃ps:List (Int×Int),H a=some (.lst (ps.map prV))/\ps.Nodup/\(∀p∈ps,0≤p.2/\p.2<6)/\ps.length<64/\∀(r:Addr) (qs:List (Int×Int)),H r=none->qs.Perm ps->qs.Pairwise (fun x y=>ST.pk x<ST.pk y)->Q (.ref r) (put H r (.lst (qs.map prV))):=rfl
end U
namespace SI
open PySem
def subs:List (List Nat):=(List.range 64).map fun b=>(List.range 6).filter fun i=>b / 2 ^ i % 2==1
def tb(led:Bool)(L:List Nat):SetTable:={ mask:=if L.length≤4 then 7 else 31,place:=L.toArray,dummies:=#[],finger:=0,led:=led,moves:=if L.length≤4 then 0 else 1,plain:=true }
def pos(L:List Nat)(x:Nat):Nat:=(L.filter (·<x)).length
def ins(L:List Nat)(x:Nat):List Nat:=L.take (pos L x)++x::L.drop (pos L x)
def tp(led:Bool)(L:List Nat)(x:Nat):SetTable:={ tb led L with place:=(ins L x).toArray }
theorem Cu:∀led∈[true,false],∀L∈subs,∀x∈List.range 6,x∉L->(tb led L).freeSlot x=some (x,false)/\(tb led L).put x=(tp led L x,pos L x):=by decide +kernel
theorem D2:∀led∈[true,false],∀L∈subs,∀x∈List.range 6,x∉L->(tp led L x).fits (ins L x).length=true/\(if L.length=4 then(tp led L x).tooFull=true/\(tp led L x).relaid ((ins L x).map Int.ofNat).toArray 20=some (tb led (ins L x),#[0,1,2,3,4])else(tp led L x).tooFull=false/\tp led L x=tb led (ins L x)):=by decide +kernel
theorem iz:∀L∈subs,(∀x∈L,x<6)/\L.length≤6/\L.Nodup/\(∀x∈List.range 6,x∉L->ins L x∈subs):=by decide +kernel
theorem kR:∀L∈subs,∀led∈[true,false],(tb led L).fits L.length=true/\SetTable.below L.toArray 0=0/\∀i∈List.range L.length,SetTable.below L.toArray (L.getD i 0+1)=i+1:=by decide +kernel
def ent(i:Nat)(tk:Tok):Int×Value:=((i:Int),.int (i:Int) tk)
def cS(es:Array (Int×Value))(L:List Nat):Prop:=∃tks:List Tok,tks.length=L.length/\es.toList=List.zipWith ent L tks
theorem cS.size{es:Array (Int×Value)}{L:List Nat}(h:cS es L):es.size=L.length:=by
 obtain⟨tks,hl,e⟩:=h
 rw[←Array.length_toList,e,List.length_zipWith,hl,Nat.min_self]
theorem cS.get{es:Array (Int×Value)}{L:List Nat}(h:cS es L){i:Nat}(hi:i<L.length):∃tk,es[i]?=some (ent (L.getD i 0) tk):=by
 obtain⟨tks,hl,e⟩:=h
 refine⟨tks[i],?_⟩
 rw[←Array.getElem?_toList,e,List.getElem?_zipWith,List.getElem?_eq_getElem hi,List.getElem?_eq_getElem (by omega),List.getD_eq_getElem?_getD,List.getElem?_eq_getElem hi]
 rfl
theorem cS.mem{es:Array (Int×Value)}{L:List Nat}(h:cS es L){e:Int×Value}(he:e∈es.toList):∃x∈L,∃tk,e=ent x tk:=by
 obtain⟨i,hi,rfl⟩:=List.mem_iff_getElem.mp he
 have hi':i<L.length:=by rw[←h.size];simpa using hi
 obtain⟨tk,e⟩:=h.get hi'
 refine⟨L.getD i 0,by rw[List.getD_eq_getElem?_getD,List.getElem?_eq_getElem hi'];exact List.getElem_mem hi',tk,?_⟩
 rw[Array.getElem?_eq_getElem (by simpa using hi)]at e
 simpa using Option.some.inj e
theorem cS.of{es:Array (Int×Value)}{L:List Nat}(h:cS es L){x:Nat}(hx:x∈L):∃tk,ent x tk∈es.toList:=by
 obtain⟨i,hi,rfl⟩:=List.mem_iff_getElem.mp hx
 obtain⟨tk,e⟩:=h.get hi
 refine⟨tk,?_⟩
 rw[List.getD_eq_getElem?_getD,List.getElem?_eq_getElem hi]at e
 rw[←Array.getElem?_toList]at e
 exact List.mem_of_getElem? e
theorem cS.ins{es:Array (Int×Value)}{L:List Nat}(h:cS es L)(x:Nat)(tk:Tok):cS (SetTable.insertAt es (pos L x) (ent x tk)) (SI.ins L x):=by
 obtain⟨tks,hl,e⟩:=h
 refine⟨tks.take (pos L x)++tk::tks.drop (pos L x),?_,?_⟩
 ·unfold SI.ins
  simp only[List.length_append,List.length_cons,List.length_take,List.length_drop]
  omega
 ·rw[SetTable.toList_insertAt,e]
  unfold SI.ins
  rw[List.zipWith_append (by simp only[List.length_take];omega),List.zipWith_cons_cons,List.take_zipWith,List.drop_zipWith]
structure eE (h:Heap) (S:Addr) (led:Bool) (L:List Nat):Prop where
 is:L∈subs/\∃es ep,h.get? S=some { cls:=.type "set",dict:=none,data:=.set es ep (tb led L) }/\cS es L
theorem dv(led:Bool):led∈[true,false]:=by cases led<;>simp
theorem mn{α:Type}(es:Array α)(h:es.size=5):(#[0,1,2,3,4]:Array Nat).filterMap (es[·]?)=es:=by
 have e:=PySem.filterMap_getElem?_range es
 rw[h]at e
 apply Array.toList_inj.mp
 rw[Array.toList_filterMap]
 exact e
section
variable {prog:Program}{w:World}{A:Around}{E:Value->Shared->Prop}{s:Shared}
theorem cS.elems{es:Array (Int×Value)}{L:List Nat}(h:cS es L)(hL:L∈subs):ElemsOf (intKind prog w) es.toList:=fun e he=>by
 obtain⟨x,hx,tk,rfl⟩:=h.mem he
 refine⟨⟨(x:Int),intKind_is _ _ _ _,?_⟩,rfl⟩
 have:x<6:=(iz L hL).1 x hx
 have hh:∀y∈List.range 6,((y:Nat):Int)=(intKind prog w).hash ((y:Nat):Int):=by
  intro y hy
  have:y=0∨y=1∨y=2∨y=3∨y=4∨y=5:=by have:=List.mem_range.mp hy;omega
  rcases this with rfl | rfl | rfl | rfl | rfl | rfl<;>rfl
 exact hh x (List.mem_range.mpr this)
theorem kH{x:Nat}(hx:x<6):(intKind prog w).hash ((x:Nat):Int)=((x:Nat):Int):=by
 have:x=0∨x=1∨x=2∨x=3∨x=4∨x=5:=by omega
 rcases this with rfl | rfl | rfl | rfl | rfl | rfl<;>rfl
theorem iI{S:Addr}{led:Bool}{L:List Nat}{x:Nat}{tk:Tok}{Q:Bool->Shared->Prop}(hP:eE s.heap S led L)(hx:x<6)
  (h:∀b h' tks,Heap.SameBut S s.heap h'->eE h' S led (if x∈L then L else ins L x)->Q b { s with heap:=h',toks:=tks }):wpAny (model prog w) A (setAdd S (.int (x:Int) tk)) Q E s:=by
 obtain⟨hL,es,ep,ho,he⟩:=hP.is
 unfold setAdd
 refine wpAny_holding ?_
 refine wpAny_bind ((intKind prog w).pyHash (k:=(x:Int)) (intKind_is _ _ _ _) ?_)
 rw[kH hx]
 generalize hs':({ s with toks:=s.toks+1 }:Shared)=s1
 have e1:s1.heap=s.heap:=by rw[←hs']
 have hs1:∀hh':Heap,({ s1 with heap:=hh' }:Shared)={ s with heap:=hh',toks:=s1.toks }:=fun hh'=>by rw[←hs']
 have ho1:s1.heap.get? S=some { cls:=.type "set",dict:=none,data:=.set es ep (tb led L) }:=by rw[e1];exact ho
 have hf:(tb led L).fits es.size=true:=by rw[he.size];exact(kR L hL led (dv led)).1
 have hel:=he.elems (prog:=prog) (w:=w) hL
 have h6:=(iz L hL).2.1
 have hbd:es.size<scanBound:=by rw[he.size];unfold scanBound;omega
 have scan:∀{Q':ScanMet->Shared->Prop},Q' (match es.toList.findIdx? (fun e=>(intKind prog w).is ((x:Nat):Int) e.2)with | some j=>.found (0+j) | none=>.absent) s1->wpAny (model prog w) A (setScan S (.int ((x:Nat):Int) tk) ((x:Nat):Int) true es) Q' E s1:=by
  intro Q' hq
  have:=wpAny_setScan_of (knd:=intKind prog w) (adding:=true) (x:=.int ((x:Nat):Int) tk) (k:=((x:Nat):Int)) (A:=A) (E:=E) (Q:=Q') (intKind_is _ _ _ _) ho1 rfl hf hel hq
  rwa [kH hx]at this
 unfold setAddHashed setAddHashedIn
 refine wpAny_holding (wpAny_bind (wpAny_setState_of ho1 rfl hf ?_))
 dsimp only
 rw[byScan_of (knd:=intKind prog w) rfl hbd hel]
 simp only[↓reduceIte]
 unfold setAddByScan
 refine wpAny_bind ?_
 refine wpAny_bind (wpAny_rule ?_)
 refine wpAny_bind (scan ?_)
 cases hr:List.findIdx? (fun e=>(intKind prog w).is ((x:Nat):Int) e.2) es.toList with
 | some j =>
  dsimp only
  obtain⟨hj,hpj,_⟩:=List.findIdx?_eq_some_iff_getElem.mp hr
  obtain⟨y,hy,tk',ee⟩:=he.mem (List.getElem_mem hj)
  have hxy:x=y:=by
   rw[ee]at hpj
   have q:(intKind prog w).is ((x:Nat):Int) (.int ((y:Nat):Int) tk')=true:=hpj
   have:=(intKind prog w).inj _ _ _ q (intKind_is _ _ _ _)
   omega
  subst hxy
  refine wpAny_pure (wpAny_pure ?_)
  have:=h false s.heap s1.toks (Heap.SameBut.refl S s.heap) (by rw[if_pos hy];exact hP)
  have e:s1={ s with heap:=s.heap,toks:=s1.toks }:=by rw[←hs1];cases s1;simp only at e1;rw[e1]
  rw[e];exact this
 | none =>
  dsimp only
  have hn:x∉L:=fun hm=>by
   obtain⟨tk',hm'⟩:=he.of hm
   have:=List.findIdx?_eq_none_iff.mp hr _ hm'
   have q:(intKind prog w).is ((x:Nat):Int) (.int ((x:Nat):Int) tk')=true:=intKind_is _ _ _ _
   have this':(intKind prog w).is ((x:Nat):Int) (.int ((x:Nat):Int) tk')=false:=this
   rw[q]at this';cases this'
  obtain⟨f1,f2⟩:=Cu led (dv led) L hL x (List.mem_range.mpr hx) hn
  obtain⟨f3,f4⟩:=D2 led (dv led) L hL x (List.mem_range.mpr hx) hn
  have hins:=(iz L hL).2.2.2 x (List.mem_range.mpr hx) hn
  have hin2:=he.ins x tk
  have hsz2:=hin2.size
  have hln:(ins L x).length=L.length+1:=by unfold ins;simp only[List.length_append,List.length_cons,List.length_take,List.length_drop];omega
  have hlay:layNew (tb led L) es ((x:Nat):Int) (.int ((x:Nat):Int) tk)=(SetTable.insertAt es (pos L x) (ent x tk),tp led L x,false,false):=by
   unfold layNew
   rw[f1]
   dsimp only
   rw[f2]
   dsimp only
   have e2:(tp led L x).fits (SetTable.insertAt es (pos L x) (ent x tk)).size=true:=by rw[hsz2];exact f3
   show(SetTable.insertAt es (pos L x) (ent x tk),(tp led L x).orStandIn (SetTable.insertAt es (pos L x) (ent x tk)).size,false,!(tp led L x).fits (SetTable.insertAt es (pos L x) (ent x tk)).size)=_
   unfold SetTable.orStandIn
   rw[if_pos e2,e2]
   rfl
  rw[hlay]
  dsimp only
  refine wpAny_bind (wpAny_pure ?_)
  have hpl:(tp led L x).plain=true:=rfl
  rw[hpl]
  simp only[↓reduceIte]
  refine wpAny_bind ?_
  rw[hashByValue_scannable 8 (x:=.int ((x:Nat):Int) tk) rfl]
  refine wpAny_pure ?_
  have hpk:plainKind (.int ((x:Nat):Int) tk)=true:=rfl
  rw[hpk]
  simp only[↓reduceIte]
  have hz:(SetTable.insertAt es (pos L x) (ent x tk)).size≤sizeLine:=by rw[hsz2,hln,sizeLine_eq];omega
  refine wpAny_bind (wpAny_storeSet_of ho1 rfl ?_ hz)
  have hg:(s1.heap.update S (Obj.putSet (SetTable.insertAt es (pos L x) (ent x tk)) (tp led L x))).get? S=some { cls:=.type "set",dict:=none,data:=.set (SetTable.insertAt es (pos L x) (ent x tk)) (ep+1) (tp led L x) } :=
   Heap.get?_update_self _ ho1 rfl
  have sb1:Heap.SameBut S s.heap (s1.heap.update S (Obj.putSet (SetTable.insertAt es (pos L x) (ent x tk)) (tp led L x))):=by rw[e1];exact Heap.SameBut.update ..
  by_cases h4:L.length=4
  ·rw[if_pos h4]at f4
   rw[f4.1]
   simp only[Bool.not_false,Bool.and_self,↓reduceIte]
   have hw:SetTable.grown (SetTable.insertAt es (pos L x) (ent x tk)).size=20:=by rw[hsz2,hln,h4];rfl
   have hmp:(SetTable.insertAt es (pos L x) (ent x tk)).map (·.1)=((ins L x).map Int.ofNat).toArray:=by
    obtain⟨tks,q1,q2⟩:=hin2
    apply Array.toList_inj.mp
    rw[Array.toList_map,q2]
    have gen:∀(L:List Nat) (tks:List Tok),tks.length=L.length->(List.zipWith ent L tks).map (·.1)=L.map Int.ofNat:=by
     intro L
     induction L with
     | nil=>intro tks _;rfl
     | cons a L ih =>
      intro tks hl
      cases tks with
      | nil=>simp at hl
      | cons b tks=>simp only[List.zipWith_cons_cons,List.map_cons,ih tks (by simpa using hl)];rfl
    exact gen _ _ q1
   have h5:(SetTable.insertAt es (pos L x) (ent x tk)).size=5:=by rw[hsz2,hln,h4]
   have hrl:relayAll (tp led L x) (SetTable.insertAt es (pos L x) (ent x tk)) (SetTable.grown (SetTable.insertAt es (pos L x) (ent x tk)).size)=(SetTable.insertAt es (pos L x) (ent x tk),tb led (ins L x),false):=by
    unfold relayAll
    rw[hw,hmp,f4.2]
    dsimp only
    rw[mn _ h5]
    have c1:coversAll #[0,1,2,3,4] (SetTable.insertAt es (pos L x) (ent x tk)).size=true:=by rw[h5];decide +kernel
    have c2:(tb led (ins L x)).fits (SetTable.insertAt es (pos L x) (ent x tk)).size=true:=by rw[hsz2];exact(kR _ hins led (dv led)).1
    rw[c1,c2]
    rfl
   rw[hrl]
   dsimp only
   refine wpAny_bind (wpAny_pure ?_)
   refine wpAny_bind (wpAny_storeSet_of hg rfl ?_ hz)
   have hg3:=Heap.get?_update_self (Obj.putSet (SetTable.insertAt es (pos L x) (ent x tk)) (tb led (ins L x))) hg rfl
   refine wpAny_pure (wpAny_pure ?_)
   rw[hs1]
   refine h true _ _ (sb1.trans (Heap.SameBut.update ..)) ?_
   rw[if_neg hn]
   exact⟨hins,_,_,hg3,hin2⟩
  ·rw[if_neg h4]at f4
   rw[f4.1]
   simp only[Bool.not_false,Bool.and_false,Bool.false_eq_true,↓reduceIte]
   refine wpAny_pure (wpAny_pure ?_)
   rw[hs1]
   refine h true _ _ sb1 ?_
   rw[if_neg hn]
   rw[f4.2]at hg
   rw[f4.2]
   exact⟨hins,_,_,hg,hin2⟩
end
end SI
namespace SI
open PySem
theorem slot_next:Slot "set_iterator" "__next__" "set_iterator.__next__":=.of (owner:="set_iterator") (n:="__next__") (by rw[typeLookup_type,builtinLookup_eq_fast];kernel_rfl) (by decide +kernel) (by decide +kernel) (by decide +kernel) (by first | exact .inl (by decide +kernel) | exact .inr (by decide +kernel)) (by rw[isSubtype_type];kernel_rfl)
theorem mQ:Slot "set_iterator" "__iter__" "set_iterator.__iter__":=.of (owner:="set_iterator") (n:="__iter__") (by rw[typeLookup_type,builtinLookup_eq_fast];kernel_rfl) (by decide +kernel) (by decide +kernel) (by decide +kernel) (by first | exact .inl (by decide +kernel) | exact .inr (by decide +kernel)) (by rw[isSubtype_type];kernel_rfl)
theorem entry_next:entryFor table "set_iterator.__next__"=some Builtin.«set_iterator.__next__»:=entryFor_of_tree (by kernel_rfl)
theorem qQ:entryFor table "set_iterator.__iter__"=some Builtin.«dict_keyiterator.__iter__»:=entryFor_alias (id':="dict_keyiterator.__iter__") (by kernel_rfl) rfl (by decide +kernel) (by kernel_rfl)
theorem mz:entryFor table "set.__iter__"=some Builtin.«frozenset.__iter__»:=entryFor_alias (id':="frozenset.__iter__") (by kernel_rfl) rfl (by decide +kernel) (by kernel_rfl)
theorem iO{α:Type}:∀(l:List α) (i:Nat) (h:i<l.length),(l[i]::l.eraseIdx i).Perm l
 | x::l,0,_=>List.Perm.refl _
 | x::l,i+1,h=>by
  have ih:=iO l i (by simpa using h)
  have h':i<l.length:=by simpa using h
  show(l[i]::x::l.eraseIdx i).Perm (x::l)
  exact(List.Perm.swap _ _ _).trans (ih.cons x)
theorem args_next(a:Value):argsOk "set_iterator.__next__" ⟨[a],[]⟩:=by unfold argsOk;kernel_rfl
theorem r9(a:Value):argsOk "set_iterator.__iter__" ⟨[a],[]⟩:=by unfold argsOk;kernel_rfl
def mi(h:Heap)(it S:Addr)(k i n ep:Nat):Prop:=h.get? it=some { cls:=.type "set_iterator",data:=.fields #[.int k 0,.int i 0,.ref S,.int n 0,.int ep 0] }
theorem mi.ty{s:Shared}{it S:Addr}{k i n ep:Nat}(h:mi s.heap it S k i n ep):s.TypeIs (.ref it) "set_iterator":=⟨_,h,rfl⟩
theorem eC{α:Type}(next:Nat->Nat):∀(f k:Nat) (l:List α) (out:Array α),f=l.length->(pickOrder.go next f k l out).toList.Perm (out.toList++l)
 | 0,k,l,out,h=>by
  have:l=[]:=List.length_eq_zero_iff.mp h.symm
  subst this
  show out.toList.Perm _
  rw[List.append_nil]
 | f+1,k,l,out,h=>by
  have hlt:next k % l.length<l.length:=Nat.mod_lt _ (by omega)
  unfold pickOrder.go
  rw[List.getElem?_eq_getElem hlt]
  dsimp only
  refine(eC next f (k+1) _ _ (by rw[List.length_eraseIdx_of_lt hlt];omega)).trans ?_
  rw[Array.toList_push,List.append_assoc]
  refine List.Perm.append_left _ ?_
  exact iO l _ hlt
def walk(w:World)(S:Addr)(es:Array (Int×Value))(ep:Nat):Array (Int×Value):=if w.params.followText "set-order"=true then pickOrder (w.params.setOrder S ep) es else es
theorem jb(w:World)(S:Addr)(es:Array (Int×Value))(ep:Nat):(walk w S es ep).toList.Perm es.toList:=by
 unfold walk
 split
 ·have:=eC (w.params.setOrder S ep) es.size 0 es.toList #[] (by simp)
  simpa[pickOrder]using this
 ·exact List.Perm.refl _
theorem dZ(w:World)(S:Addr)(es:Array (Int×Value))(ep:Nat):(walk w S es ep).size=es.size:=by
 have:=(jb w S es ep).length_eq
 simpa using this
def slotAt(w:World)(L:List Nat)(i:Nat):Nat:=if w.params.followText "set-order"=true then 0 else if i=0 then 0 else L.getD (i - 1) 0+1
section
variable {prog:Program}{w:World}{A:Around}{E:Value->Shared->Prop}{s:Shared}
def br(w:World):Bool:=!w.params.followText "set-order"
theorem below_at{w:World}{L:List Nat}(hL:L∈subs)(hb:¬w.params.followText "set-order"=true){i:Nat}(hi:i≤L.length):SetTable.below L.toArray (slotAt w L i)=i:=by
 unfold slotAt
 rw[if_neg hb]
 obtain⟨_,a,b⟩:=kR L hL true (by simp)
 cases i with
 | zero=>exact a
 | succ i =>
  rw[if_neg (by omega)]
  exact b i (List.mem_range.mpr (by omega))
theorem qX{S:Addr}{L:List Nat}{es:Array (Int×Value)}{ep:Nat}{Q:Value->Shared->Prop}(hL:L∈subs)(ho:s.heap.get? S=some { cls:=.type "set",dict:=none,data:=.set es ep (tb (br w) L) })(he:cS es L)
  (hQ:Q (.ref s.heap.objs.size) { s with heap:=s.heap.push { cls:=.type "set_iterator",data:=.fields #[.int 0 0,.int 0 0,.ref S,.int es.size 0,.int ep 0] } }):wpAny (model prog w) A (pyIter (.ref S)) Q E s:=by
 have ty:s.TypeIs (.ref S) "set":=⟨_,ho,rfl⟩
 have hf:(tb (br w) L).fits es.size=true:=by rw[he.size];exact(kR L hL _ (dv _)).1
 refine wpAny_pyIter_slot ty F.slot_set_iter (wpAny_call_entry F.slot_set_iter ty mz ?_ (F.args_set_iter_1 _))
 unfold Builtin.«frozenset.__iter__» Builtin.Frozenset.slot0
 refine wpAny_bind (wpAny_bind (wpAny_pure (wpAny_pure ?_)))
 unfold Builtin.Frozenset.sizeOf
 refine wpAny_bind (wpAny_bind (wpAny_setEntries_of ho rfl hf (wpAny_pure ?_)))
 unfold setDrawn setsByText
 refine wpAny_bind (wpAny_bind (wpAny_setState_of ho rfl hf ?_))
 dsimp only
 refine wpAny_bind (wpAny_bind (wpAny_askSetting (wpAny_pure (wpAny_pure ?_))))
 refine wpAny_ite_split (fun hx=>?_) (fun _=>wpAny_bind (wpAny_pure ?_))
 ·exfalso
  have hx':(!(w.params.followText "set-order")&&(!(tb (br w) L).plain&&decide (es.size>1)))=true:=hx
  have hp:(tb (br w) L).plain=true:=rfl
  rw[hp]at hx'
  simp at hx'
 ·refine wpAny_bind (wpAny_setEpoch_of ho rfl hf ?_)
  simp only[newFields]
  refine wpAny_bind (wpAny_newObj_type (wpAny_pure ⟨_,rfl,"set_iterator",_,⟨_,Heap.get?_push_size _ rfl,rfl⟩,slot_next.lookup,?_⟩))
  exact hQ
theorem lj{S:Addr}{L:List Nat}{es:Array (Int×Value)}{ep i:Nat}{Q':Option (Value×Nat)->Shared->Prop}(hL:L∈subs)(ho:s.heap.get? S=some { cls:=.type "set",dict:=none,data:=.set es ep (tb (br w) L) })(he:cS es L)(hi:i≤es.size)
  (hq:Q' (((walk w S es ep)[i]?).map fun e=>(e.2,slotAt w L (i+1))) s):wpAny (model prog w) A (setNext S (slotAt w L i) i ep) Q' E s:=by
 have hf:(tb (br w) L).fits es.size=true:=by rw[he.size];exact(kR L hL _ (dv _)).1
 unfold setNext
 refine wpAny_bind (wpAny_setState_of ho rfl hf ?_)
 dsimp only
 unfold setsByText
 refine wpAny_bind (wpAny_bind (wpAny_askSetting (wpAny_pure ?_)))
 refine wpAny_ite_split (fun hb=>?_) (fun hb=>?_)
 ·have hb':w.params.followText "set-order"=true:=hb
  refine wpAny_ite_split (fun hx=>absurd hx (by simp)) (fun _=>?_)
  unfold setWalk setsByText
  refine wpAny_bind (wpAny_bind (wpAny_setState_of ho rfl hf ?_))
  dsimp only
  refine wpAny_bind (wpAny_bind (wpAny_askSetting (wpAny_pure ?_)))
  refine wpAny_ite_split (fun _=>?_) (fun hc=>absurd hb hc)
  refine wpAny_bind (wpAny_askSetting (wpAny_pure (wpAny_pure ?_)))
  unfold walk slotAt at hq
  rw[if_pos hb',if_pos hb']at hq
  unfold slotAt
  rw[if_pos hb']
  exact hq
 ·have hb':¬w.params.followText "set-order"=true:=hb
  refine wpAny_ite_split (fun hx=>?_) (fun _=>?_)
  ·exfalso
   have hx':(!(tb (br w) L).plain&&decide (es.size>1))=true:=hx
   have hp:(tb (br w) L).plain=true:=rfl
   rw[hp]at hx'
   simp at hx'
  ·have hled:br w=true:=by unfold br;simpa using hb'
   refine wpAny_bind ?_
   refine(show wpAny (model prog w) A (if (!(tb (br w) L).led&&!es.isEmpty)=true then unsupported "set:maker-not-led" else pure ()) _ E s from ?_)
   refine wpAny_ite_split (fun hx=>?_) (fun _=>wpAny_pure (wpAny_pure ?_))
   ·exfalso
    have hl2:(tb (br w) L).led=true:=hled
    rw[hl2]at hx
    simp at hx
   ·have hbl:=below_at (w:=w) hL hb' (i:=i) (by rw[←he.size];exact hi)
    have hpl:(tb (br w) L).place=L.toArray:=rfl
    rw[hpl,hbl]
    unfold walk at hq
    rw[if_neg hb']at hq
    by_cases hlt:i<es.size
    ·have hlt2:i<L.length:=by rw[←he.size];exact hlt
     rw[Array.getElem?_eq_getElem hlt]at hq ⊢
     have e2:L.toArray[i]?=some L[i]:=by simp[hlt2]
     rw[e2]
     unfold slotAt at hq
     rw[if_neg hb',if_neg (by omega),Nat.add_sub_cancel,List.getD_eq_getElem?_getD,List.getElem?_eq_getElem hlt2]at hq
     exact hq
    ·rw[Array.getElem?_eq_none (by omega)]at hq ⊢
     exact hq
theorem next_item{it S:Addr}{L:List Nat}{es:Array (Int×Value)}{ep i:Nat}{e:Int×Value}{Q:Option Value->Shared->Prop}(hL:L∈subs)(ho:s.heap.get? S=some { cls:=.type "set",dict:=none,data:=.set es ep (tb (br w) L) })(he:cS es L)
  (hit:mi s.heap it S (slotAt w L i) i es.size ep) (hx:(walk w S es ep)[i]?=some e)
  (hQ:∀h',mi h' it S (slotAt w L (i+1)) (i+1) es.size ep->Heap.SameBut it s.heap h'->Q (some e.2) { s with heap:=h' }):wpAny (model prog w) A (pyNext (.ref it)) Q E s:=by
 have hf:(tb (br w) L).fits es.size=true:=by rw[he.size];exact(kR L hL _ (dv _)).1
 have hi:i<es.size:=by
  rw[←dZ w S es ep]
  exact(Array.getElem?_eq_some_iff.mp hx).1
 unfold pyNext
 refine wpAny_bind (wpAny_attempt (wpAny_callSpecial?_slot (name:=Str.ofString "__next__") hit.ty slot_next (wpAny_call_entry slot_next hit.ty entry_next ?_ (args_next _))))
 unfold Builtin.«set_iterator.__next__»
 refine wpAny_bind (wpAny_pure ?_)
 refine wpAny_bind (wpAny_fieldsOf hit rfl ?_)
 dsimp only
 refine wpAny_bind (wpAny_setEntries_of ho rfl hf ?_)
 rw[if_neg (by simp)]
 simp only[Int.toNat_natCast]
 refine wpAny_bind (lj hL ho he (by omega) ?_)
 rw[hx]
 dsimp only[Option.map_some]
 refine wpAny_bind (wpAny_setField hit rfl (by simp) ?_)
 have h1:=Heap.get?_update_self (Obj.mapFields (·.setIfInBounds 0 (rawInt ((slotAt w L (i+1):Nat):Int)))) hit rfl
 refine wpAny_bind (wpAny_setField h1 rfl (by simp[Obj.mapFields]) ?_)
 have h2:=Heap.get?_update_self (Obj.mapFields (·.setIfInBounds 1 (rawInt ((i:Nat)+1:Int)))) h1 rfl
 refine wpAny_pure ⟨_,rfl,wpAny_pure (hQ _ ?_ ((Heap.SameBut.update ..).trans (Heap.SameBut.update ..)))⟩
 exact h2
theorem next_end{it S:Addr}{L:List Nat}{es:Array (Int×Value)}{ep:Nat}{Q:Option Value->Shared->Prop}(hh:A.handled=none)(hL:L∈subs)(ho:s.heap.get? S=some { cls:=.type "set",dict:=none,data:=.set es ep (tb (br w) L) })(he:cS es L)
  (hit:mi s.heap it S (slotAt w L es.size) es.size es.size ep) (hQ:∀h',Heap.ExtBut it s.heap h'->Q none { s with heap:=h' }):wpAny (model prog w) A (pyNext (.ref it)) Q E s:=by
 have hf:(tb (br w) L).fits es.size=true:=by rw[he.size];exact(kR L hL _ (dv _)).1
 unfold pyNext
 refine wpAny_bind (wpAny_attempt (wpAny_callSpecial?_slot (name:=Str.ofString "__next__") hit.ty slot_next (wpAny_call_entry slot_next hit.ty entry_next ?_ (args_next _))))
 unfold Builtin.«set_iterator.__next__»
 refine wpAny_bind (wpAny_pure ?_)
 refine wpAny_bind (wpAny_fieldsOf hit rfl ?_)
 dsimp only
 refine wpAny_bind (wpAny_setEntries_of ho rfl hf ?_)
 rw[if_neg (by simp)]
 simp only[Int.toNat_natCast]
 refine wpAny_bind (lj hL ho he (Nat.le_refl _) ?_)
 rw[Array.getElem?_eq_none (by rw[dZ];exact Nat.le_refl _)]
 dsimp only[Option.map_none]
 refine wpAny_bind (wpAny_setField hit rfl (by simp) ?_)
 refine wpAny_bind ?_
 simp only[newExc,newTuple]
 refine wpAny_bind (wpAny_newObj_type (wpAny_bind (m:=firstArgMember _ _) (wpAny_of_eq (a:=Value.none) (by first | rfl |(simp only[firstArgMember];rfl)) (wpAny_newObj_type ?_ (by size_fits)))) (by size_fits))
 simp only[raiseNew]
 refine wpAny_bind (wpAny_handled ?_)
 have hh1:A.in1.handled=none:=hh
 rw[hh1]
 refine wpAny_bind (wpAny_pure (wpAny_throw ?_))
 refine wpAny_bind (wpAny_isInstance (T:="StopIteration") (b:=true) ⟨_,Heap.get?_push_size _ rfl,rfl⟩ isSubtype_stop (wpAny_pure (hQ _ (((Heap.SameBut.update ..).extBut.push _).push _))))
theorem oP(hh:A.handled=none){I S:Addr}{L:List Nat}{es:Array (Int×Value)}{ep:Nat}(hne:S≠I)(hL:L∈subs)(he:cS es L) :
  Walks prog w A I [I,S] [I] es.size (fun i v=>∃e,(walk w S es ep)[i]?=some e/\v=e.2) (fun i h=>mi h I S (slotAt w L i) i es.size ep/\h.get? S=some { cls:=.type "set",dict:=none,data:=.set es ep (tb (br w) L) }) where
 sub:=fun b hb=>by simp at hb;simp[hb]
 frame:=fun _ _ _ st hk=>⟨hk I (by simp) _ st.1,hk S (by simp) _ st.2⟩
 item:=fun i s Q E hi st hQ=>by
  have hw:i<(walk w S es ep).size:=by rw[dZ];exact hi
  have hx:(walk w S es ep)[i]?=some (walk w S es ep)[i]:=Array.getElem?_eq_getElem hw
  refine next_item hL st.2 he st.1 hx fun h' it' sb=>?_
  exact hQ _ h' s.toks ⟨_,hx,rfl⟩ ⟨it',sb.extBut S _ hne st.2⟩ fun b o hb e=>sb.extBut b o (fun h=>hb (by simp[h])) e
 done:=fun s Q E st hQ=>next_end hh hL st.2 he st.1 fun h' eb=>hQ h' s.toks fun b o hb e=>eb b o (fun h=>hb (by simp[h])) e
 self:=fun i s Q E st hQ=>by
  refine wpAny_pyIter_slot st.1.ty mQ (wpAny_call_entry mQ st.1.ty qQ ?_ (r9 _))
  show wpAny _ _ (ret (.ref I)) _ _ s
  exact wpAny_pure ⟨_,rfl,"set_iterator",_,st.1.ty,slot_next.lookup,hQ⟩
def add(L:List Nat)(x:Nat):List Nat:=if x∈L then L else ins L x
def lof(ns:List Nat):List Nat:=ns.foldl add []
theorem t9{L:List Nat}{x y:Nat}:y∈ins L x↔y=x∨y∈L:=by
 unfold ins
 rw[List.mem_append,List.mem_cons]
 have:y∈L↔y∈L.take (pos L x)∨y∈L.drop (pos L x):=by
  rw[←List.mem_append,List.take_append_drop]
 rw[this]
 constructor
 ·rintro(h | h | h)
  ·exact .inr (.inl h)
  ·exact .inl h
  ·exact .inr (.inr h)
 ·rintro(h | h | h)
  ·exact .inr (.inl h)
  ·exact .inl h
  ·exact .inr (.inr h)
theorem tj{L:List Nat}{x y:Nat}:y∈add L x↔y=x∨y∈L:=by
 unfold add
 split
 ·rename_i h
  exact⟨.inr,fun q=>q.elim (fun e=>e▸h) id⟩
 ·exact t9
theorem rP{L:List Nat}{x:Nat}(hL:L∈subs)(hx:x<6):add L x∈subs:=by
 unfold add
 split
 ·exact hL
 ·rename_i h
  exact(iz L hL).2.2.2 x (List.mem_range.mpr hx) h
theorem lh{y:Nat}:∀(ns L:List Nat),y∈ns.foldl add L↔y∈ns∨y∈L
 | [],L=>by simp
 | n::ns,L=>by
  rw[List.foldl_cons,lh ns,tj,List.mem_cons]
  constructor
  ·rintro(h | h | h)
   ·exact .inl (.inr h)
   ·exact .inl (.inl h)
   ·exact .inr h
  ·rintro((h | h) | h)
   ·exact .inr (.inl h)
   ·exact .inl h
   ·exact .inr (.inr h)
theorem i5:∀(ns L:List Nat),L∈subs->(∀n∈ns,n<6)->ns.foldl add L∈subs
 | [],L,h,_=>h
 | n::ns,L,h,hn=>i5 ns _ (rP h (hn n List.mem_cons_self)) fun m hm=>hn m (List.mem_cons_of_mem _ hm)
theorem hW:[]∈subs:=by decide +kernel
theorem iQ{ns:List Nat}(h:∀n∈ns,n<6):lof ns∈subs:=i5 ns [] hW h
theorem jA{ns:List Nat}{y:Nat}:y∈lof ns↔y∈ns:=by
 unfold lof;rw[lh];simp
theorem lz{ns:List Nat}{i:Nat}(h:i<ns.length):lof (ns.take (i+1))=add (lof (ns.take i)) ns[i]:=by
 unfold lof
 rw[List.take_add_one,List.getElem?_eq_getElem h,List.foldl_append]
 rfl
end
end SI
namespace SI
open PySem PyProof.Rows
section
variable {prog:Program}{w:World}{A:Around}{E:Value->Shared->Prop}{s:Shared}
def ko(vs:List Value)(ns:List Nat):Prop:=vs.length=ns.length/\∀(i:Nat) (v:Value),vs[i]?=some v->∃tk,v=Value.int ((ns.getD i 0:Nat):Int) tk
theorem zD{S I l:Addr}{vs:List Value}{ns:List Nat}{led:Bool}{R:Result->Shared->Prop}(hh:A.in1.handled=none)(hT:ko vs ns)(hin:∀n∈ns,n<6)(hSI:S≠I)(hSl:S≠l)(hlI:l≠I) :
  ∀(k i:Nat) (s:Shared),ns.length - i=k->i≤ns.length->s.heap.IsListIter I l i->s.heap.IsList l vs.toArray->eE s.heap S led (lof (ns.take i)) ->
   (∀h' tk,(∀b o,b≠S->b≠I->s.heap.get? b=some o->h'.get? b=some o)->eE h' S led (lof ns)->R (.ok (.ret .none)) { s with heap:=h',toks:=tk }) ->
   codeAny (model prog w) A (.builtin "set.update.loop" ⟨[.ref S,.ref I],[]⟩) R s:=by
 intro k
 induction k with
 | zero =>
  intro i s hk hi hit hl hP hR
  have e:i=ns.length:=by omega
  subst e
  rw[List.take_length]at hP
  refine codeAny_builtin F.entry_set_update_loop ?_
  rw[Around.under_plainId F.plain_set_update_loop _]
  show wpAny _ A.in1 (pyNext (.ref I) >>= _) _ _ s
  refine wpAny_bind (wpAny_pyNext_list_end hh hit hl (by simp[hT.1]) fun h' eb=>?_)
  show wpAny _ A.in1 (ret Value.none) _ _ _
  refine wpAny_pure (hR h' s.toks (fun b o _ hb e=>eb b o hb e) ?_)
  obtain⟨hL,es,ep,ho,r⟩:=hP.is
  exact⟨hL,es,ep,eb S _ hSI ho,r⟩
 | succ k ih =>
  intro i s hk hi hit hl hP hR
  have hlt:i<ns.length:=by omega
  have hvl:i<vs.length:=by rw[hT.1];exact hlt
  have hvi:vs[i]?=some vs[i]:=List.getElem?_eq_getElem hvl
  obtain⟨tk,ev⟩:=hT.2 i _ hvi
  have en:ns.getD i 0=ns[i]:=by rw[List.getD_eq_getElem?_getD,List.getElem?_eq_getElem hlt];rfl
  rw[en]at ev
  refine codeAny_builtin F.entry_set_update_loop ?_
  rw[Around.under_plainId F.plain_set_update_loop _]
  show wpAny _ A.in1 (pyNext (.ref I) >>= _) _ _ s
  refine wpAny_bind (wpAny_pyNext_list_item hit hl (x:=Value.int ((ns[i]:Nat):Int) tk) (by rw[←ev];simp) fun h1 hit1 sb1=>?_)
  have k1:∀b o,b≠I->s.heap.get? b=some o->h1.get? b=some o:=fun b o hb e=>sb1.extBut b o hb e
  have hP1:eE h1 S led (lof (ns.take i)):=by
   obtain⟨hL,es,epo,ho,r⟩:=hP.is
   exact⟨hL,es,epo,k1 S _ hSI ho,r⟩
  show wpAny _ A.in1 (holding [Value.int ((ns[i]:Nat):Int) tk] (setAdd S (Value.int ((ns[i]:Nat):Int) tk)) >>= _) _ _ _
  refine wpAny_bind (wpAny_holding (iI (A:=A.in1) hP1 (hin _ (List.getElem_mem hlt)) fun b h2 tk2 sb2 hP2=>?_))
  have k2:∀b o,b≠S->h1.get? b=some o->h2.get? b=some o:=fun b o hb e=>sb2.extBut b o hb e
  have hP3:eE h2 S led (lof (ns.take (i+1))):=by rw[lz hlt];exact hP2
  refine wpAny_pure ⟨plainId_quiet F.plain_set_update_loop _,ih (i+1) { s with heap:=h2,toks:=tk2 } (by omega) (by omega) (hit1.extBut (fun b o hb e=>k2 b o hb e) (Ne.symm hSI)) ?_ hP3 ?_⟩
  ·exact(hl.extBut (fun b o hb e=>k1 b o hb e) hlI).extBut (fun b o hb e=>k2 b o hb e) (Ne.symm hSl)
  ·intro h3 tk3 kp hP4
   exact hR h3 tk3 (fun b o hb hb' e=>kp b o hb hb' (k2 b o hb (k1 b o hb' e))) hP4
theorem m4(a:Value){Q₁:Value->Shared->Prop}(h:Q₁ (.ref s.heap.objs.size) { s with heap:=s.heap.push { cls:=.type "set",dict:=none,data:=.set #[] 0 (.fresh 0 0 (br w)) } }) :
  codeAny (model prog w) A (.call (.builtin "set.__new__") ⟨[.type "set",a],[]⟩) (wants Q₁ E) s:=by
 refine codeAny_of_tree ?_
 show wpAny (model prog w) A.in1 (do checkBuiltinCall "set.__new__" ⟨[.type "set",a],[]⟩;again (.builtin "set.__new__" ⟨[.type "set",a],[]⟩)) _ _ _
 refine wpAny_bind (wpAny_of_eq (F.newCall_set_1 a) (wpAny_pure ⟨plainId_quiet F.plain_set_new _,?_⟩))
 refine codeAny_builtin F.entry_set_new ?_
 rw[Around.under_plainId F.plain_set_new _]
 unfold Builtin.«set.__new__»
 unfold Builtin.Frozenset.newClass
 have sub1:=sub_set_self
 obtain⟨hp,g,d,tk,os⟩:=s
 dsimp only
 wp_walk
 refine wpAny_askSetting (wpAny_pure ?_)
 dsimp only
 simp only[newObj]
 refine wpAny_bind (wpAny_alloc (wpAny_pure (wpAny_pure ?_)))
 exact h
set_option maxHeartbeats 4000000 in
theorem iS{l:Addr}{vs:List Value}{ns:List Nat}{Q:Value->Shared->Prop}(hh:A.handled=none)(hl:s.heap.IsList l vs.toArray)(hT:ko vs ns)(hin:∀n∈ns,n<6)
  (h:∀h' tk,(∀b o,b<s.heap.objs.size->s.heap.get? b=some o->h'.get? b=some o)->eE h' s.heap.objs.size (br w) (lof ns)->Q (.ref s.heap.objs.size) { s with heap:=h',toks:=tk }) :
  wpAny (model prog w) A (call (.type "set") [.ref l]) Q E s:=by
 obtain⟨c0,tl0,mro0⟩:=F.called_set.mro
 have made0:=F.called_set.made
 have sub0:=F.called_set.sub
 have nt0:=F.called_set.notType
 have cc0:=F.called_set.canCreate
 have tc0:=F.typeCall_set_1 (.ref l)
 refine wpAny_call (codeAny_of_tree ?_)
 show wpAny (model prog w) _ (callAny (.type "set") _) _ _ _
 refine wpAny_pure ⟨Code.quiet_builtin _ (by decide +kernel),codeAny_builtin F.entry_type_call ?_⟩
 rw[Around.under_plain (weight_type_call_type "set" [.ref l] []) rfl]
 repeat (any_goals (first | assumption | wp_step))
 refine codeAny_mono (m4 (.ref l) (E:=E) (Q₁:=fun obj s1=>obj=.ref s.heap.objs.size /\
  s1={ s with heap:=s.heap.push { cls:=.type "set",dict:=none,data:=.set #[] 0 (.fresh 0 0 (br w)) } }) ⟨rfl,rfl⟩) fun r s1 hr=>?_
 cases r with
 | error e=>exact hr
 | ok fl =>
  cases fl with
  | ret obj =>
   obtain⟨rfl,rfl⟩:=hr
   generalize hH:s.heap.push { cls:=.type "set",dict:=none,data:=.set #[] 0 (.fresh 0 0 (br w)) }=H1
   have hS:H1.get? s.heap.objs.size=some { cls:=.type "set",dict:=none,data:=.set #[] 0 (.fresh 0 0 (br w)) }:=by rw[←hH];exact Heap.get?_push_size _ rfl
   have old:∀b o,s.heap.get? b=some o->H1.get? b=some o:=fun b o e=>by rw[←hH];exact Heap.get?_push_of_some _ e
   have hsz:H1.objs.size=s.heap.objs.size+1:=by rw[←hH,Heap.size_push]
   have tyS:Shared.TypeIs { s with heap:=H1 } (.ref s.heap.objs.size) "set":=⟨_,hS,rfl⟩
   have li0:=F.called_set.init.lookup
   have bi0:=F.called_set.init.bind (.ref s.heap.objs.size)
   repeat (any_goals (first | assumption | wp_step))
   refine codeAny_mono (codeAny_call_builtin (R:=wants (fun r s2=>r=.none/\∃h' tk,s2={ s with heap:=h',toks:=tk }/\eE h' s.heap.objs.size (br w) (lof ns) /\
    (∀b o,b<s.heap.objs.size->s.heap.get? b=some o->h'.get? b=some o)) E) F.called_set.init.plain F.entry_set_init (check_set_init_1 tyS ?_)) fun r2 s2 hr2=>?_
   ·obtain⟨ol,hol,hcl,nl,hdl⟩:=hl
    obtain⟨oc,od,oda,osl⟩:=ol
    simp only at hcl hdl
    subst hcl;subst hdl
    have hol1:H1.get? l=some { cls:=.type "list",dict:=od,data:=.seq vs.toArray nl,slots:=osl }:=old _ _ hol
    have sls:=F.sub_list_set
    have slf:=F.sub_list_frozenset
    have nld:(Value.type "list"==Value.type "dict")=false:=by decide
    have hl1:H1.IsList l vs.toArray:=⟨_,hol1,rfl,nl,rfl⟩
    have llt:l<s.heap.objs.size:=Heap.lt_size hol
    unfold Builtin.«set.__init__» noKeywords Builtin.Frozenset.updateFrom
    generalize hPI:pyIter=PI
    wp_walk
    subst hPI
    refine wpAny_pyIter_list hl1 ?_
    refine wpAny_bind (wpAny_runValue ?_)
    generalize hH2:H1.push { cls:=.type "list_iterator",data:=.fields #[.ref l,.int 0 0] }=H2
    have old2:∀b o,H1.get? b=some o->H2.get? b=some o:=fun b o e=>by rw[←hH2];exact Heap.get?_push_of_some _ e
    refine zD (l:=l) (ns:=ns) (vs:=vs) (led:=br w) (by simp[hh]) hT hin (by show s.heap.objs.size≠H1.objs.size;rw[hsz];exact Nat.ne_of_lt (Nat.lt_succ_self _)) (Nat.ne_of_gt llt) (by show l≠H1.objs.size;rw[hsz];exact Nat.ne_of_lt (Nat.lt_succ_of_lt llt)) ns.length 0 _ (by omega) (Nat.zero_le _) ?_ ?_ ?_ ?_
    ·rw[←hH2]
     exact⟨_,Heap.get?_push_size _ rfl,rfl,rfl⟩
    ·exact⟨_,old2 _ _ hol1,rfl,nl,rfl⟩
    ·refine⟨hW,#[],0,old2 _ _ hS,[],rfl,rfl⟩
    ·intro h' tk kp hP
     show wpAny _ _ (pure ()) _ _ _
     refine wpAny_pure ?_
     show wpAny _ _ (ret Value.none) _ _ _
     refine wpAny_pure ⟨rfl,h',tk,rfl,hP,fun b o hb e=>?_⟩
     refine kp b o (Nat.ne_of_lt hb) ?_ (old2 _ _ (old _ _ e))
     show b≠H1.objs.size
     rw[hsz];exact Nat.ne_of_lt (Nat.lt_succ_of_lt hb)
   ·cases r2 with
    | error e=>exact hr2
    | ok f2 =>
     cases f2 with
     | ret r =>
      obtain⟨rfl,h',tk,rfl,hP,hk⟩:=hr2
      repeat (any_goals (first | assumption | wp_step))
      exact h _ _ hk hP
     | _=>exact hr2.elim
  | _=>exact hr.elim
theorem qP{r:Addr}{Q:Bool->Shared->Prop}(hT:s.TypeIs (.ref r) "set")(h:Q false s):wpAny (model prog w) A (Builtin.List.listLengthHint (.ref r)) Q E s:=by
 unfold Builtin.List.listLengthHint
 refine wpAny_bind (wpAny_specialOf hT PySem.F.slot_set_len.lookup ?_)
 generalize hid:("set.__len__":String)=id0
 wp_delta
 rw[show splitId id0=some ("set","__len__")from by subst hid;decide +kernel]
 subst hid
 refine wpAny_bind (wpAny_isInstance (T:="set") (b:=true) hT (by rw[isSubtype_type];kernel_rfl) (wpAny_ite_split (fun hab=>absurd hab (by decide)) (fun _=>wpAny_ite_split (fun _=>?_) (fun hab=>absurd (by decide +kernel) hab))))
 exact wpAny_bind (wpAny_typeOf hT (wpAny_pure h))
theorem tI{S:Addr}{L:List Nat}{es:Array (Int×Value)}{ep:Nat}(hL:L∈subs)(he:cS es L) :
  PySem.W.KdlSrc prog w "set" S S es.size (fun i v=>∃e,(walk w S es ep)[i]?=some e/\v=e.2) (fun h=>h.get? S=some { cls:=.type "set",dict:=none,data:=.set es ep (tb (br w) L) }) where
 type:=fun s ho=>⟨_,ho,rfl⟩
 there:=fun h ho=>⟨Heap.lt_size ho,Heap.lt_size ho⟩
 keep:=fun h h' ho k=>k S (.inl rfl) _ ho
 notList:=by decide
 notTuple:=by decide
 hint:=fun A E s Q ho q=>qP ⟨_,ho,rfl⟩ q
 iter:=fun A s hh ho=>⟨_,_,fun E Q q=>qX hL ho he q,oP hh (Nat.ne_of_lt (Heap.lt_size ho)) hL he,⟨by
  show mi _ _ _ (slotAt w L 0) 0 _ _
  have:slotAt w L 0=0:=by unfold slotAt;split<;>rfl
  rw[this]
  exact Heap.get?_push_size _ rfl,Heap.get?_push_of_some _ ho⟩⟩
theorem k8{S:Addr}{L:List Nat}{es:Array (Int×Value)}{ep:Nat}{Q:List Value->Shared->Prop}(hh:A.handled=none)(hL:L∈subs)(he:cS es L)(ho:s.heap.get? S=some { cls:=.type "set",dict:=none,data:=.set es ep (tb (br w) L) })
  (h:∀h' tk,s.heap.objs.size<h'.objs.size->(∀b o,s.heap.get? b=some o->h'.get? b=some o)->Q ((walk w S es ep).toList.map (·.2)) { s with heap:=h',toks:=tk }):wpAny (model prog w) A (collect (.ref S)) Q E s:=by
 have hlt:S<s.heap.objs.size:=Heap.lt_size ho
 have h6:=(iz L hL).2.1
 generalize hN:s.heap.objs.size=N
 have hNS:N≠S:=by rw[←hN];exact Nat.ne_of_gt hlt
 have key:∀R:Result->Shared->Prop,(∀h' tk acc c,(∀b o,s.heap.get? b=some o->h'.get? b=some o)->h'.get? N=some { cls:=.type "list",dict:=none,data:=.seq acc c,slots:=#[] } ->
   ItemsOf (fun i v=>∃e,(walk w S es ep)[i]?=some e/\v=e.2) acc es.size->R (.ok (.ret (.ref N))) { s with heap:=h',toks:=tk })->codeAny (model prog w) A (.builtin "proto.collect" ⟨[.ref S],[]⟩) R s:=by
  intro R hR
  refine codeAny_builtin PyProof.Rows.entry_proto_collect' ?_
  rw[Around.under_plainId PySem.F.plain_proto_collect _]
  show wpAny (model prog w) A.in1 (newList [] >>= fun l=>again (.builtin "list.__iadd__" ⟨[l,.ref S],[]⟩)) _ _ s
  refine wpAny_bind (wpAny_newObj_type ?_)
  refine wpAny_pure ⟨plainId_quiet PySem.F.plain_list_iadd _,codeAny_builtin PySem.F.entry_list_iadd ?_⟩
  rw[Around.under_plainId PySem.F.plain_list_iadd _]
  rw[hN]
  show wpAny (model prog w) A.in1 (Builtin.List.listExtendWith (.ref N) (.ref S) (.ref N)) _ _ _
  have hS:(s.heap.push { cls:=.type "list",data:=.seq ([]:List Value).toArray }).get? N=some { cls:=.type "list",data:=.seq #[] 0 }:=by rw[←hN];exact Heap.get?_push_size _ rfl
  refine PySem.W.kdl_extend (s:={ s with heap:=s.heap.push { cls:=.type "list",data:=.seq ([]:List Value).toArray } }) (tI (ep:=ep) hL he) (by simpa using hh) (Heap.get?_push_of_some _ ho) N hNS hNS (.ref N) 0 hS (fun h' tk acc c kp hS' hacc=>?_) (by rw[he.size,sizeLine_eq];omega)
  exact hR h' tk acc c (fun b o q=>kp b o (by rw[←hN];exact Nat.ne_of_lt (Heap.lt_size q)) (Heap.get?_push_of_some _ q)) hS' hacc
 unfold collect
 refine wpAny_bind (wpAny_runValue (key _ fun h' tk acc c kp hS' hacc=>?_))
 show wpAny (model prog w) A (load N >>= _) _ _ _
 refine wpAny_bind (wpAny_load hS' ?_)
 refine wpAny_pure ?_
 have e:acc.toList=(walk w S es ep).toList.map (·.2):=by
  apply List.ext_getElem?
  intro j
  by_cases hj:j<acc.size
  ·obtain⟨e,e1,e2⟩:=hacc.2 j _ (Array.getElem?_eq_getElem hj)
   rw[Array.getElem?_toList,Array.getElem?_eq_getElem hj,List.getElem?_map,Array.getElem?_toList,e1,e2]
   rfl
  ·have hz:(walk w S es ep).size≤j:=by rw[dZ];have:=hacc.1;omega
   rw[Array.getElem?_toList,Array.getElem?_eq_none (by omega),List.getElem?_map,Array.getElem?_toList,Array.getElem?_eq_none hz]
   rfl
 show Q acc.toList _
 rw[e]
 exact h h' tk (by rw[hN];exact Heap.lt_size hS') kp
theorem lP{S:Addr}{L:List Nat}{Q:Value->Shared->Prop}(hh:A.handled=none)(hP:eE s.heap S (br w) L)
  (h:∀(r:Addr) (h':Heap) (tk n:Nat) (out:List Value) (ms:List Int),s.heap.objs.size≤r->(∀b o,s.heap.get? b=some o->h'.get? b=some o)->h'.get? r=some (seqObj "list" out.toArray n)->IntsAre out ms->ms.Pairwise (·≤·)->ms.Perm (L.map fun(i:Nat)=>(i:Int))->Q (.ref r) { s with heap:=h',toks:=tk }) :
  wpAny (model prog w) A (call (.builtin "sorted") [.ref S]) Q E s:=by
 obtain⟨hL,es,ep,ho,he⟩:=hP.is
 have h6:=(iz L hL).2.1
 refine Calls.call_function_entry kind_sorted plain_sorted entry_sorted (args_sorted1 _) ?_
 unfold Builtin.«sorted»
 refine wpAny_bind (m:=checkCount "sorted" 1 1 _) (wpAny_pure ?_)
 refine wpAny_bind (k8 (by simpa using hh) hL he ho fun h1 tk1 hgt k1=>?_)
 have hil:∃ns:List Int,IntsAre ((walk w S es ep).toList.map (·.2)) ns/\ns.Perm (L.map fun(i:Nat)=>(i:Int)):=by
  have hp:=jb w S es ep
  obtain⟨tks,q1,q2⟩:=he
  have gen:∀(l:List (Int×Value)),(∀e∈l,∃x tk,e=ent x tk)->IntsAre (l.map (·.2)) (l.map (·.1)):=by
   intro l
   induction l with
   | nil=>intro _;exact .nil
   | cons e l ih =>
    intro hm
    obtain⟨x,tk,rfl⟩:=hm e List.mem_cons_self
    exact .cons _ _ (ih fun e he=>hm e (List.mem_cons_of_mem _ he))
  refine⟨(walk w S es ep).toList.map (·.1),gen _ fun e hm=>?_,?_⟩
  ·obtain⟨x,_,tk,e⟩:=cS.mem ⟨tks,q1,q2⟩ (hp.mem_iff.mp hm)
   exact⟨x,tk,e⟩
  ·refine(hp.map _).trans ?_
   rw[q2]
   have gen2:∀(L:List Nat) (tks:List Tok),tks.length=L.length->(List.zipWith ent L tks).map (·.1)=L.map fun(i:Nat)=>(i:Int):=by
    intro L
    induction L with
    | nil=>intro tks _;rfl
    | cons a L ih =>
     intro tks hl
     cases tks with
     | nil=>simp at hl
     | cons b tks=>simp only[List.zipWith_cons_cons,List.map_cons,ih tks (by simpa using hl)];rfl
   rw[gen2 L tks q1]
 obtain⟨ns,hi,hpm⟩:=hil
 generalize (walk w S es ep).toList.map (·.2)=vs at hi ⊢
 have hlen:vs.length=L.length:=by
  have a:=hpm.length_eq
  have b:=IntsAre.length hi
  rw[List.length_map]at a
  omega
 refine wpAny_bind (wpAny_newList ?_ (by rw[hlen,sizeLine_eq];omega))
 have hoL:(h1.push (seqObj "list" vs.toArray 0)).get? h1.objs.size=some (seqObj "list" vs.toArray 0):=Heap.get?_push_size _ rfl
 show wpAny (model prog w) _ _ _ _ { s with heap:=h1.push (seqObj "list" vs.toArray 0),toks:=tk1 }
 refine wpAny_bind (wpAny_holding (wpAny_call_entry slot_list_sort ⟨_,hoL,rfl⟩ entry_list_sort (list_sort_tree hoL hi (by omega) fun out ms a1 a2 a3=>⟨_,rfl,?_⟩) (args_list_sort _)))
 refine wpAny_pure ⟨_,rfl,?_⟩
 obtain⟨e,he2⟩:=sortedHeap_at (out:=out) hoL
 have hge:s.heap.objs.size≤h1.objs.size:=Nat.le_of_lt hgt
 refine h h1.objs.size (sortedHeap (h1.push (seqObj "list" vs.toArray 0)) h1.objs.size vs out) tk1 e out.toList ms hge (fun b o q=>?_) (by simpa using he2) a1 a3 (a2.trans hpm)
 rw[sortedHeap_old (Nat.ne_of_lt (Heap.lt_size (k1 b o q))) (by rw[Heap.size_push];exact Nat.lt_succ_of_lt (Heap.lt_size (k1 b o q)))]
 exact Heap.get?_push_of_some _ (k1 b o q)
end
end SI
namespace L2
open PySem PySem.Spec PyProof.Rows
variable {X:Cx}
def fM(w:World)(S:Addr)(L:List Nat):Heap->Prop:=fun h=>SI.eE h S (SI.br w) L
def uL(n:Nat):V:=.int (n:Int)
theorem fX:∀{ns:List Nat} {us:List Value},Vals (ns.map uL) us->SI.ko us ns
 | [],_,.nil=>⟨rfl,fun i v h=>by simp at h⟩
 | n::ns,_,.cons r t=>by
  obtain⟨tk,rfl⟩:=r
  obtain⟨a,b⟩:=fX t
  refine⟨by simp[a],fun i v h=>?_⟩
  cases i with
  | zero=>simp at h;exact⟨tk,h.symm⟩
  | succ i=>simpa using b i v (by simpa using h)
theorem i9(hc:X.calm=true):cb X (.type "set") (fun xs H Q=>∃(a:Addr) (ns:List Nat),xs=[.ref a]/\SqL X.K H a (ns.map uL)/\(∀n∈ns,n<6)/\∀S,H S=none->Q (.ref S) (upd H S (.ext (fM X.w S (SI.lof ns))))):=by
 intro pins s σ H xs us Q I r h
 obtain⟨a,ns,rfl,hq,hin,q⟩:=h
 obtain⟨u,rfl,ru⟩:=Vals.one r
 cases ru
 obtain⟨its,rv,p,hz⟩:=I.list hq
 refine SI.iS (ns:=ns) (I.ok.hd hc) p.isList (fX rv) hin fun h' tk kp P=>?_
 have hn:H s.heap.objs.size=none:=I.hok.fresh (Nat.le_refl _)
 refine⟨.ref s.heap.objs.size,_,I.laid (t':=tk) (o:=.ext (fM X.w s.heap.objs.size (SI.lof ns))) (fun b o e=>kp b o (Heap.lt_size e) e) (Nat.le_refl _) ?_,rfl,q _ hn⟩
 obtain⟨hL,es,ep,ho,he⟩:=P.is
 exact⟨P,⟨_,ho⟩,fun h1 h2 x k=>by obtain⟨a,es,ep,e,l⟩:=x.is;exact⟨a,es,ep,k _ e,l⟩⟩
theorem hU(hc:X.calm=true):cb X (.builtin "sorted") (fun xs H Q=>∃(S:Addr) (L:List Nat),xs=[.ref S]/\H S=some (.ext (fM X.w S L))/\∀(r:Addr) (ms:List Int),H r=none->ms.Pairwise (·≤·)->ms.Perm (L.map fun(i:Nat)=>(i:Int))->Q (.ref r) (upd H r (.lst (ms.map V.int)))):=by
 intro pins s σ H xs us Q I r h
 obtain⟨S,L,rfl,hS,q⟩:=h
 obtain⟨u,rfl,ru⟩:=Vals.one r
 cases ru
 obtain⟨P,_,_⟩:=(show bQ X.prog X.w H s.heap S (.ext (fM X.w S L))from I.hok S _ hS)
 have h6:=(SI.iz L P.is.1).2.1
 refine SI.lP (I.ok.hd hc) P fun r h' tk n out ms hge kp ho hi hs hp=>?_
 have hn:H r=none:=I.hok.fresh hge
 have hl:ms.length≤6:=by have:=hp.length_eq;rw[List.length_map]at this;omega
 refine⟨.ref r,_,I.laid (t':=tk) (o:=.lst (ms.map V.int)) (fun b o e=>kp b o e) hge ?_,rfl,q r ms hn hs hp⟩
 exact⟨by rw[List.length_map,sizeLine_eq];omega,out,n,gv hi,ho⟩
def kQ(K:PySem.W.Frag):V->List V->Hp->VK->Prop:=fun x vs H Q=>∃l b xs zs,x=.ref l/\vs=[.ref b]/\H l=some (.lst xs)/\SqT K H b zs/\xs.length+zs.length≤sizeLine/\Q .non (upd H l (.lst (xs++zs)))
end L2
namespace U
open PySem PySem.Spec PyProof.Rows L2
variable {B:Bs}{X:Cx}{e:Expr}{ta:TE'}{p p2 pos pos2:Pos}
def dg(n:Nat):PV:=.int (n:Int)
theorem fk{K:PySem.W.Frag}{H:Hp}:∀{ns:List Nat} {us:List V},RPs K H (ns.map dg) us->us=ns.map uL
 | [],us,h=>by simpa[RPs]using h
 | b::bs,us,h=>by
  simp only[List.map_cons,RPs,RP,dg]at h
  obtain⟨u,r,rfl,rfl,h2⟩:=h
  rw[fk h2];rfl
def mZ(x:PV)(H:PHp)(Q:VK'):Prop:=match x with
 | .ref a=>∃ns:List Nat,H a=some (.lst (ns.map dg))/\(∀n∈ns,n<6)/\∀(r:Addr) (ms:List Nat),H r=none->ms.Pairwise (·<·)->(∀x,x∈ms↔x∈ns)->Q (.ref r) (put H r (.lst (ms.map dg)))
 | _=>False
theorem D9{a:Addr}{H:PHp}{Q:VK'}:mZ (.ref a) H Q=∃ns:List Nat,H a=some (.lst (ns.map dg))/\(∀n∈ns,n<6)/\∀(r:Addr) (ms:List Nat),H r=none->ms.Pairwise (·<·)->(∀x,x∈ms↔x∈ns)->Q (.ref r) (put H r (.lst (ms.map dg))):=rfl
def ku(ta:TE'):TE':=fun σ H Q=>ta σ H fun x H1=>mZ x H1 Q
theorem iu{L:List Nat}:∀{ms:List Int},(∀x∈ms,∃n∈L,x=((n:Nat):Int))->ms=(ms.map Int.toNat).map fun(n:Nat)=>(n:Int)
 | [],_=>rfl
 | x::ms,h=>by
  obtain⟨n,_,rfl⟩:=h x List.mem_cons_self
  rw[List.map_cons,List.map_cons,← iu (ms:=ms) fun y hy=>h y (List.mem_cons_of_mem _ hy)]
  rfl
theorem iU(hc:X.calm=true)(hu:X.A.units+64<cLine)(hgl:Gl X "sorted")(hml:X.mg "sorted"=none)(hgs:Gl X "set")(hms:X.mg "set"=none)(bs:bootBuiltins "set"=some (.type "set"))(ha:PE' X B e ta)(bo:bootBuiltins "sorted"=some (.builtin "sorted"):=by decide +kernel)
  (he:starEach [.Call (.Name "set" p2) [e] [] pos2] X.env=[(false,eval (.Call (.Name "set" p2) [e] [] pos2) X.env)]:=by rfl) (he2:starEach [e] X.env=[(false,eval e X.env)]:=by rfl) :
  PE' X B (.Call (.Name "sorted" p) [.Call (.Name "set" p2) [e] [] pos2] [] pos) (ku ta) :=
 a8 (dR (hU hc) hgl hml bo (cD (dj (i9 hc) hgs hms bs (cD ha dB he2) (by decide) (by decide) he2 rfl) dB he) (by decide) (by decide) he rfl) fun σ H Q h=>by
  obtain⟨σ',H',Q',s,h,k⟩:=h
  refine⟨σ',H',_,s,h,fun x' H1' x H1 h1 rx s1 e1=>?_⟩
  cases x' with
  | ref a =>
   obtain⟨ns,ea,hin,q⟩:=h1
   simp only[RP]at rx
   subst rx
   obtain⟨us,eg,r2⟩:=s1.hp _ _ ea
   rw[fk r2]at eg
   refine⟨a,ns,rfl,.inl (.inl eg),hin,fun S hS=>⟨S,SI.lof ns,rfl,bB,fun r ms hr hs hp=>?_⟩⟩
   have s2:=s1.hid (o:=.ext (fM X.w S (SI.lof ns))) hS
   have e2:Ev H1' H1 H1' (upd H1 S (.ext (fM X.w S (SI.lof ns)))):=Ev.hid hS
   have nd:=(SI.iz _ (SI.iQ hin)).2.2.1
   have hm:∀x∈ms,∃n∈SI.lof ns,x=((n:Nat):Int):=fun x hx=>by
    obtain⟨n,h1,h2⟩:=List.mem_map.mp (hp.mem_iff.mp hx)
    exact⟨n,h1,h2.symm⟩
   have em:=iu hm
   generalize ms.map Int.toNat=ks at em
   subst em
   have pk:ks.Perm (SI.lof ns):=by
    have:=hp.map Int.toNat
    simpa[List.map_map,Function.comp_def]using this
   have ndk:ks.Nodup:=pk.nodup_iff.mpr nd
   have hsk:ks.Pairwise (·<·):=by
    rw[List.pairwise_map]at hs
    refine List.Pairwise.imp₂ (fun a b h1 h2=>?_) hs ndk
    have:a≠b:=h2
    omega
   have hq:=q r ks (s2.hp.free hr) hsk fun x=>pk.mem_iff.trans SI.jA
   have rr:RPs X.K (upd H1 S (.ext (fM X.w S (SI.lof ns)))) (ks.map dg) ((ks.map fun(n:Nat)=>(n:Int)).map V.int):=by
    have e3:ks.map dg=(ks.map fun(n:Nat)=>(n:Int)).map PV.int:=by rw[List.map_map];rfl
    rw[e3]
    exact iM
   exact k _ _ _ _ hq (by simp[RP]) (s2.new hr (lA hr rr)) ((e1.trans e2).trans (Ev.new hr))
  | _=>exact h1.elim
end U
namespace L2
open PySem PySem.Spec PyProof.Rows
variable {X:Cx}{tg:Expr}
theorem iw:MtM X "list.extend" (kQ X.K):=by
 intro pins s σ H x vs v us Q I rx rv h
 obtain⟨l,b,xs,zs,rfl,rfl,hH,hB,hz,q⟩:=h
 cases rx
 obtain⟨u,rfl,ru⟩:=rv.one
 cases ru
 obtain⟨z,its,n,r,hl,e⟩:=I.lstM hH
 obtain⟨is2,r2,⟨o2,ho2,hc2,n2,hd2⟩,hz2⟩:=I.tuple hB
 have hne:l≠b:=by
  rintro rfl
  rw[e]at ho2;cases ho2;exact absurd (show Value.type "list"=Value.type "tuple" from hc2) (by decide)
 have hlen2:=r2.length
 refine wpAny_call_entry F.slot_list_extend ⟨_,e,rfl⟩ F.entry_list_extend ?_ (F.args_list_extend_2 _ _)
 show wpAny _ _ (Builtin.List.listExtendWith (.ref l) (.ref b) .none) _ _ _
 unfold Builtin.List.listExtendWith
 refine wpAny_bind (wpAny_typeOf (T:="tuple") ⟨o2,ho2,hc2⟩ ?_)
 rw[if_pos (by rw[show(Value.type "tuple"==Value.type "tuple")=true from rfl];simp)]
 refine wpAny_bind (listItems_at ho2 hd2 ?_)
 refine wpAny_bind (listItems_at (xs:=its.toArray) (n:=n) e rfl ?_)
 have hsz:its.toArray.size+is2.toArray.size≤sizeLine:=by rw[List.size_toArray,List.size_toArray];omega
 rw[if_neg (by rw[kr hsz,Bool.and_false];exact Bool.false_ne_true)]
 refine wpAny_bind (listUpdate_at (xs:=its.toArray) (n:=n) e rfl ?_ (by rw[List.size_toArray];omega) (by show(its.toArray++is2.toArray).size≤_;rw[Array.size_append];omega))
 refine wpAny_pure ⟨_,rfl,?_⟩
 refine⟨.non,_,I.lset (its':=its++is2) hH e (by simp) (r.append r2) ?_,rfl,q⟩
 rw[List.length_append]
 omega
def Itd(lo:Int)(n:Nat):It:=⟨fun i _=>i<n,fun i H x H'=>H'=H/\x=.int (lo - i),fun i _=>n≤i⟩
theorem pd{P:Program}{w:World}{K:PySem.W.Frag}(it:Addr)(lo:Int)(n:Nat):Turn P w K tg (Itd lo n) [it] it (fun i h=>IsRangeIter h it (lo+(i:Nat)*(-1)) ((n:Int) - (i:Nat)) (-1)) where
 mem:=by simp
 obj:=fun i h st b hb=>by
  have q:b=it:=by simpa using hb
  subst q
  exact⟨_,st,fun v z=>by
   have z':Data.fields _=Data.cell v:=z
   cases z'⟩
 keep:=fun i h h' st k=>k it (by simp) _ st
 item:=by
  intro X hP hw hK hc i pins s σ H E I hf st hg
  subst hP hw hK
  obtain⟨f0,f1,f2,f3,f4,f5⟩:=hf it (by simp)
  have W:=Walks.range (prog:=X.prog) (w:=X.w) (I.ok.hd hc) it lo (-1) n
  refine W.item i s _ _ hg st fun v h' tk hv st' kk=>?_
  obtain⟨t,rfl⟩:=hv
  have J:Inv X pins σ H { s with heap:=h',toks:=tk }:=I.turned (fun b o hb e=>kk b o (by simpa using hb) e) f0 f1 f3 f4 f5
  refine⟨_,rfl,ki (s:={ s with heap:=h',toks:=tk }) (n:="range_iterator") st' rfl rfl (by decide) ⟨.int (lo - i),H,J,⟨t,?_⟩,⟨rfl,rfl⟩,st',fun b hb=>(hf b hb).1⟩⟩
  congr 1
  omega
 done:=by
  intro X hP hw hK hc i pins s σ H E I hf st hg
  subst hP hw hK
  obtain⟨f0,f1,f2,f3,f4,f5⟩:=hf it (by simp)
  exact wpAny_pyNext_range_end (I.ok.hd hc) st (by have q:n≤i:=hg;omega) fun h' eb=>⟨rfl,I.turned (t':=s.toks) (fun b o hb e=>eb b o hb e) f0 f1 f3 f4 f5⟩
 self:=fun _ _ _ _ _ st h=>wpAny_pyIter_rangeiter st h
def zZ(ta:TA):TI:=fun σ H R=>ta σ H fun vs H1=>∃j:Int,vs=[.int j,.int (-1),.int (-1)]/\-1≤j/\j<1000/\R (Itd j (j+1).toNat) H1
theorem iY{j:Int}(h:-1≤j):Builtin.Range.rangeSize j (-1) (-1)=j+1:=by
 unfold Builtin.Range.rangeSize
 rw[if_neg (by decide)]
 have e:-(-1:Int)=1:=rfl
 rw[e,Int.ediv_one]
 split<;>omega
theorem lZ{j:Int}(h:-1≤j)(h2:j<1000):Builtin.Range.small j (-1) (-1)=true:=by
 unfold Builtin.Range.small
 rw[iY h]
 simp only[Builtin.Range.rangeFitsLong,Bool.and_eq_true,Bool.or_eq_true,decide_eq_true_eq,beq_iff_eq]
 refine⟨⟨⟨⟨by omega,by decide⟩,by decide⟩,by omega⟩,.inr (by decide)⟩
theorem uq{a b c:Expr}{ta:TA}{p pos:Pos}(hg:Gl X "range")(hm:X.mg "range"=none)(ha:PA X [a,b,c] ta)(hs:starEach [a,b,c] X.env=[(false,eval a X.env),(false,eval b X.env),(false,eval c X.env)]:=by rfl)
  (hs2:starEach [b,c] X.env=[(false,eval b X.env),(false,eval c X.env)]:=by rfl):PI X tg (.Call (.Name "range" p) [a,b,c] [] pos) (zZ ta):=by
 intro pins s σ H R I h
 refine Call_ (dW I hg hm boot_range (PyProof.Rows.callWith_type1 (thn (ha pos pins s σ H _ I h) fun us s1 ⟨vs,H1,I1,r1,q1⟩=>?_) (by rw[hs,hs2]) (by rw[hs2];rfl)))
 obtain⟨j,e,q1,q2,q⟩:=q1
 subst e
 cases r1 with
 | cons r rr =>
  cases rr with
  | cons r' rr =>
   cases rr with
   | cons r'' rr =>
    cases rr
    obtain⟨t,rfl⟩:=r
    obtain⟨t',rfl⟩:=r'
    obtain⟨t'',rfl⟩:=r''
    refine call_range_3 (by decide) ?_ (Or.inl (PyProof.noPylong_of_log2 (by decide +kernel)))
    generalize hh:s1.heap.push { cls:=.type "range",data:=.fields #[.int j t,.int (-1) t',.int (-1) t''] }=h2
    have I2:Inv X pins σ H1 { s1 with heap:=h2 }:=by rw[←hh];exact I1.kept (t':=s1.toks) fun b o e=>Heap.get?_push_of_some _ e
    refine wpAny_pyIter_range (s:={ s1 with heap:=h2,toks:=s1.toks }) (by rw[←hh];exact IsRange.new ..) (lZ q1 q2) ?_
    refine⟨h2.objs.size,[h2.objs.size],_,_,H1,rfl,I2.kept (t':=s1.toks) fun b o e=>Heap.get?_push_of_some _ e,pd _ j (j+1).toNat,?_,fun b hb=>?_,q⟩
    ·show IsRangeIter _ _ (j+((0:Nat):Int)*(-1)) ((((j+1).toNat:Nat):Int) - ((0:Nat):Int)) (-1)
     have e1:j+((0:Nat):Int)*(-1)=j:=by simp
     have e2:(((j+1).toNat:Nat):Int) - ((0:Nat):Int)=Builtin.Range.rangeSize j (-1) (-1):=by rw[iY q1];omega
     rw[e1,e2]
     exact Heap.get?_push_size _ rfl
    ·have e:b=h2.objs.size:=by simpa using hb
     subst e
     exact I2.fpOk (Nat.le_refl _) (I2.hok.fresh (Nat.le_refl _))
end L2
namespace U
open PySem PySem.Spec PyProof.Rows L2
variable {B:Bs}{X:Cx}{a b c:Expr}{pos:Pos}
def pW:PV->List PV->PHp->VK'->Prop:=fun x vs H Q=>match x,vs with
 | .ref a,[.tup m]=>∃l,H a=some (.lst l)/\l.length+m.length≤sizeLine/\Q .non (put H a (.lst (l++m)))
 | _,_=>False
theorem Cz{a:Addr}{m:List PV}{H:PHp}{Q:VK'}:pW (.ref a) [.tup m] H Q=∃l,H a=some (.lst l)/\l.length+m.length≤sizeLine/\Q .non (put H a (.lst (l++m))):=rfl
theorem m8{K:PySem.W.Frag}:VM K B pW (kQ K):=by
 intro σ' σ H' H x' xs' x xs Q' Q s rx r h k
 unfold pW at h
 split at h
 ·rename_i a m
  obtain⟨l,e,hl,h⟩:=h
  obtain⟨us,q,r2⟩:=s.hp _ _ e
  simp only[RP,RPs]at rx r
  obtain⟨u,r1,rfl,⟨b,ws,rfl,hb,r3⟩,rfl⟩:=r
  subst rx
  exact⟨a,b,us,ws,rfl,rfl,q,hb,by rw[RPs.length _ r2,RPs.length _ r3];exact hl,k _ _ _ _ h (by simp[RP]) (s.wr e (wrL s.hp e (RPs.append _ r2 r3))) (Ev.wr e)⟩
 ·exact h.elim
def kx(lo:Int)(n:Nat):List PV:=(List.range n).map fun k=>PV.int (lo - (k:Nat))
theorem pj{K:PySem.W.Frag}{H1:Hp}{lo:Int}{n:Nat}:Walks K H1 (Itd lo n) ⟨kx lo n,fun _=>True⟩ where
 go:=fun H' H i _ _ _ hi=>by
  have q:i<n:=by simpa[kx]using hi
  exact q
 yld:=fun H' H i x H2 _ _ _ y=>by
  obtain⟨rfl,rfl⟩:=y
  refine⟨rfl,fun x' hx=>?_⟩
  unfold kx at hx
  rw[List.getElem?_map]at hx
  cases q:(List.range n)[i]? with
  | none=>rw[q]at hx;cases hx
  | some j =>
   rw[q]at hx
   have:j=i:=by
    have:=(List.getElem?_eq_some_iff.mp q).2
    simpa using this.symm
   subst this
   cases hx
   simp[RP]
 stop:=fun H' H i _ _ _ hi=>by
  have q:n≤i:=by simpa[kx]using hi
  exact q
def qh(vs:List PV)(H1:PHp)(R:It'->PHp->Prop):Prop:=match vs with
 | [.int j,.int e,.int f]=>e=-1/\f=-1/\-1≤j/\j<1000/\R ⟨kx j (j+1).toNat,fun _=>True⟩ H1
 | _=>False
theorem Cg{j e f:Int}{H1:PHp}{R:It'->PHp->Prop}:qh [.int j,.int e,.int f] H1 R=(e=-1/\f=-1/\-1≤j/\j<1000/\R ⟨kx j (j+1).toNat,fun _=>True⟩ H1):=rfl
def vm(t:TA'):TI':=fun σ H R=>t σ H fun vs H1=>qh vs H1 R
theorem oR{tg:Expr}{t:TA'}{p:Pos}(hg:Gl X "range")(hm:X.mg "range"=none)(ha:PA' X B [a,b,c] t)(hs:starEach [a,b,c] X.env=[(false,eval a X.env),(false,eval b X.env),(false,eval c X.env)]:=by rfl)
  (hs2:starEach [b,c] X.env=[(false,eval b X.env),(false,eval c X.env)]:=by rfl):PI' X B tg (.Call (.Name "range" p) [a,b,c] [] pos) (vm t) :=
 gw (uq hg hm ha hs hs2) fun σ H R ⟨σ',H',R',s,h,k⟩=>by
  refine⟨σ',H',_,s,h,fun vs' H1' vs H1 h1 r1 s1 e1=>?_⟩
  unfold qh at h1
  split at h1
  ·rename_i j e f
   obtain⟨rfl,rfl,h2,h3,q⟩:=h1
   simp only[RPs,RP]at r1
   obtain⟨u,r,rfl,rfl,u2,r2,rfl,rfl,u3,r3,rfl,rfl,rfl⟩:=r1
   exact⟨j,rfl,h2,h3,k _ _ _ _ q pj s1 e1⟩
  ·exact h1.elim
end U
namespace U
open PySem PySem.Spec PyProof.Rows L2
variable {B:Bs}{X:Cx}{a b:Expr}{ta tb:TE'}{pos:Pos}
def qe:R2':=fun x y H Q=>match x,y with
 | .ref a,.ref b=>∃l m,H a=some (.lst l)/\H b=some (.lst m)/\l.length+m.length≤sizeLine/\∀p,H p=none->Q (.ref p) (put H p (.lst (l++m)))
 | _,_=>False
theorem DT{a b:Addr}{H:PHp}{Q:VK'}:qe (.ref a) (.ref b) H Q=∃l m,H a=some (.lst l)/\H b=some (.lst m)/\l.length+m.length≤sizeLine/\∀p,H p=none->Q (.ref p) (put H p (.lst (l++m))):=rfl
theorem xM{K:PySem.W.Frag}:VR K B qe zy:=by
 intro σ' σ H' H x' y' x y Q' Q s rx ry h k
 unfold qe at h
 split at h
 ·rename_i a b
  obtain⟨l,m,e1,e2,hl,h⟩:=h
  simp only[RP]at rx ry
  subst rx;subst ry
  obtain⟨us,q1,r1⟩:=s.hp _ _ e1
  obtain⟨ws,q2,r2⟩:=s.hp _ _ e2
  refine⟨a,b,us,ws,rfl,rfl,q1,q2,by rw[RPs.length _ r1,RPs.length _ r2];exact hl,fun p hp=>?_⟩
  exact k _ _ _ _ (h p (s.hp.free hp)) (by simp[RP]) (s.new hp (lA hp (RPs.append _ r1 r2))) (Ev.new hp)
 ·exact h.elim
theorem cK(ha:PE' X B a ta)(hb:PE' X B b tb):PE' X B (.BinOp a .Add b pos) (uOp qe ta tb):=fE wb xM ha hb
theorem Ec{a:Addr}{H:PHp}{Q:VK'}:wU [.ref a] H Q=∃ns:List Int,H a=some (.lst (ns.map PV.int))/\ns.length<64/\∀(r:Addr) (ms:List Int),H r=none->ms.Perm ns->ms.Pairwise (·≤·)->Q (.ref r) (put H r (.lst (ms.map PV.int))):=rfl
theorem kS(ns:List Int)(lo hi:Option Int):∃ms:List Int,cN (ns.map PV.int) lo hi=ms.map PV.int/\ms.length≤ns.length:=by
 unfold cN
 refine⟨(ns.drop (HT.sIx (ns.map PV.int).length 0 lo)).take (HT.sIx (ns.map PV.int).length (ns.map PV.int).length hi - HT.sIx (ns.map PV.int).length 0 lo),?_,?_⟩
 ·rw[List.map_take,List.map_drop]
 ·rw[List.length_take,List.length_drop];omega
theorem d8{F:List Int}(h:∀x∈F,0≤x/\x<6):F.map PV.int=(F.map Int.toNat).map dg:=by
 rw[List.map_map]
 refine List.map_congr_left fun x hx=>?_
 have:=h x hx
 show PV.int x=PV.int ((x.toNat:Nat):Int)
 congr 1
 omega
end U
set_option Elab.async false
namespace L2
open PySem PySem.Spec PyProof.Rows
section
variable {κ:Type}[DecidableEq κ]
end
section
variable {P:Program}{w:World}{H:Hp}{h:Heap}{a:Addr}
end
section
variable {X:Cx}{pins:List (Addr×Obj)}{σ:St}{H:Hp}{s:Shared}{a:Addr}{y v:V}{u r:Value}{o:Option V}{A:Around}{E:Value->Shared->Prop}
end
section
variable {X:Cx}{pins:List (Addr×Obj)}{σ:St}{H:Hp}{s:Shared}{a:Addr}{kvs:List (Key×V)}{k:Key}{u:Value}{A:Around}{E:Value->Shared->Prop}
end
section
variable {X:Cx}{o i e value:Expr}{pos pos' tpos:Pos}{td ty tv:TE}
end
section
variable {X:Cx}{pos:Pos}
end
end L2
namespace SI
open PySem PyProof.Rows
section
variable {prog:Program}{w:World}{A:Around}{E:Value->Shared->Prop}{s:Shared}{T:String}{r d:Addr}{n:Nat}{P:Nat->Value->Prop}{OK:Heap->Prop}
end
end SI
namespace L2
open PySem PySem.Spec PyProof.Rows
variable {X:Cx}
end L2
namespace U
open PySem PySem.Spec PyProof.Rows L2
variable {B:Bs}{X:Cx}{a b o i value:Expr}{ta tb td ty:TE'}{pos pos':Pos}
def dkP(ks:List Int):PO:=.dK (ks.map fun n=>(Sum.inl n,PV.bl true))
def CF(y x:PV)(H:PHp)(Q:VK'):Prop:=match y,x with
 | .int n,.ref a=>∃ks,H a=some (dkP ks)/\Q (.bl (!decide (n∈ks))) H
 | _,_=>False
def Dk:List PV->PHp->VK'->Prop:=dc fun x H Q=>match x with
 | .ref a=>∃ks:List Int,H a=some (dkP ks)/\ks.length<64/\∀(r:Addr) (ms:List Int),H r=none->ms.Pairwise (·≤·)->ms.Perm ks->Q (.ref r) (put H r (.lst (ms.map PV.int)))
 | _=>False
end U
namespace U
open PySem PySem.Spec PyProof.Rows L2
theorem wH:∀x H Q,uF x [] H Q->match x with | .ref a=>∃l,H a=some (.lst l) | _=>False:=by
 intro x H Q h
 cases x with
 | ref a=>obtain⟨l,y,e,_⟩:=h;exact⟨l,e⟩
 | _=>exact h
end U
namespace L2
open PySem PySem.Spec PyProof.Rows
variable {X:Cx}
def yY(K:PySem.W.Frag):List V->Hp->VK->Prop:=fun xs H Q=>∃(p:Addr) (bs:List Bool),xs=[.ref p]/\SqL K H p (bs.map V.bl)/\Q (.bl (bs.any id)) H
theorem qI(hc:X.calm=true):cb X (.builtin "any") (yY X.K):=by
 intro pins s σ H xs us Q I r h
 obtain⟨a,bs,rfl,hq,q⟩:=h
 obtain⟨u,rfl,ru⟩:=Vals.one r
 cases ru
 obtain⟨its,rv,p,hz⟩:=I.list hq
 have e:=eJ rv
 subst e
 have hl:s.heap.IsList a (bs.map Value.bool).toArray:=p.isList
 have llt:a<s.heap.objs.size:=by obtain⟨o,e,_⟩:=hl;exact Heap.lt_size e
 have hne:a≠s.heap.objs.size:=Nat.ne_of_lt llt
 refine call_any_walk (wpAny_pyIter_list hl ?_)
 refine⟨s.heap.objs.size,[s.heap.objs.size,a],[s.heap.objs.size],(bs.map Value.bool).toArray.size,_,_,fun i=>bs.getD i false,rfl,Walks.list (by simpa using I.ok.hd hc) _ a hne _,⟨⟨_,Heap.get?_push_size _ rfl,rfl,rfl⟩,hl.at fun o e=>Heap.get?_push_of_some _ e⟩,?_,?_⟩
 ·intro i v s' Q' E' hv hQ
  have:v=Value.bool (bs.getD i false):=by
   have hv':(bs.map Value.bool)[i]?=some v:=by simpa using hv
   rw[List.getElem?_map]at hv'
   cases hb:bs[i]? with
   | none=>rw[hb]at hv';cases hv'
   | some b=>rw[hb]at hv';cases hv';rw[List.getD_eq_getElem?_getD,hb];rfl
  subst this
  exact wpAny_truthy_bool hQ
 ·intro h' tk kp
  have e:(List.range (bs.map Value.bool).toArray.size).any (fun i=>bs.getD i false)=bs.any id:=by
   have hs:(bs.map Value.bool).toArray.size=bs.length:=by simp
   rw[hs]
   rw[Bool.eq_iff_iff,List.any_eq_true,List.any_eq_true]
   constructor
   ·rintro⟨i,hi,h⟩
    have hi:=List.mem_range.mp hi
    rw[List.getD_eq_getElem?_getD,List.getElem?_eq_getElem hi]at h
    exact⟨_,List.getElem_mem hi,h⟩
   ·rintro⟨b,hb,h⟩
    obtain⟨i,hi,e⟩:=List.getElem_of_mem hb
    refine⟨i,List.mem_range.mpr hi,?_⟩
    rw[List.getD_eq_getElem?_getD,List.getElem?_eq_getElem hi,e]
    exact h
  rw[e]
  refine⟨.bl (bs.any id),H,I.kept (t':=tk) fun b o e=>?_,rfl,q⟩
  exact kp b o (by simpa using Nat.ne_of_lt (Heap.lt_size e)) (Heap.get?_push_of_some _ e)
theorem sU{ns:List Nat}(hin:∀n∈ns,n<6)(nd:ns.Nodup):(SI.lof ns).length=ns.length:=by
 have h1:=(SI.iz _ (SI.iQ hin)).2.2.1
 exact((List.perm_ext_iff_of_nodup h1 nd).mpr fun x=>SI.jA).length_eq
theorem oy:cb X (.builtin "len") (fun xs H Q=>∃(S:Addr) (L:List Nat),xs=[.ref S]/\H S=some (.ext (fM X.w S L))/\Q (.int L.length) H):=by
 intro pins s σ H xs us Q I r h
 obtain⟨S,L,rfl,hS,q⟩:=h
 obtain⟨u,rfl,ru⟩:=Vals.one r
 cases ru
 obtain⟨P,_,_⟩:=(show bQ X.prog X.w H s.heap S (.ext (fM X.w S L))from I.hok S _ hS)
 obtain⟨hL,es,ep,ho,he⟩:=P.is
 have h6:=(SI.iz L hL).2.1
 have hz:=he.size
 have hf:=(SI.kR L hL _ (SI.dv (SI.br X.w))).1
 rw[←hz]at hf q h6
 exact call_len_set ho ⟨rfl,rfl,rfl⟩ rfl hf (by omega) ⟨.int es.size,H,I.tok _,⟨_,rfl⟩,q⟩
end L2
namespace U
open PySem PySem.Spec PyProof.Rows L2
variable {B:Bs}{X:Cx}{a b e:Expr}{ta tb:TE'}{p p2 pos pos2:Pos}
def zv:List PV->PHp->VK'->Prop:=dc fun x H Q=>match x with
 | .ref a=>∃bs:List Bool,H a=some (.lst (bs.map PV.bl))/\Q (.bl (bs.any id)) H
 | _=>False
theorem Cq{a:Addr}{H:PHp}{Q:VK'}:zv [.ref a] H Q=∃bs:List Bool,H a=some (.lst (bs.map PV.bl))/\Q (.bl (bs.any id)) H:=rfl
theorem yN{K:PySem.W.Frag}:VC K B zv (yY K):=by
 intro σ' σ H' H xs' xs Q' Q s r h k
 obtain⟨x',x,rfl,rfl,rx,h⟩:=dc.ex h r
 cases x' with
 | ref a =>
  obtain⟨bs,ea,q⟩:=h
  simp only[RP]at rx
  subst rx
  obtain⟨us,e,r2⟩:=s.hp _ _ ea
  rw[f9 r2]at e
  exact⟨a,bs,rfl,.inl (.inl e),k _ _ _ _ q (by simp[RP]) s (Ev.refl _ _)⟩
 | _=>exact h.elim
def nV(x:PV)(H:PHp)(Q:VK'):Prop:=match x with
 | .ref a=>∃ns:List Nat,H a=some (.lst (ns.map dg))/\(∀n∈ns,n<6)/\ns.Nodup/\Q (.int ns.length) H
 | _=>False
theorem Cf{a:Addr}{H:PHp}{Q:VK'}:nV (.ref a) H Q=∃ns:List Nat,H a=some (.lst (ns.map dg))/\(∀n∈ns,n<6)/\ns.Nodup/\Q (.int ns.length) H:=rfl
def k6(ta:TE'):TE':=fun σ H Q=>ta σ H fun x H1=>nV x H1 Q
theorem gC(hc:X.calm=true)(hgl:Gl X "len")(hml:X.mg "len"=none)(hgs:Gl X "set")(hms:X.mg "set"=none)(bs:bootBuiltins "set"=some (.type "set"))(ha:PE' X B e ta)
  (he:starEach [.Call (.Name "set" p2) [e] [] pos2] X.env=[(false,eval (.Call (.Name "set" p2) [e] [] pos2) X.env)]:=by rfl) (he2:starEach [e] X.env=[(false,eval e X.env)]:=by rfl) :
  PE' X B (.Call (.Name "len" p) [.Call (.Name "set" p2) [e] [] pos2] [] pos) (k6 ta) :=
 a8 (dR oy hgl hml PySem.boot_len (cD (dj (i9 hc) hgs hms bs (cD ha dB he2) (by decide) (by decide) he2 rfl) dB he) (by decide) (by decide) he rfl) fun σ H Q h=>by
  obtain⟨σ',H',Q',s,h,k⟩:=h
  refine⟨σ',H',_,s,h,fun x' H1' x H1 h1 rx s1 e1=>?_⟩
  cases x' with
  | ref a =>
   obtain⟨ns,ea,hin,nd,q⟩:=h1
   simp only[RP]at rx
   subst rx
   obtain⟨us,eg,r2⟩:=s1.hp _ _ ea
   rw[fk r2]at eg
   refine⟨a,ns,rfl,.inl (.inl eg),hin,fun S hS=>⟨S,SI.lof ns,rfl,bB,?_⟩⟩
   rw[←sU hin nd]at q
   exact k _ _ _ _ q (by simp[RP]) (s1.hid hS) (e1.trans (Ev.hid hS))
  | _=>exact h1.elim
end U
namespace L2
open PySem PySem.Spec PyProof.Rows
variable {X:Cx}{pos:Pos}
def Co(K:PySem.W.Frag)(n:Nat)(t:TGs):TG:=fun v σ H Q=>∃a xs,v=.ref a/\SqL K H a xs/\xs.length=n/\t xs σ H Q
theorem xj{es:List Expr}{k:Nat}{t:TGs}{n:Nat}(hc:X.calm=true)(h:PGs X es t)(hn:(assignEach es X.env).length=n:=by rfl)(hst:(assignEach es X.env).findIdx? (·.1)=none:=by rfl) :
  PG X (.Tuple es k pos) (Co X.K n t):=by
 intro pins s σ H v u Q I r hw
 obtain⟨a,xs,e1,hq,hl,hw⟩:=hw
 subst e1
 cases r
 obtain⟨its,rv,p,hz⟩:=I.list hq
 rw[assign_Tuple]
 refine wpAny_bind (wpAny_standAt ?_)
 unfold unpack
 rw[hst,show(assignEach es X.env).length=its.toArray.size by simp[hn,← hl,rv.length]]
 refine wpAny_bind (wpAny_holding (PySem.W.kun_itemsOf (I.ok.hd hc) p.isList fun h' hx=>?_))
 have I1:Inv X pins σ H { s with heap:=h' }:=I.kept (t':=s.toks) fun b o e=>hx b o (Nat.ne_of_lt (Heap.lt_size e)) e
 exact h pins _ σ H xs _ Q I1 (by simpa using rv) hw
end L2
namespace U
open PySem PySem.Spec PyProof.Rows L2
variable {B:Bs}{X:Cx}{es:List Expr}{pos:Pos}
def zo(n:Nat)(t:gg):TG':=fun v σ H Q=>match v with
 | .ref a=>∃l,H a=some (.lst l)/\l.length=n/\t l σ H Q
 | _=>False
theorem BC{n:Nat}{t:gg}{a:Addr}{σ:St'}{H:PHp}{Q:St'->PHp->Prop}:zo n t (.ref a) σ H Q=∃l,H a=some (.lst l)/\l.length=n/\t l σ H Q:=rfl
theorem wI{k:Nat}{t:gg}{n:Nat}(hc:X.calm=true)(h:qd X B es t)(hn:(assignEach es X.env).length=n:=by rfl)(hst:(assignEach es X.env).findIdx? (·.1)=none:=by rfl):PG' X B (.Tuple es k pos) (zo n t) :=
 jQ (xj hc h hn hst) fun v σ H Q ⟨v',σ',H',Q',r,s,h,k⟩=>by
 cases v' with
 | ref a =>
  obtain⟨l,e,hl,h⟩:=h
  simp only[RP]at r
  subst r
  obtain⟨us,q,r⟩:=s.hp _ _ e
  exact⟨a,us,rfl,.inl (.inl q),by rw[RPs.length _ r];exact hl,l,σ',H',Q',r,s,h,k⟩
 | _=>exact h.elim
end U
namespace EN
open PySem
section
variable {prog:Program}{w:World}{A:Around}{E:Value->Shared->Prop}{s:Shared}
end
end EN
namespace L2
open PySem PySem.Spec PyProof.Rows
section
variable {X:Cx}
end
end L2
namespace U
open PySem PySem.Spec PyProof.Rows L2
variable {B:Bs}{X:Cx}{pos:Pos}
structure wN (K:PySem.W.Frag) (H1:Hp) (J:It) (J':It'):Prop where
 go:∀H' H i,Kp H1 H->HR K H' H->J'.ok H'->i<J'.items.length->J.go i H
 yld:∀H' H i x H2,Kp H1 H->HR K H' H->J'.ok H'->J.yld i H x H2->HR K H' H2/\Ev H' H H' H2/\∀x',J'.items[i]?=some x'->RP K H2 x' x
 stop:∀H' H,Kp H1 H->HR K H' H->J'.ok H'->J.stop J'.items.length H
def vt(K:PySem.W.Frag)(B:Bs)(t:TI'):TI:=fun σ H R=>∃σ' H' R',SR K B σ' H' σ H/\t σ' H' R'/\∀J' H1' J H1,R' J' H1'->wN K H1 J J'->SR K B σ' H1' σ H1->Ev H' H H1' H1->R J H1
abbrev PIH(X:Cx)(B:Bs)(tg e:Expr)(t:TI'):Prop:=PI X tg e (vt X.K B t)
theorem oS{K:PySem.W.Frag}{nt:Nat}{js:List Nat}{wi:TI'}{g:TG'}{tt:TT'}{te:TE'}{σ:L2.St}{H:Hp}{Q:VK}(h:low K B (iX nt js wi g tt te) σ H Q) :
  nA nt js (vt K B wi) (lowG K B g) (jS K B tt) (low K B te) σ H Q:=by
 obtain⟨σ',H',Q',s,h,k⟩:=h
 refine⟨σ',H',_,s,h,fun J' H1' J H1 h1 wk s1 e1 acc ha=>?_⟩
 have h1:=h1 acc (s1.hp.free ha)
 have sn:SR K B σ' (put H1' acc (.lst [])) σ (upd H1 acc (.lst [])):=s1.new ha ⟨[],bB,RPs.nil _⟩
 have en:Ev H1' H1 (put H1' acc (.lst [])) (upd H1 acc (.lst [])):=Ev.new ha
 refine⟨fun i m σ2 H2=>i≤J'.items.length/\m=J'.items.length - i/\∃σ2' H2',SR K B σ2' H2' σ2 H2/\SR K B σ' H2' σ H2/\Ev H1' H1 H2' H2/\cn J'.ok g tt te acc Q' (J'.items.drop i) σ2' H2',
  ⟨J'.items.length,Nat.zero_le _,by simp,_,_,sn.sig nt js,sn,en,h1⟩,?_⟩
 rintro i m σ2 H2 ⟨hi,rfl,σ2',H2',s2,so,e2,h2⟩
 have k2:=e2.kp s1.hp
 by_cases hlt:i<J'.items.length
 ·obtain⟨x',hx⟩:∃x',J'.items[i]?=some x':=⟨_,List.getElem?_eq_getElem hlt⟩
  have hd:J'.items.drop i=x'::J'.items.drop (i+1):=by
   rw[List.drop_eq_getElem_cons hlt]
   rw[List.getElem?_eq_getElem hlt]at hx
   cases hx;rfl
  rw[hd]at h2
  obtain⟨ok2,h2⟩:=(show J'.ok H2'/\_ from h2)
  refine .inr ⟨wk.go H2' H2 i k2 s2.hp ok2 hlt,fun x H3 y=>?_⟩
  obtain⟨hr3,ev3,rx⟩:=wk.yld H2' H2 i x H3 k2 s2.hp ok2 y
  have s2b:=s2.kp ev3 hr3
  have sob:=so.kp ev3 hr3
  have e2b:=e2.trans ev3
  refine⟨x',σ2',H2',_,rx x' hx,s2b,h2,fun σ3' H3' σ3 H3 h3 s3 e3=>⟨σ3',H3',_,s3,h3,fun b H4' H4 h4 s4 e4=>?_⟩⟩
  cases b with
  | false =>
   have e24:=e3.trans e4
   exact jB ⟨J'.items.length - (i+1),by omega,hlt,rfl,σ3',H4',s4,sob.kp e24 s4.hp,e2b.trans e24,h4⟩
  | true =>
   refine jI ⟨σ3',H4',_,s4,h4,fun y' H5' y H5 h5 ry5 s5 e5=>?_⟩
   obtain⟨l,a1,a2,h5⟩:=h5
   have e25:=(e3.trans e4).trans e5
   obtain⟨us,q1,q2⟩:=s5.hp _ _ a1
   have wr:=wrL s5.hp a1 (RPs.append _ q2 (RPs.cons _ ry5 (RPs.nil _)))
   refine⟨us,q1,by rw[RPs.length _ q2];exact a2,J'.items.length - (i+1),by omega,hlt,rfl,σ3',_,s5.wr a1 wr,(sob.kp e25 s5.hp).wr a1 wr,(e2b.trans e25).trans (Ev.wr a1),h5⟩
 ·have hi':i=J'.items.length:=by omega
  subst hi'
  rw[List.drop_length]at h2
  obtain⟨ok2,h2⟩:=(show J'.ok H2'/\_ from h2)
  exact .inl ⟨wk.stop H2' H2 k2 s2.hp ok2,k _ _ _ _ h2 (by simp[RP]) so (e1.trans e2)⟩
section
variable {N2:List Str}{nt:Nat}{js:List Nat}{scope sc:Scope}{cl:List (Str×Addr)}{elt iter tg:Expr}{ifs:List Expr}{wi:TI'}{g:TG'}{tt:TT'}{te:TE'}
theorem kg(O:cx X N2 nt js scope cl sc)(hc:X.calm=true)(hi:PIH X B tg iter wi)(b:∀(s0:Shared) (H0:Hp) (fp:List Addr) (ps:List (Addr×Obj)),lX (c7 X N2 scope cl s0 H0 fp ps) B tg ifs elt g tt te)
  (hs:∀x,foldedSetIterable iter X.env x=pure x:=by intro _;rfl):PE' X B (.ListComp elt [⟨tg,iter,ifs,0⟩] scope pos) (iX nt js wi g tt te) :=
 a8 (kj (g:=lowG X.K B g) (tt:=jS X.K B tt) (te:=low X.K B te) O hc hi (fun s0 H0 fp ps=>⟨(b s0 H0 fp ps).tgt,(b s0 H0 fp ps).tst,(b s0 H0 fp ps).elt⟩) hs) fun _ _ _ h=>oS h
end
def ze(l:List PV):List PV:=l.mapIdx fun i x=>.tup [.int (i:Nat),x]
def en1(vs:List PV)(H1:PHp)(R:It'->PHp->Prop):Prop:=match vs with
 | [.tup l]=>R ⟨ze l,fun _=>True⟩ H1
 | _=>False
theorem Df{l:List PV}{H:PHp}{R:It'->PHp->Prop}:en1 [.tup l] H R=R ⟨ze l,fun _=>True⟩ H:=rfl
def uEn(t:TA'):TI':=fun σ H R=>t σ H fun vs H1=>en1 vs H1 R
end U
namespace L2
open PySem PySem.Spec PyProof.Rows
section
variable {X:Cx}{pins:List (Addr×Obj)}{σ:St}{H:Hp}{s:Shared}{h':Heap}
theorem Inv.turnedN{t':Nat}{ch:List Addr}(I:Inv X pins σ H s)(k:∀b o,b∉ch->s.heap.get? b=some o->h'.get? b=some o)(hf:∀b∈ch,fK X pins H b):Inv X pins σ H { s with heap:=h',toks:=t' }:=by
 have nit:∀b u,H b=some u->b∉ch:=fun b u e z=>by rw[(hf b z).1]at e;cases e
 refine I.step (g':=s.gens) (d':=s.drawn) (ch:=ch) (fun b hb=>?_) (fun b o _ _ hc e _=>k b o hc e) (fun b o _ _ hc e _=>⟨o.slots,k b o hc e⟩) (fun _ _ _ _ n=>n)
  (fun b o hc e=>⟨o,k b o hc e⟩) (fun _ _ e=>e) (fun _ _ _ e=>e) (fun b ps e=>⟨#[],by rw[e];simp⟩) (fun m hm=>?_) (fun b u e=>?_) I.bare
 ·have f:=hf b hb
  exact⟨f.2.2.2.1,f.2.1,f.2.2.2.2.1,f.2.2.2.2.2⟩
 ·obtain⟨o,es,ep,ho,r⟩:=hm
  exact⟨o,es,ep,k _ o (fun z=>(hf _ z).2.1 rfl) ho,r⟩
 ·refine(I.hok b u e).stay (fun c z hc q2=>?_) (fun c q2=>q2) fun c ys q2=>q2
  have nn:c∉ch:=by
   rcases hc with z | z
   ·rw[z];exact nit b u e
   ·exact nit c _ z
  exact k c z nn q2
end
def Itz(K:PySem.W.Frag)(a b:Addr):It :=
 ⟨fun i H=>∃xs ys x y,SqL K H a xs/\SqL K H b ys/\xs[i]?=some x/\ys[i]?=some y,fun i H x H'=>∃T u v,H T=none/\x=.ref T/\H'=upd H T (.tup [u,v])/\∀xs ys,SqL K H a xs->SqL K H b ys->xs[i]?=some u/\ys[i]?=some v,
  fun i H=>∃xs ys,SqL K H a xs/\SqL K H b ys/\(xs[i]?=none∨ys[i]?=none)⟩
theorem i8:∀{xs:List V} {its:List Value} {i:Nat},Vals xs its->xs[i]?=none->its[i]?=none:=fun {xs its i} r h=>by
 have hl:=r.length
 rw[List.getElem?_eq_none_iff]at h ⊢
 omega
theorem pX{P:Program}{w:World}{K:PySem.W.Frag}{elts:List Expr}{k1}{tpos:Pos}(z TI TO i1 i2 a b:Addr)(D:ZipApart z TI TO i1 i2 a b):Turn P w K (.Tuple elts k1 tpos) (Itz K a b) [z,TI,TO,i1,i2] z
  (fun i h=>IsZip h z TI TO .none/\IsPair h TI (.ref i1) (.ref i2)/\(∃x y,IsPair h TO x y)/\h.IsListIter i1 a i/\h.IsListIter i2 b i) where
 mem:=by simp
 obj:=fun i h st c hc=>by
  obtain⟨hz,hI,⟨x,y,hO⟩,⟨o1,e1,c1,d1⟩,⟨o2,e2,c2,d2⟩⟩:=st
  simp only[List.mem_cons,List.not_mem_nil,or_false]at hc
  rcases hc with rfl | rfl | rfl | rfl | rfl
  ·exact⟨_,hz,fun v q=>by cases (show Data.fields _=Data.cell v from q)⟩
  ·exact⟨_,hI,fun v q=>by cases (show Data.seq _ _=Data.cell v from q)⟩
  ·exact⟨_,hO,fun v q=>by cases (show Data.seq _ _=Data.cell v from q)⟩
  ·exact⟨_,e1,fun v q=>by rw[d1]at q;cases q⟩
  ·exact⟨_,e2,fun v q=>by rw[d2]at q;cases q⟩
 keep:=fun i h h' st k=>by
  obtain⟨hz,hI,⟨x,y,hO⟩,h1,h2⟩:=st
  exact⟨k z (by simp) _ hz,k TI (by simp) _ hI,⟨x,y,k TO (by simp) _ hO⟩,h1.at fun o e=>k i1 (by simp) o e,h2.at fun o e=>k i2 (by simp) o e⟩
 item:=by
  intro X hP hw hK hc i pins s σ H E I hf st hg
  subst hP hw hK
  obtain⟨xs,ys,x,y,qx,qy,hx,hy⟩:=hg
  obtain⟨its,rv,p,_⟩:=I.list qx
  obtain⟨jts,rw',p',_⟩:=I.list qy
  obtain⟨u,hu,ru⟩:=rv.get hx
  obtain⟨v,hv,rv2⟩:=rw'.get hy
  obtain⟨hz,hI,⟨x0,y0,hO⟩,h1,h2⟩:=st
  refine wpAny_pyNext_zip_item D hz hI hO h1 h2 p.isList p'.isList (show its.toArray[i]?=some u by simpa using hu) (show jts.toArray[i]?=some v by simpa using hv) fun h' a1 a2 a3 a4 a5 a6 hk=>?_
  refine⟨_,rfl,wpAny_letOwnedTupleGo_zip (s:={ s with heap:=h' }) a1 fun h2 hz2 sb=>?_⟩
  have sb2:Heap.SameBut z h' h2:=sb
  have hzlt:z<s.heap.objs.size:=Heap.lt_size hz
  have hT2:h2.get? s.heap.objs.size=some { cls:=.type "tuple",data:=.seq #[u,v] }:=(sb2.2 _ (Nat.ne_of_gt hzlt)).trans a5
  have kk:∀c o,c∉[z,TO,i1,i2]->s.heap.get? c=some o->h2.get? c=some o:=fun c o n q=>by
   simp only[List.mem_cons,List.not_mem_nil,or_false,not_or]at n
   exact(sb2.2 c n.1).trans (hk c o n.1 n.2.1 n.2.2.1 n.2.2.2 q)
  have hn:H s.heap.objs.size=none:=I.hok.fresh (Nat.le_refl _)
  have hf4:∀c∈[z,TO,i1,i2],fK X pins H c:=fun c hc=>hf c (by simp only[List.mem_cons,List.not_mem_nil,or_false]at hc ⊢;rcases hc with e | e | e | e<;>simp[e])
  have nit:∀c v,H c=some v->c∉[z,TO,i1,i2]:=fun c v q zc=>by rw[(hf4 c zc).1]at q;cases q
  have ltT:∀{c o},s.heap.get? c=some o->c≠s.heap.objs.size:=fun e=>Nat.ne_of_lt (Heap.lt_size e)
  have up:∀{c o},c≠z->h'.get? c=some o->h2.get? c=some o:=fun {c o} n e=>(sb2.2 c n).trans e
  refine⟨.ref s.heap.objs.size,upd H s.heap.objs.size (.tup [x,y]),?_,rfl,⟨_,x,y,hn,rfl,rfl,fun zs ws q1 q2=>⟨by rw[I.list_inj q1 qx];exact hx,by rw[I.list_inj q2 qy];exact hy⟩⟩,?_,fun c hc=>?_⟩
  ·show Inv X pins σ _ { s with heap:=h2,toks:=s.toks }
   refine I.step (h':=h2) (g':=s.gens) (d':=s.drawn) (t':=s.toks) (ch:=[z,TO,i1,i2]) (fun c hc=>?_) (fun c o _ _ hc q _=>kk c o hc q) (fun c o _ _ hc q _=>⟨o.slots,kk c o hc q⟩)
    (fun c o _ q n=>by rw[aV (ltT q)];exact n) (fun c o hc q=>⟨o,kk c o hc q⟩) (fun c ys q=>by rw[aV (bb q hn)];exact q) (fun c o v q=>by rw[aV (bb q hn)];exact q)
    (fun c ps q=>⟨#[],by rw[aV (bb q hn),q];simp⟩) (fun m hm=>?_) (fun c v' q=>?_) I.bare
   ·have f:=hf4 c hc
    exact⟨f.2.2.2.1,f.2.1,f.2.2.2.2.1,f.2.2.2.2.2⟩
   ·obtain⟨o,es,ep,q,r⟩:=hm
    exact⟨o,es,ep,kk _ o (fun zc=>(hf4 _ zc).2.1 rfl) q,r⟩
   ·by_cases hb:c=s.heap.objs.size
    ·subst hb
     rw[bB]at q;cases q
     exact⟨by show 2≤sizeLine;rw[sizeLine_eq];omega,[u,v],.cons ru (.cons rv2 .nil),⟨_,hT2,rfl,_,rfl⟩⟩
    ·rw[aV hb]at q
     refine(I.hok c v' q).stay (fun d zd hd q2=>?_) (fun d q2=>by rw[aV (bb q2 hn)];exact q2) fun d ys q2=>by rw[aV (bb q2 hn)];exact q2
     have nn:d∉[z,TO,i1,i2]:=by
      rcases hd with e | e
      ·rw[e];exact nit c v' q
      ·exact nit d _ e
     exact kk d zd nn q2
  ·refine⟨hz2,?_,⟨_,_,up D.TOz a2⟩,a3.at fun o e=>up D.i1z e,a4.at fun o e=>up D.i2z e⟩
   exact up D.TIz (hk _ _ D.TIz D.TITO D.TIi1 D.TIi2 hI)
  ·have hc2:c<s.heap.objs.size:=by
    simp only[List.mem_cons,List.not_mem_nil,or_false]at hc
    rcases hc with rfl | rfl | rfl | rfl | rfl
    ·exact hzlt
    ·exact Heap.lt_size hI
    ·exact Heap.lt_size hO
    ·obtain⟨_,e,_⟩:=h1;exact Heap.lt_size e
    ·obtain⟨_,e,_⟩:=h2;exact Heap.lt_size e
   rw[aV (Nat.ne_of_lt hc2)]
   exact(hf c hc).1
 done:=by
  intro X hP hw hK hc i pins s σ H E I hf st hg
  subst hP hw hK
  obtain⟨xs,ys,qx,qy,hend⟩:=hg
  obtain⟨its,rv,p,_⟩:=I.list qx
  obtain⟨jts,rw',p',_⟩:=I.list qy
  obtain⟨hz,hI,⟨x0,y0,hO⟩,h1,h2⟩:=st
  have hend':its.toArray[i]?=none∨jts.toArray[i]?=none:=by
   rcases hend with e | e
   ·exact .inl (by simpa using i8 rv e)
   ·exact .inr (by simpa using i8 rw' e)
  refine wpAny_pyNext_zip_end (I.ok.hd hc) D hz hI hO h1 h2 p.isList p'.isList hend' fun h' hk=>⟨rfl,I.turnedN (t':=s.toks) (ch:=[z,TO,i1,i2]) (fun c o n q=>?_) fun c hc=>hf c ?_⟩
  ·simp only[List.mem_cons,List.not_mem_nil,or_false,not_or]at n
   exact hk c o n.1 n.2.1 n.2.2.1 n.2.2.2 q
  ·simp only[List.mem_cons,List.not_mem_nil,or_false]at hc ⊢
   rcases hc with e | e | e | e<;>simp[e]
 self:=fun _ _ _ _ _ st h=>wpAny_pyIter_zip st.1 h
section
variable {X:Cx}
def Dn(K:PySem.W.Frag)(ta:TA):TI:=fun σ H R=>ta σ H fun vs H1=>∃a b,vs=[.ref a,.ref b]/\(∃xs,SqL K H1 a xs)/\(∃ys,SqL K H1 b ys)/\R (Itz K a b) H1
theorem yS{elts:List Expr}{k1}{tpos:Pos}{c d:Expr}{ta:TA}{p pos:Pos}(hg:Gl X "zip")(hm:X.mg "zip"=none)(ha:PA X [c,d] ta)(hs:starEach [c,d] X.env=[(false,eval c X.env),(false,eval d X.env)]:=by rfl)(hs2:starEach [d] X.env=[(false,eval d X.env)]:=by rfl) :
  PI X (.Tuple elts k1 tpos) (.Call (.Name "zip" p) [c,d] [] pos) (Dn X.K ta):=by
 intro pins s σ H R I h
 refine Call_ (dW I hg hm PyProof.Rows.boot_zip (PyProof.Rows.callWith_type1 (thn (ha pos pins s σ H _ I h) fun us s1 ⟨vs,H1,I1,r1,q1⟩=>?_) (by rw[hs,hs2]) (by rw[hs2];rfl)))
 obtain⟨a,b,e,⟨xs,qx⟩,⟨ys,qy⟩,q⟩:=q1
 subst e
 cases r1 with
 | cons r rr =>
  cases rr with
  | cons r' rr =>
   cases rr
   cases r
   cases r'
   obtain⟨its,rv,p,_⟩:=I1.list qx
   obtain⟨jts,rw',p',_⟩:=I1.list qy
   obtain⟨_,ea,_⟩:=id p.isList
   obtain⟨_,eb,_⟩:=id p'.isList
   refine call_zip_2 p.isList p'.isList fun h1 hz hI hO l1 l2 hsz kk=>wpAny_pyIter_zip hz ?_
   refine⟨_,_,_,_,H1,rfl,I1.kept (t':=s1.toks) kk,pX _ _ _ _ _ a b (PyProof.Rows.zipApart_new (Heap.lt_size ea) (Heap.lt_size eb)),⟨hz,hI,⟨_,_,hO⟩,l1,l2⟩,fun c hc=>?_,q⟩
   have hb2:s1.heap.objs.size≤c:=by
    simp only[List.mem_cons,List.not_mem_nil,or_false]at hc
    rcases hc with rfl | rfl | rfl | rfl | rfl
    ·exact Nat.le_add_right _ _
    ·exact Nat.le_add_right _ _
    ·exact Nat.le_add_right _ _
    ·exact Nat.le_refl _
    ·exact Nat.le_add_right _ _
   exact I1.fpOk hb2 (I1.hok.fresh hb2)
end
end L2
namespace U
open PySem PySem.Spec PyProof.Rows L2
variable {B:Bs}{X:Cx}{pos:Pos}
def cT:List PV->List PV->List PV
 | x::xs,y::ys=>.tup [x,y]::cT xs ys
 | _,_=>[]
theorem dO:∀(l m:List PV),(cT l m).length=min l.length m.length
 | [],_=>by simp[cT]
 | _::_,[]=>by simp[cT]
 | x::l,y::m=>by simp[cT,dO l m]
theorem di:∀{l m:List PV} {i:Nat} {z:PV},(cT l m)[i]?=some z->∃x y,l[i]?=some x/\m[i]?=some y/\z=.tup [x,y]
 | [],_,i,z,h=>by simp[cT]at h
 | _::_,[],i,z,h=>by simp[cT]at h
 | x::l,y::m,0,z,h=>⟨x,y,rfl,rfl,by simpa[cT]using h.symm⟩
 | x::l,y::m,i+1,z,h=>by
  have:=di (l:=l) (m:=m) (i:=i) (z:=z) (by simpa[cT]using h)
  simpa using this
def zip2(vs:List PV)(H1:PHp)(R:It'->PHp->Prop):Prop:=match vs with
 | [.ref a,.ref b]=>∃l m,H1 a=some (.lst l)/\H1 b=some (.lst m)/\R ⟨cT l m,fun H=>H a=some (.lst l)/\H b=some (.lst m)⟩ H1
 | _=>False
theorem DL{a b:Addr}{H:PHp}{R:It'->PHp->Prop}:zip2 [.ref a,.ref b] H R=∃l m,H a=some (.lst l)/\H b=some (.lst m)/\R ⟨cT l m,fun H=>H a=some (.lst l)/\H b=some (.lst m)⟩ H:=rfl
def Aa(t:TA'):TI':=fun σ H R=>t σ H fun vs H1=>zip2 vs H1 R
theorem l0{elts:List Expr}{k1}{tpos:Pos}{c d:Expr}{t:TA'}{p:Pos}(hg:Gl X "zip")(hm:X.mg "zip"=none)(ha:PA' X B [c,d] t)(hs:starEach [c,d] X.env=[(false,eval c X.env),(false,eval d X.env)]:=by rfl)(hs2:starEach [d] X.env=[(false,eval d X.env)]:=by rfl) :
  PIH X B (.Tuple elts k1 tpos) (.Call (.Name "zip" p) [c,d] [] pos) (Aa t):=gw (yS hg hm ha hs hs2) fun σ H R ⟨σ',H',R',s,h,k⟩=>by
 refine⟨σ',H',_,s,h,fun vs' H1' vs H1 h1 r1 s1 e1=>?_⟩
 unfold zip2 at h1
 split at h1
 ·rename_i a b
  simp only[RPs,RP]at r1
  obtain⟨u,r,rfl,rfl,u2,r2,rfl,rfl,rfl⟩:=r1
  obtain⟨l,m,ha,hb,h1⟩:=h1
  obtain⟨us,q1,_⟩:=s1.hp _ _ ha
  obtain⟨ws,q2,_⟩:=s1.hp _ _ hb
  have lk:∀H2' H2,HR X.K H2' H2->H2' a=some (.lst l)/\H2' b=some (.lst m)->∃us ws,SqL X.K H2 a us/\SqL X.K H2 b ws/\RPs X.K H2 l us/\RPs X.K H2 m ws:=fun H2' H2 hr o=>by
   obtain⟨us,a1,a2⟩:=hr _ _ o.1
   obtain⟨ws,b1,b2⟩:=hr _ _ o.2
   exact⟨us,ws,SqL.of a1,SqL.of b1,a2,b2⟩
  refine⟨a,b,rfl,⟨us,SqL.of q1⟩,⟨ws,SqL.of q2⟩,k _ H1' _ H1 h1 ⟨fun H2' H2 i k2 hr o hi=>?_,fun H2' H2 i x H3 k2 hr o y=>?_,fun H2' H2 k2 hr o=>?_⟩ s1 e1⟩
  ·obtain⟨us,ws,c1,c2,d1,d2⟩:=lk _ _ hr o
   obtain⟨x,y,e1,e2,_⟩:=di (List.getElem?_eq_getElem hi)
   obtain⟨u,f1,_⟩:=RPs.get _ d1 e1
   obtain⟨v,f2,_⟩:=RPs.get _ d2 e2
   exact⟨us,ws,u,v,c1,c2,f1,f2⟩
  ·obtain⟨T,u,v,hT,rfl,rfl,hy⟩:=y
   obtain⟨us,ws,c1,c2,d1,d2⟩:=lk _ _ hr o
   refine⟨hr.hid hT,Ev.hid hT,fun x' hx=>?_⟩
   obtain⟨x,y,e1,e2,rfl⟩:=di hx
   obtain⟨u',f1,g1⟩:=RPs.get _ d1 e1
   obtain⟨v',f2,g2⟩:=RPs.get _ d2 e2
   obtain⟨y1,y2⟩:=hy us ws c1 c2
   rw[f1]at y1;cases y1
   rw[f2]at y2;cases y2
   exact oG hT (RPs.cons _ g1 (RPs.cons _ g2 (RPs.nil _)))
  ·obtain⟨us,ws,c1,c2,d1,d2⟩:=lk _ _ hr o
   refine⟨us,ws,c1,c2,?_⟩
   show us[(cT l m).length]?=none∨ws[(cT l m).length]?=none
   rw[dO,List.getElem?_eq_none_iff,List.getElem?_eq_none_iff,RPs.length _ d1,RPs.length _ d2]
   omega
 ·exact h1.elim
theorem nR{t:TS'}{iter tg:Expr}{body:List Stmt}{wi:TI'}{g:TG'}(hp:PassesOwn (model X.prog X.w) X.A X.env X.xe)(hc:X.calm=true)(hi:PIH X B tg iter wi)(hg:PG' X B tg g)(hb:ix X B body t)
  (hs:∀x,foldedSetIterable iter X.env x=pure x:=by intro _;rfl):PS' X B (.For tg iter body [] pos) (yO wi g t):=da (rF hp hc hi hg hb hs) fun D σ H ⟨σ',H',D',s,h,d⟩=>by
 refine⟨σ',H',_,s,h,fun J' H1' J H1 h1 wk s1 e1=>?_⟩
 refine⟨fun i m σ2 H2=>i≤J'.items.length/\m=J'.items.length - i/\∃σ2' H2',SR X.K B σ2' H2' σ2 H2/\Ev H1' H1 H2' H2/\dN J'.ok g t D' (J'.items.drop i) σ2' H2',⟨J'.items.length,Nat.zero_le _,by simp,σ',H1',s1,Ev.refl _ _,h1⟩,?_⟩
 rintro i m σ2 H2 ⟨hi,rfl,σ2',H2',s2,e2,h2⟩
 have k2:=e2.kp s1.hp
 by_cases hlt:i<J'.items.length
 ·obtain⟨x',hx⟩:∃x',J'.items[i]?=some x':=⟨_,List.getElem?_eq_getElem hlt⟩
  have hd:J'.items.drop i=x'::J'.items.drop (i+1):=by
   rw[List.drop_eq_getElem_cons hlt]
   rw[List.getElem?_eq_getElem hlt]at hx
   cases hx;rfl
  rw[hd]at h2
  obtain⟨ok2,h2⟩:=(show J'.ok H2'/\_ from h2)
  refine .inr ⟨wk.go H2' H2 i k2 s2.hp ok2 hlt,fun σ3 H3=>∃σ3' H3',SR X.K B σ3' H3' σ3 H3/\Ev H1' H1 H3' H3/\dN J'.ok g t D' (J'.items.drop (i+1)) σ3' H3',?_,fun x H3 y=>?_⟩
  ·rintro σ3 H3 ⟨σ3',H3',s3,e3,h3⟩
   exact⟨J'.items.length - (i+1),by omega,hlt,rfl,σ3',H3',s3,e3,h3⟩
  ·obtain⟨hr3,ev3,rx⟩:=wk.yld H2' H2 i x H3 k2 s2.hp ok2 y
   have s2b:=s2.kp ev3 hr3
   have e2b:=e2.trans ev3
   refine⟨x',σ2',H2',_,rx x' hx,s2b,h2,fun σ3' H3' σ3 H3 h3 s3 e3=>⟨σ3',H3',_,s3,h3,?_,?_,?_,?_⟩⟩
   ·intro σ4' H4' σ4 H4 h4 s4 e4
    exact⟨σ4',H4',s4,e2b.trans (e3.trans e4),h4⟩
   ·intro v' H4' v H4 h4 r4 s4 e4
    exact d.rt _ _ _ _ h4 r4 s4 (e1.trans (e2b.trans (e3.trans e4)))
   ·intro σ4' H4' σ4 H4 h4 s4 e4
    exact d.nx _ _ _ _ h4 s4 (e1.trans (e2b.trans (e3.trans e4)))
   ·intro σ4' H4' σ4 H4 h4 s4 e4
    exact⟨σ4',H4',s4,e2b.trans (e3.trans e4),h4⟩
 ·have hi':i=J'.items.length:=by omega
  subst hi'
  rw[List.drop_length]at h2
  obtain⟨ok2,h2⟩:=(show J'.ok H2'/\_ from h2)
  exact .inl ⟨wk.stop H2' H2 k2 s2.hp ok2,d.nx _ _ _ _ h2 s2 (e1.trans e2)⟩
end U
namespace TR
open PySem PyProof.Rows
section
variable {prog:Program}{w:World}{A:Around}{E:Value->Shared->Prop}{s:Shared}
theorem iW{Q:List Value->Shared->Prop}{r:Addr}{a b c:Int}{t u v:Tok}{n:Nat}(hh:A.handled=none)(hr:IsRange s.heap r a b c t u v)(hs:Builtin.Range.small a b c=true)(hn:Builtin.Range.rangeSize a b c=n)(hl:n≤2 ^ 24)
  (q:∀(h':Heap) tk acc,(∀b o,s.heap.get? b=some o->h'.get? b=some o)->ItemsOf (fun i v=>∃t,v=.int (a+i*c) t) acc n->Q acc.toList { s with heap:=h',toks:=tk }):wpAny (model prog w) A (collect (.ref r)) Q E s:=by
 unfold collect
 refine wpAny_bind (wpAny_runValue (codeAny_builtin F.entry_proto_collect ?go))
 case go =>
  rw[Around.under_plainId F.plain_proto_collect _]
  show wpAny _ A.in1 (newList [] >>= fun l=>again (.builtin "list.__iadd__" ⟨[l,.ref r],[]⟩)) _ _ s
  refine wpAny_bind (wpAny_newObj_type (wpAny_pure ⟨plainId_quiet F.plain_list_iadd _,codeAny_builtin F.entry_list_iadd ?_⟩))
  rw[Around.under_plainId F.plain_list_iadd _]
  show wpAny _ A.in1 (Builtin.List.listExtendWith (.ref s.heap.objs.size) (.ref r) (.ref s.heap.objs.size)) _ _ _
  have hS0:(s.heap.push { cls:=.type "list",data:=.seq ([]:List Value).toArray }).get? s.heap.objs.size=some { cls:=.type "list",data:=.seq #[] }:=Heap.get?_push_size _ rfl
  refine wpAny_extend_range (R:=fun r s'=>match r with | .ok (.ret v)=>wpAny (model prog w) A (match v with | .ref a=>(do match (← load a).data with | .seq xs _=>pure xs.toList | _=>unsupported "internal:collect") | _=>unsupported "internal:collect") Q E s' | .ok _=>False | .error e=>E e s') (s:={ s with heap:=s.heap.push { cls:=.type "list",data:=.seq ([]:List Value).toArray } }) hh (Heap.get?_push_of_some _ hr) hs hn hl _ _ 0 hS0 fun h' tk acc c' hk hS hacc=>?_
  show wpAny _ A (load s.heap.objs.size >>= _) _ _ _
  exact wpAny_bind (wpAny_load hS (wpAny_pure (q h' tk acc (fun b o e=>hk b o (Nat.ne_of_lt (Heap.lt_size e)) (Heap.get?_push_of_some _ e)) hacc)))
end
open AutoSeq1 (wpAny_loadPart')
theorem i3{r:Addr}{a b c:Int}{t u v:Tok}{n:Nat}(hs:Builtin.Range.small a b c=true)(hn:Builtin.Range.rangeSize a b c=n)(hl:n≤2 ^ 24) :
  Meets (Builtin.«tuple.__new__» ⟨[.type "tuple",.ref r],[]⟩)
   (fun A R s=>A.handled=none/\IsRange s.heap r a b c t u v/\∀(h':Heap) tk acc,(∀b o,s.heap.get? b=some o->h'.get? b=some o)->ItemsOf (fun i v=>∃t,v=.int (a+i*c) t) acc n ->
    R (.ok (.ret (.ref h'.objs.size))) { s with heap:=h'.push { cls:=.type "tuple",data:=.seq acc },toks:=tk }) :=
 .of_wp fun prog w A R s h=>by
  obtain⟨hh,hr,h⟩:=h
  have hsub:=sub_tuple_self
  have hinit:=init_tuple_lookup
  have hmh:=madeHere_tuple
  have hT:s.TypeIs (.ref r) "range":=⟨_,hr,rfl⟩
  have hh1:A.in1.handled=none:=hh
  wp_walk using wpAny_typeOf hT,iW hh1 hr hs hn hl
  intro h' tk acc hk hacc
  show wpAny _ _ (Builtin.Tuple.tupleExact acc.toList.toArray >>= fun v=>ret v) _ _ _
  unfold Builtin.Tuple.tupleExact
  have e:acc.toList.toArray=acc:=by simp
  rw[e]
  refine wpAny_bind (wpAny_newObj_type (wpAny_pure ⟨_,rfl,h h' tk acc hk hacc⟩) (show acc.size≤sizeLine by rw[hacc.1,sizeLine_eq];omega))
section
variable {prog:Program}{w:World}{A:Around}{E:Value->Shared->Prop}{s:Shared}
end
end TR
namespace L2
open PySem PySem.Spec PyProof.Rows
variable {X:Cx}{a:Expr}{ta:TE}{p p2 pos pos2:Pos}
end L2
namespace U
open PySem PySem.Spec PyProof.Rows L2
variable {B:Bs}{X:Cx}{a:Expr}{ta:TE'}{p p2 pos pos2:Pos}
def Ar(x:PV)(H:PHp)(Q:VK'):Prop:=match x with
 | .int i=>0≤i/\i<1000/\Q (.tup (cU 0 i.toNat)) H
 | _=>False
theorem B8{i:Int}{H:PHp}{Q:VK'}:Ar (.int i) H Q=(0≤i/\i<1000/\Q (.tup (cU 0 i.toNat)) H):=rfl
def Bd(ta:TE'):TE':=fun σ H Q=>ta σ H fun x H1=>Ar x H1 Q
end U
namespace RT
open PySem PyProof.Rows
theorem ny:Manifest.owners.lookup (String.ofList ['d','e','s','r','e','v','e','r'].reverse)=some Manifest.sig_reversed:=by kernel_rfl
theorem ir:Slot "reversed" "__next__" "reversed.__next__" :=
 .of (owner:="reversed") (n:="__next__") (by rw[typeLookup_type,builtinLookup_eq_fast];kernel_rfl) (by decide +kernel) (by decide +kernel) (by decide +kernel) (by first | exact .inl (by decide +kernel) | exact .inr (by decide +kernel)) (by rw[isSubtype_type];kernel_rfl)
theorem mO:entryFor table "reversed.__next__"=some Builtin.«reversed.__next__»:=entryFor_of_tree (by kernel_rfl)
theorem pF(a:Value):argsOk "reversed.__next__" ⟨[a],[]⟩:=by
 unfold argsOk
 rw[signature?_of (id:="reversed.__next__") (n:=['_','_','t','x','e','n','_','_']) (o:=['d','e','s','r','e','v','e','r']) (by kernel_rfl) ny]
 kernel_rfl
theorem rA:Slot "reversed" "__iter__" "reversed.__iter__" :=
 .of (owner:="reversed") (n:="__iter__") (by rw[typeLookup_type,builtinLookup_eq_fast];kernel_rfl) (by decide +kernel) (by decide +kernel) (by decide +kernel) (by first | exact .inl (by decide +kernel) | exact .inr (by decide +kernel)) (by rw[isSubtype_type];kernel_rfl)
theorem yk(a:Value):argsOk "reversed.__iter__" ⟨[a],[]⟩:=by
 unfold argsOk
 rw[signature?_of (id:="reversed.__iter__") (n:=['_','_','r','e','t','i','_','_']) (o:=['d','e','s','r','e','v','e','r']) (by kernel_rfl) ny]
 kernel_rfl
theorem we:typeLookup (.type "tuple") "__reversed__"=pure none:=by rw[typeLookup_type,builtinLookup_eq_fast];kernel_rfl
theorem tE:entryFor table "reversed.__iter__"=some Builtin.«dict_keyiterator.__iter__» :=
 entryFor_alias (id':="dict_keyiterator.__iter__") (by kernel_rfl) (by first | rfl | decide +kernel |(unfold String.splitOn;simp +decide [String.splitOnAux])) (by decide +kernel) (by kernel_rfl)
theorem n4:Slot "reversed" "__init__" "object.__init__" :=
 .of (owner:="object") (n:="__init__") (by rw[typeLookup_type,builtinLookup_eq_fast];kernel_rfl) (by decide +kernel) (by decide +kernel) (by decide +kernel) (by first | exact .inl (by decide +kernel) | exact .inr (by decide +kernel)) (by rw[isSubtype_type];kernel_rfl)
theorem called:TypeCalled "reversed" "reversed.__new__" "object.__init__" :=
 ⟨by decide +kernel,by decide +kernel,⟨_,_,F.mro_reversed⟩,F.made_reversed,by decide +kernel,by rw[isSubtype_type];kernel_rfl,n4⟩
def rv(t:Addr)(i:Int):Obj:={ cls:=.type "reversed",data:=.fields #[.ref t,rawInt i] }
theorem tV:isSubtype (.type "tuple") (.type "dict")=pure false:=by rw[isSubtype_type];kernel_rfl
theorem i3(t:Addr)(its:Array Value):Meets (Builtin.«reversed.__new__» ⟨[.type "reversed",.ref t],[]⟩) (fun A R s=>IsTup s.heap t its/\(its.size:Int)<2 ^ 63/\R (.ok (.ret (.ref s.heap.objs.size))) { s with heap:=s.heap.push (rv t ((its.size:Int) - 1)),toks:=s.toks+1+1 }) :=
 .of_wp fun prog w A R s h=>by
  obtain⟨ht,hz,h⟩:=h
  unfold Builtin.«reversed.__new__»
  refine wpAny_bind (wpAny_of_eq (newClass_reversed _) ?_)
  try dsimp only
  refine wpAny_bind (wpAny_of_eq (a:=()) (by first | rfl | kernel_rfl) ?_)
  refine wpAny_bind (wpAny_of_eq (a:=()) (by first | rfl | kernel_rfl) ?_)
  try dsimp only
  refine wpAny_bind (wpAny_specialOf ht.typeIs we ?_)
  try dsimp only
  refine wpAny_bind ?_
  wp_delta
  refine wpAny_bind (wpAny_isInstance (T:="tuple") (b:=false) ht.typeIs tV ?_)
  rw[if_neg (by decide)]
  refine wpAny_bind (wpAny_specialOf ht.typeIs slot_tuple_getitem.lookup ?_)
  dsimp only
  rw[if_pos (by decide +kernel)]
  refine wpAny_pure ?_
  rw[if_neg (by decide)]
  refine wpAny_bind (len_tuple ht hz ?_)
  refine wpAny_bind (m:=asInt? _) (wpAny_pure ?_)
  dsimp only
  refine wpAny_bind ?_
  unfold Builtin.SmallTypes.newRecord
  exact wpAny_newObj_type (wpAny_pure ⟨_,rfl,h⟩)
def gM(h:Heap)(a t:Addr)(i:Int):Prop:=∃o,h.get? a=some o/\o.cls=.type "reversed"/\o.data=.fields #[.ref t,rawInt i]
theorem gM.at{h h':Heap}{a t:Addr}{i:Int}(x:gM h a t i)(e:∀o,h.get? a=some o->h'.get? a=some o):gM h' a t i:=let ⟨o,ho,r⟩:=x;⟨o,e _ ho,r⟩
section
variable {prog:Program}{w:World}{A:Around}{E:Value->Shared->Prop}{s:Shared}{it t:Addr}{its:Array Value}
theorem gM.ty{i:Int}(x:gM s.heap it t i):s.TypeIs (.ref it) "reversed":=let ⟨o,ho,hc,_⟩:=x;⟨o,ho,hc⟩
theorem rn{Q:Value->Shared->Prop}(ht:IsTup s.heap t its)(hz:(its.size:Int)<2 ^ 63)(h:Q (.ref s.heap.objs.size) { s with heap:=s.heap.push (rv t ((its.size:Int) - 1)),toks:=s.toks+1+1 }) :
  wpAny (model prog w) A (call (.type "reversed") [.ref t]) Q E s :=
 callType_new called (by decide) (F.typeCall_reversed_1 _) (F.newCall_reversed_1 _) (fun obj=>F.args_object_init_2 obj _) F.entry_reversed_new (i3 t its) ⟨ht,hz,⟨⟨_,Heap.get?_push_size _ rfl,rfl⟩,h⟩⟩
theorem wu{i n:Nat}(h:i<n):seqIndex? ((i:Nat):Int) n=some i:=by
 unfold seqIndex?
 simp only[show ¬(((i:Nat):Int)<0) by omega,if_false]
 rw[if_pos (by simp;omega),Int.toNat_natCast]
theorem next_item{i:Nat}{x:Value}{Q:Option Value->Shared->Prop}(hit:gM s.heap it t ((i:Nat):Int))(ht:IsTup s.heap t its)(hx:its[i]?=some x)(hz:its.size<2 ^ 62)
  (hQ:∀h' tk,gM h' it t (((i:Nat):Int) - 1)->Heap.SameBut it s.heap h'->Q (some x) { s with heap:=h',toks:=tk }):wpAny (model prog w) A (pyNext (.ref it)) Q E s:=by
 obtain⟨o,ho,hc,hd⟩:=id hit
 have hi:i<its.size:=by
  rcases Nat.lt_or_ge i its.size with q | q
  ·exact q
  ·rw[Array.getElem?_eq_none q]at hx;cases hx
 unfold pyNext
 refine wpAny_bind (wpAny_attempt (wpAny_callSpecial?_slot (name:=Str.ofString "__next__") hit.ty ir (wpAny_call_entry ir hit.ty mO ?_ (pF _))))
 unfold Builtin.«reversed.__next__»
 refine wpAny_bind (wpAny_of_eq (a:=(Value.ref it,[])) rfl ?_)
 dsimp only
 refine wpAny_bind (wpAny_field ho hd (x:=.ref t) rfl ?_)
 refine wpAny_bind (wpAny_field ho hd (x:=rawInt ((i:Nat):Int)) rfl ?_)
 show wpAny _ _ (if ((i:Nat):Int)<0 then _ else _) _ _ s
 rw[if_neg (by omega)]
 refine wpAny_bind (wpAny_specialOf ht.typeIs slot_tuple_getitem.lookup ?_)
 rw[if_neg (by decide)]
 refine wpAny_bind (wpAny_mkInt ?_)
 refine wpAny_bind (wpAny_attempt (getItem_tuple (j:=i) (x:=x) (s:={ s with toks:=s.toks+1 }) ht (by omega) (by omega) (wu hi) hx ?_))
 dsimp only
 refine wpAny_bind (wpAny_field ho hd (x:=rawInt ((i:Nat):Int)) rfl ?_)
 refine wpAny_bind (wpAny_setField (s:={ s with toks:=s.toks+1 }) ho hd (by simp) ?_)
 refine wpAny_pure ⟨x,rfl,wpAny_pure (hQ _ _ ?_ (Heap.SameBut.update ..))⟩
 refine⟨_,Heap.get?_update_self _ ho (Obj.isFreed_of_fields (Obj.data_mapFields hd _)),(Obj.cls_mapFields ..).trans hc,?_⟩
 rw[Obj.data_mapFields hd]
 simp
theorem next_end{Q:Option Value->Shared->Prop}(hA:A.handled=none)(hit:gM s.heap it t (-1))(hQ:∀h',Heap.ExtBut it s.heap h'->Q none { s with heap:=h' }):wpAny (model prog w) A (pyNext (.ref it)) Q E s:=by
 obtain⟨o,ho,hc,hd⟩:=id hit
 unfold pyNext
 refine wpAny_bind (wpAny_attempt (wpAny_callSpecial?_slot (name:=Str.ofString "__next__") hit.ty ir (wpAny_call_entry ir hit.ty mO ?_ (pF _))))
 unfold Builtin.«reversed.__next__»
 refine wpAny_bind (wpAny_of_eq (a:=(Value.ref it,[])) rfl ?_)
 dsimp only
 refine wpAny_bind (wpAny_field ho hd (x:=.ref t) rfl ?_)
 refine wpAny_bind (wpAny_field ho hd (x:=rawInt (-1)) rfl ?_)
 show wpAny _ _ (if (-1:Int)<0 then _ else _) _ _ s
 rw[if_pos (by decide)]
 refine wpAny_bind (wpAny_rule ?_)
 refine wpAny_bind ?_
 wp_delta
 refine wpAny_bind (wpAny_setField ho hd (by simp) ?_)
 have d2:=Obj.data_mapFields hd fun vs=>vs.set! 1 (rawInt (-1))
 have o2:=Heap.get?_update_self _ ho (Obj.isFreed_of_fields d2)
 refine wpAny_setField (s:={ s with heap:=s.heap.update it _ }) o2 d2 (by simp) ?_
 show wpAny _ _ (Builtin.SmallTypes.stopIteration >>= _) _ _ _
 refine wpAny_bind ?_
 show wpAny _ _ (newExc (Value.type "StopIteration") [] >>= _) _ _ _
 refine wpAny_bind (?_)
 simp only[newTuple,newExc]
 refine wpAny_bind (wpAny_newObj_type (?_) (by size_fits))
 refine wpAny_bind (m:=firstArgMember _ _) (wpAny_of_eq (a:=Value.none) (by first | rfl |(simp only[firstArgMember];rfl)) (?_))
 refine wpAny_newObj_type (?_) (by size_fits)
 simp only[raiseNew,bind_assoc]
 refine wpAny_bind (wpAny_handled (?_))
 first | rw[show A.in1.handled=none from hA] | rw[hA]
 refine wpAny_bind (wpAny_pure (wpAny_throw (?_)))
 refine wpAny_bind (wpAny_isInstance (T:="StopIteration") (b:=true) ⟨_,Heap.get?_push_size _ rfl,rfl⟩ isSubtype_stop ?_)
 exact wpAny_pure (hQ _ ((((Heap.SameBut.update ..).trans (Heap.SameBut.update ..)).extBut.push _).push _))
theorem gm{i:Int}{Q:Value->Shared->Prop}(hit:gM s.heap it t i)(h:Q (.ref it) s):wpAny (model prog w) A (pyIter (.ref it)) Q E s:=by
 refine wpAny_pyIter_slot hit.ty rA (wpAny_call_entry rA hit.ty tE ?_ (yk _))
 show wpAny _ _ (ret (Value.ref it)) _ _ s
 exact wpAny_pure ⟨_,rfl,"reversed",_,hit.ty,ir.lookup,h⟩
end
theorem walks{prog:Program}{w:World}{A:Around}(hA:A.handled=none)(it t:Addr)(ne:t≠it)(its:Array Value)(hz:its.size<2 ^ 62) :
  Walks prog w A it [it,t] [it] its.size (fun i v=>its[its.size - 1 - i]?=some v) (fun i h=>i≤its.size/\gM h it t ((its.size:Int) - 1 - (i:Int))/\h.IsTuple t its) where
 sub:=fun b hb=>by simp at hb;simp[hb]
 frame:=fun _ _ _ x hk=>⟨x.1,x.2.1.at fun o e=>hk it (by simp) o e,x.2.2.at fun o e=>hk t (by simp) o e⟩
 item:=fun i s Q E hi x hQ=>by
  have e:(its.size:Int) - 1 - (i:Int)=((its.size - 1 - i:Nat):Int):=by omega
  have hit:=x.2.1
  rw[e]at hit
  have hx:its[its.size - 1 - i]?=some (its[its.size - 1 - i]'(by omega)):=Array.getElem?_eq_getElem (by omega)
  refine next_item hit x.2.2 hx hz fun h1 tk hit1 sb=>?_
  have e2:((its.size - 1 - i:Nat):Int) - 1=(its.size:Int) - 1 - ((i+1:Nat):Int):=by omega
  rw[e2]at hit1
  exact hQ _ h1 tk hx ⟨hi,hit1,x.2.2.at fun o q=>(sb.2 t ne).trans q⟩ fun b o hb q=>sb.extBut b o (fun z=>hb (by simp[z])) q
 done:=fun s Q E x hQ=>by
  have hit:=x.2.1
  rw[show(its.size:Int) - 1 - (its.size:Int)=-1 by omega]at hit
  exact next_end hA hit fun h1 eb=>hQ h1 s.toks fun b o hb q=>eb b o (fun z=>hb (by simp[z])) q
 self:=fun _ _ _ _ x hQ=>gm x.2.1 hQ
section
variable {prog:Program}{w:World}{A:Around}{E:Value->Shared->Prop}{s:Shared}{it t:Addr}{its:Array Value}
end
end RT
namespace RT
open PySem PyProof.Rows
end RT
namespace L2
open PySem PySem.Spec PyProof.Rows
variable {X:Cx}{a:Expr}{ta:TE}{p p2 pos pos2:Pos}
theorem lI{α β:Type}{R:α->β->Prop}:∀{l l2:List α} {m m2:List β},Paired R l m->Paired R l2 m2->Paired R (l++l2) (m++m2)
 | [],_,[],_,.nil,h=>h
 | _::_,_,_::_,_,.cons a t,h=>.cons a (lI t h)
end L2
namespace U
open PySem PySem.Spec PyProof.Rows L2
variable {B:Bs}{X:Cx}{a:Expr}{ta:TE'}{p p2 pos pos2:Pos}
theorem qU:bootBuiltins "reversed"=some (.type "reversed"):=by decide +kernel
end U
namespace L2
open PySem PySem.Spec PyProof.Rows
def Itv(K:PySem.W.Frag)(a:Addr)(n:Nat):It :=
 ⟨fun i H=>∃xs x,SqT K H a xs/\xs.length=n/\n<2 ^ 20/\i<n/\xs[n - 1 - i]?=some x,fun i H x H'=>H'=H/\∀xs,SqT K H a xs->xs[n - 1 - i]?=some x,fun i H=>i=n⟩
theorem u6{P:Program}{w:World}{K:PySem.W.Frag}{tg:Expr}(a it:Addr)(n:Nat):Turn P w K tg (Itv K a n) [it] it (fun i h=>RT.gM h it a ((n:Int) - 1 - (i:Nat))) where
 mem:=by simp
 obj:=fun i h st b hb=>by
  have e:b=it:=by simpa using hb
  subst e
  obtain⟨o,e,c,d⟩:=st
  exact⟨o,e,fun v z=>by rw[d]at z;cases z⟩
 keep:=fun i h h' st k=>st.at fun o e=>k it (by simp) o e
 item:=by
  intro X hP hw hK hc i pins s σ H E I hf st hg
  subst hP hw hK
  obtain⟨xs,x,hq,hn,hn2,hi,hx⟩:=hg
  obtain⟨its,rv,p,hz⟩:=I.tuple hq
  obtain⟨u,hu,ru⟩:=rv.get hx
  obtain⟨f0,f1,f2,f3,f4,f5⟩:=hf it (by simp)
  have hl:=rv.length
  have hsz:its.toArray.size<2 ^ 62:=by
   show its.length<2 ^ 62
   have:(2:Nat) ^ 20≤2 ^ 62:=Nat.pow_le_pow_right (by decide) (by decide)
   omega
  have ei:(n:Int) - 1 - (i:Nat)=((n - 1 - i:Nat):Int):=by omega
  rw[ei]at st
  refine RT.next_item st (show IsTup s.heap a its.toArray from p) (x:=u) (by simpa using hu) hsz fun h' tk st' sb=>?_
  have I1:Inv X pins σ H { s with heap:=h',toks:=tk }:=I.turned (t':=tk) (fun b o hb e=>(sb.2 b hb).trans e) f0 f1 f3 f4 f5
  obtain⟨o,e,c,d⟩:=id st'
  refine⟨u,rfl,ki (s:={ s with heap:=h',toks:=tk }) e c d (by decide) ⟨x,H,I1,ru,⟨rfl,fun ys hy=>by rw[I.tuple_inj hy hq];exact hx⟩,?_,fun b hb=>(hf b hb).1⟩⟩
  have e2:(n:Int) - 1 - ((i+1:Nat):Int)=((n - 1 - i:Nat):Int) - 1:=by omega
  rw[e2];exact st'
 done:=by
  intro X hP hw hK hc i pins s σ H E I hf st hg
  subst hP hw hK
  have hg:i=n:=hg
  subst hg
  obtain⟨f0,f1,f2,f3,f4,f5⟩:=hf it (by simp)
  rw[show(i:Int) - 1 - (i:Nat)=-1 by omega]at st
  exact RT.next_end (I.ok.hd hc) st fun h' eb=>⟨rfl,I.turned (t':=s.toks) (fun b o hb e=>eb b o hb e) f0 f1 f3 f4 f5⟩
 self:=fun _ _ _ _ _ st h=>RT.gm st h
section
variable {X:Cx}
def iRv(K:PySem.W.Frag)(ta:TA):TI:=fun σ H R=>ta σ H fun vs H1=>∃a us,vs=[.ref a]/\SqT K H1 a us/\us.length≤1000/\R (Itv K a us.length) H1
theorem zB{tg:Expr}{c:Expr}{ta:TA}{p pos:Pos}(hg:Gl X "reversed")(hm:X.mg "reversed"=none)(b2:bootBuiltins "reversed"=some (.type "reversed"))(ha:PA X [c] ta)(hs:starEach [c] X.env=[(false,eval c X.env)]:=by rfl) :
  PI X tg (.Call (.Name "reversed" p) [c] [] pos) (iRv X.K ta):=by
 intro pins s σ H R I h
 refine Call_ (dW I hg hm b2 (PyProof.Rows.callWith_type1 (thn (ha pos pins s σ H _ I h) fun us s1 ⟨vs,H1,I1,r1,q1⟩=>?_) hs rfl))
 obtain⟨a,xs,e,hq,hl,q⟩:=q1
 subst e
 cases r1 with
 | cons r rr =>
  cases rr
  cases r
  obtain⟨its,rv,p,hz⟩:=I1.tuple hq
  have hlen:=rv.length
  have hs:its.toArray.size=xs.length:=by simp;omega
  refine RT.rn p (by rw[hs];omega) ?_
  have st:RT.gM (s1.heap.push (RT.rv a ((its.toArray.size:Int) - 1))) s1.heap.objs.size a ((xs.length:Int) - 1 - ((0:Nat):Int)):=by
   rw[hs,show(xs.length:Int) - 1 - ((0:Nat):Int)=(xs.length:Int) - 1 by omega]
   exact⟨_,Heap.get?_push_size _ rfl,rfl,rfl⟩
  refine RT.gm (s:={ s1 with heap:=s1.heap.push (RT.rv a ((its.toArray.size:Int) - 1)),toks:=s1.toks+1+1 }) st ?_
  refine⟨s1.heap.objs.size,[s1.heap.objs.size],_,_,H1,rfl,I1.kept (t':=s1.toks+1+1) fun b o e=>Heap.get?_push_of_some _ e,u6 a _ xs.length,st,fun b hb=>?_,q⟩
  have e:b=s1.heap.objs.size:=by simpa using hb
  subst e
  exact I1.fpOk (Nat.le_refl _) (I1.hok.fresh (Nat.le_refl _))
end
end L2
namespace U
open PySem PySem.Spec PyProof.Rows L2
variable {B:Bs}{X:Cx}{pos:Pos}
def rv1(vs:List PV)(H1:PHp)(R:It'->PHp->Prop):Prop:=match vs with
 | [.tup l]=>l.length≤1000/\R ⟨l.reverse,fun _=>True⟩ H1
 | _=>False
theorem AZ{l:List PV}{H:PHp}{R:It'->PHp->Prop}:rv1 [.tup l] H R=(l.length≤1000/\R ⟨l.reverse,fun _=>True⟩ H):=rfl
def Aw(t:TA'):TI':=fun σ H R=>t σ H fun vs H1=>rv1 vs H1 R
theorem A5{tg:Expr}{c:Expr}{t:TA'}{p:Pos}(hg:Gl X "reversed")(hm:X.mg "reversed"=none)(ha:PA' X B [c] t)(hs:starEach [c] X.env=[(false,eval c X.env)]:=by rfl) :
  PIH X B tg (.Call (.Name "reversed" p) [c] [] pos) (Aw t):=gw (zB hg hm qU ha hs) fun σ H R ⟨σ',H',R',s,h,k⟩=>by
 refine⟨σ',H',_,s,h,fun vs' H1' vs H1 h1 r1 s1 e1=>?_⟩
 unfold rv1 at h1
 split at h1
 ·rename_i l
  simp only[RPs,RP]at r1
  obtain⟨u,r,rfl,⟨a,us,rfl,q,rl⟩,rfl⟩:=r1
  obtain⟨hl,h1⟩:=h1
  have hlen:=RPs.length _ rl
  refine⟨a,us,rfl,q,by omega,k _ H1' _ H1 h1 ⟨fun H2' H2 i k2 hr _ hi=>?_,fun H2' H2 i x H3 k2 hr _ y=>?_,fun H2' H2 k2 hr _=>?_⟩ s1 e1⟩
  ·have hi':i<l.length:=by simpa using hi
   have hj:us.length - 1 - i<us.length:=by omega
   exact⟨us,_,k2.sqT q,rfl,by omega,by omega,List.getElem?_eq_getElem hj⟩
  ·obtain⟨rfl,y⟩:=y
   refine⟨hr,Ev.refl _ _,fun x' hx=>?_⟩
   have hi:i<l.length:=by
    have:=(List.getElem?_eq_some_iff.mp hx).1
    simpa using this
   rw[List.getElem?_reverse hi]at hx
   obtain⟨u,e,ru⟩:=RPs.get _ (RPs.kp _ k2 rl) hx
   have ey:=y us (k2.sqT q)
   rw[hlen,e]at ey;cases ey
   exact ru
  ·show l.reverse.length=us.length
   rw[List.length_reverse,hlen]
 ·exact h1.elim
end U
namespace L2
end L2
namespace U
open PySem PySem.Spec PyProof.Rows L2
variable {B:Bs}{X:Cx}{a b e:Expr}{ta tb:TE'}{p p2 pos pos2:Pos}
end U
namespace SI
open PySem PyProof.Rows
section
variable {prog:Program}{w:World}{A:Around}{E:Value->Shared->Prop}{s:Shared}
theorem yX{S I l:Addr}{vs:List Value}{ns:List Nat}{led:Bool}{R:Result->Shared->Prop}(hh:A.in1.handled=none)(hT:ko vs ns)(hin:∀n∈ns,n<6)(hSI:S≠I)(hSl:S≠l)(hlI:l≠I) :
  ∀(k i:Nat) (s:Shared),ns.length - i=k->i≤ns.length->s.heap.IsTupleIter I l i->s.heap.IsTuple l vs.toArray->eE s.heap S led (lof (ns.take i)) ->
   (∀h' tk,(∀b o,b≠S->b≠I->s.heap.get? b=some o->h'.get? b=some o)->eE h' S led (lof ns)->R (.ok (.ret .none)) { s with heap:=h',toks:=tk }) ->
   codeAny (model prog w) A (.builtin "set.update.loop" ⟨[.ref S,.ref I],[]⟩) R s:=by
 intro k
 induction k with
 | zero =>
  intro i s hk hi hit hl hP hR
  have e:i=ns.length:=by omega
  subst e
  rw[List.take_length]at hP
  refine codeAny_builtin F.entry_set_update_loop ?_
  rw[Around.under_plainId F.plain_set_update_loop _]
  show wpAny _ A.in1 (pyNext (.ref I) >>= _) _ _ s
  refine wpAny_bind (wpAny_pyNext_tuple_end hh hit hl (by simp[hT.1]) fun h' eb=>?_)
  show wpAny _ A.in1 (ret Value.none) _ _ _
  refine wpAny_pure (hR h' s.toks (fun b o _ hb e=>eb b o hb e) ?_)
  obtain⟨hL,es,ep,ho,r⟩:=hP.is
  exact⟨hL,es,ep,eb S _ hSI ho,r⟩
 | succ k ih =>
  intro i s hk hi hit hl hP hR
  have hlt:i<ns.length:=by omega
  have hvl:i<vs.length:=by rw[hT.1];exact hlt
  have hvi:vs[i]?=some vs[i]:=List.getElem?_eq_getElem hvl
  obtain⟨tk,ev⟩:=hT.2 i _ hvi
  have en:ns.getD i 0=ns[i]:=by rw[List.getD_eq_getElem?_getD,List.getElem?_eq_getElem hlt];rfl
  rw[en]at ev
  refine codeAny_builtin F.entry_set_update_loop ?_
  rw[Around.under_plainId F.plain_set_update_loop _]
  show wpAny _ A.in1 (pyNext (.ref I) >>= _) _ _ s
  refine wpAny_bind (wpAny_pyNext_tuple_item hit hl (x:=Value.int ((ns[i]:Nat):Int) tk) (by rw[←ev];simp) fun h1 hit1 sb1=>?_)
  have k1:∀b o,b≠I->s.heap.get? b=some o->h1.get? b=some o:=fun b o hb e=>sb1.extBut b o hb e
  have hP1:eE h1 S led (lof (ns.take i)):=by
   obtain⟨hL,es,epo,ho,r⟩:=hP.is
   exact⟨hL,es,epo,k1 S _ hSI ho,r⟩
  show wpAny _ A.in1 (holding [Value.int ((ns[i]:Nat):Int) tk] (setAdd S (Value.int ((ns[i]:Nat):Int) tk)) >>= _) _ _ _
  refine wpAny_bind (wpAny_holding (iI (A:=A.in1) hP1 (hin _ (List.getElem_mem hlt)) fun b h2 tk2 sb2 hP2=>?_))
  have k2:∀b o,b≠S->h1.get? b=some o->h2.get? b=some o:=fun b o hb e=>sb2.extBut b o hb e
  have hP3:eE h2 S led (lof (ns.take (i+1))):=by rw[lz hlt];exact hP2
  refine wpAny_pure ⟨plainId_quiet F.plain_set_update_loop _,ih (i+1) { s with heap:=h2,toks:=tk2 } (by omega) (by omega) (hit1.extBut (fun b o hb e=>k2 b o hb e) (Ne.symm hSI)) ?_ hP3 ?_⟩
  ·exact(hl.extBut (fun b o hb e=>k1 b o hb e) hlI).extBut (fun b o hb e=>k2 b o hb e) (Ne.symm hSl)
  ·intro h3 tk3 kp hP4
   exact hR h3 tk3 (fun b o hb hb' e=>kp b o hb hb' (k2 b o hb (k1 b o hb' e))) hP4
theorem j2{l:Addr}{vs:List Value}{ns:List Nat}{Q:Value->Shared->Prop}(hh:A.handled=none)(hl:s.heap.IsTuple l vs.toArray)(hT:ko vs ns)(hin:∀n∈ns,n<6)
  (h:∀h' tk,(∀b o,b<s.heap.objs.size->s.heap.get? b=some o->h'.get? b=some o)->eE h' s.heap.objs.size (br w) (lof ns)->Q (.ref s.heap.objs.size) { s with heap:=h',toks:=tk }) :
  wpAny (model prog w) A (call (.type "set") [.ref l]) Q E s:=by
 obtain⟨c0,tl0,mro0⟩:=F.called_set.mro
 have made0:=F.called_set.made
 have sub0:=F.called_set.sub
 have nt0:=F.called_set.notType
 have cc0:=F.called_set.canCreate
 have tc0:=F.typeCall_set_1 (.ref l)
 refine wpAny_call (codeAny_of_tree ?_)
 show wpAny (model prog w) _ (callAny (.type "set") _) _ _ _
 refine wpAny_pure ⟨Code.quiet_builtin _ (by decide +kernel),codeAny_builtin F.entry_type_call ?_⟩
 rw[Around.under_plain (weight_type_call_type "set" [.ref l] []) rfl]
 repeat (any_goals (first | assumption | wp_step))
 refine codeAny_mono (m4 (.ref l) (E:=E) (Q₁:=fun obj s1=>obj=.ref s.heap.objs.size /\
  s1={ s with heap:=s.heap.push { cls:=.type "set",dict:=none,data:=.set #[] 0 (.fresh 0 0 (br w)) } }) ⟨rfl,rfl⟩) fun r s1 hr=>?_
 cases r with
 | error e=>exact hr
 | ok fl =>
  cases fl with
  | ret obj =>
   obtain⟨rfl,rfl⟩:=hr
   generalize hH:s.heap.push { cls:=.type "set",dict:=none,data:=.set #[] 0 (.fresh 0 0 (br w)) }=H1
   have hS:H1.get? s.heap.objs.size=some { cls:=.type "set",dict:=none,data:=.set #[] 0 (.fresh 0 0 (br w)) }:=by rw[←hH];exact Heap.get?_push_size _ rfl
   have old:∀b o,s.heap.get? b=some o->H1.get? b=some o:=fun b o e=>by rw[←hH];exact Heap.get?_push_of_some _ e
   have hsz:H1.objs.size=s.heap.objs.size+1:=by rw[←hH,Heap.size_push]
   have tyS:Shared.TypeIs { s with heap:=H1 } (.ref s.heap.objs.size) "set":=⟨_,hS,rfl⟩
   have li0:=F.called_set.init.lookup
   have bi0:=F.called_set.init.bind (.ref s.heap.objs.size)
   repeat (any_goals (first | assumption | wp_step))
   refine codeAny_mono (codeAny_call_builtin (R:=wants (fun r s2=>r=.none/\∃h' tk,s2={ s with heap:=h',toks:=tk }/\eE h' s.heap.objs.size (br w) (lof ns) /\
    (∀b o,b<s.heap.objs.size->s.heap.get? b=some o->h'.get? b=some o)) E) F.called_set.init.plain F.entry_set_init (check_set_init_1 tyS ?_)) fun r2 s2 hr2=>?_
   ·obtain⟨ol,hol,hcl,nl,hdl⟩:=hl
    obtain⟨oc,od,oda,osl⟩:=ol
    simp only at hcl hdl
    subst hcl;subst hdl
    have hol1:H1.get? l=some { cls:=.type "tuple",dict:=od,data:=.seq vs.toArray nl,slots:=osl }:=old _ _ hol
    have sls:=F.sub_tuple_set
    have slf:=F.sub_tuple_frozenset
    have nld:(Value.type "tuple"==Value.type "dict")=false:=by decide
    have hl1:H1.IsTuple l vs.toArray:=⟨_,hol1,rfl,nl,rfl⟩
    have llt:l<s.heap.objs.size:=Heap.lt_size hol
    unfold Builtin.«set.__init__» noKeywords Builtin.Frozenset.updateFrom
    generalize hPI:pyIter=PI
    wp_walk
    subst hPI
    refine wpAny_pyIter_tuple hl1 ?_
    refine wpAny_bind (wpAny_runValue ?_)
    generalize hH2:H1.push { cls:=.type "tuple_iterator",data:=.fields #[.ref l,.int 0 0] }=H2
    have old2:∀b o,H1.get? b=some o->H2.get? b=some o:=fun b o e=>by rw[←hH2];exact Heap.get?_push_of_some _ e
    refine yX (l:=l) (ns:=ns) (vs:=vs) (led:=br w) (by simp[hh]) hT hin (by show s.heap.objs.size≠H1.objs.size;rw[hsz];exact Nat.ne_of_lt (Nat.lt_succ_self _)) (Nat.ne_of_gt llt) (by show l≠H1.objs.size;rw[hsz];exact Nat.ne_of_lt (Nat.lt_succ_of_lt llt)) ns.length 0 _ (by omega) (Nat.zero_le _) ?_ ?_ ?_ ?_
    ·rw[←hH2]
     exact⟨_,Heap.get?_push_size _ rfl,rfl,rfl⟩
    ·exact⟨_,old2 _ _ hol1,rfl,nl,rfl⟩
    ·refine⟨hW,#[],0,old2 _ _ hS,[],rfl,rfl⟩
    ·intro h' tk kp hP
     show wpAny _ _ (pure ()) _ _ _
     refine wpAny_pure ?_
     show wpAny _ _ (ret Value.none) _ _ _
     refine wpAny_pure ⟨rfl,h',tk,rfl,hP,fun b o hb e=>?_⟩
     refine kp b o (Nat.ne_of_lt hb) ?_ (old2 _ _ (old _ _ e))
     show b≠H1.objs.size
     rw[hsz];exact Nat.ne_of_lt (Nat.lt_succ_of_lt hb)
   ·cases r2 with
    | error e=>exact hr2
    | ok f2 =>
     cases f2 with
     | ret r =>
      obtain⟨rfl,h',tk,rfl,hP,hk⟩:=hr2
      repeat (any_goals (first | assumption | wp_step))
      exact h _ _ hk hP
     | _=>exact hr2.elim
  | _=>exact hr.elim
end
end SI
namespace L2
open PySem PySem.Spec PyProof.Rows
variable {X:Cx}
theorem oh(hc:X.calm=true):cb X (.type "set") (fun xs H Q=>∃(a:Addr) (ns:List Nat),xs=[.ref a]/\SqT X.K H a (ns.map uL)/\(∀n∈ns,n<6)/\∀S,H S=none->Q (.ref S) (upd H S (.ext (fM X.w S (SI.lof ns))))):=by
 intro pins s σ H xs us Q I r h
 obtain⟨a,ns,rfl,hq,hin,q⟩:=h
 obtain⟨u,rfl,ru⟩:=Vals.one r
 cases ru
 obtain⟨its,rv,p,hz⟩:=I.tuple hq
 refine SI.j2 (ns:=ns) (I.ok.hd hc) (show s.heap.IsTuple a its.toArray from p) (fX rv) hin fun h' tk kp P=>?_
 have hn:H s.heap.objs.size=none:=I.hok.fresh (Nat.le_refl _)
 refine⟨.ref s.heap.objs.size,_,I.laid (t':=tk) (o:=.ext (fM X.w s.heap.objs.size (SI.lof ns))) (fun b o e=>kp b o (Heap.lt_size e) e) (Nat.le_refl _) ?_,rfl,q _ hn⟩
 obtain⟨hL,es,ep,ho,he⟩:=P.is
 exact⟨P,⟨_,ho⟩,fun h1 h2 x k=>by obtain⟨a,es,ep,e,l⟩:=x.is;exact⟨a,es,ep,k _ e,l⟩⟩
end L2
namespace U
open PySem PySem.Spec PyProof.Rows L2
variable {B:Bs}{X:Cx}{a b e:Expr}{ta tb:TE'}{p p2 pos pos2:Pos}
def By(x:PV)(H:PHp)(Q:VK'):Prop:=match x with
 | .tup l=>∃ns:List Nat,l=ns.map dg/\(∀n∈ns,n<6)/\Q (.int (SI.lof ns).length) H
 | _=>False
def kP(x:PV)(H:PHp)(Q:VK'):Prop:=match x with
 | .tup l=>∃ns:List Nat,l=ns.map dg/\(∀n∈ns,n<6)/\∀(r:Addr) (ks:List Nat),H r=none->ks.Pairwise (·<·)->(∀x,x∈ks↔x∈ns)->Q (.ref r) (put H r (.lst (ks.map dg)))
 | _=>False
theorem Bq{l:List PV}{H:PHp}{Q:VK'}:kP (.tup l) H Q=∃ns:List Nat,l=ns.map dg/\(∀n∈ns,n<6)/\∀(r:Addr) (ks:List Nat),H r=none->ks.Pairwise (·<·)->(∀x,x∈ks↔x∈ns)->Q (.ref r) (put H r (.lst (ks.map dg))):=rfl
def jm(ta:TE'):TE':=fun σ H Q=>ta σ H fun x H1=>kP x H1 Q
theorem dI(hc:X.calm=true)(hu:X.A.units+64<cLine)(hgl:Gl X "sorted")(hml:X.mg "sorted"=none)(hgs:Gl X "set")(hms:X.mg "set"=none)(bs:bootBuiltins "set"=some (.type "set"))(ha:PE' X B e ta)(bo:bootBuiltins "sorted"=some (.builtin "sorted"):=by decide +kernel)
  (he:starEach [.Call (.Name "set" p2) [e] [] pos2] X.env=[(false,eval (.Call (.Name "set" p2) [e] [] pos2) X.env)]:=by rfl) (he2:starEach [e] X.env=[(false,eval e X.env)]:=by rfl) :
  PE' X B (.Call (.Name "sorted" p) [.Call (.Name "set" p2) [e] [] pos2] [] pos) (jm ta) :=
 a8 (dR (hU hc) hgl hml bo (cD (dj (oh hc) hgs hms bs (cD ha dB he2) (by decide) (by decide) he2 rfl) dB he) (by decide) (by decide) he rfl) fun σ H Q h=>by
  obtain⟨σ',H',Q',s,h,k⟩:=h
  refine⟨σ',H',_,s,h,fun x' H1' x H1 h1 rx s1 e1=>?_⟩
  cases x' with
  | tup l =>
   obtain⟨ns,rfl,hin,q⟩:=h1
   simp only[RP]at rx
   obtain⟨a,us,rfl,hq,r2⟩:=rx
   rw[fk r2]at hq
   refine⟨a,ns,rfl,hq,hin,fun S hS=>⟨S,SI.lof ns,rfl,bB,fun r ms hr hs hp=>?_⟩⟩
   have s2:=s1.hid (o:=.ext (fM X.w S (SI.lof ns))) hS
   have e2:Ev H1' H1 H1' (upd H1 S (.ext (fM X.w S (SI.lof ns)))):=Ev.hid hS
   have nd:=(SI.iz _ (SI.iQ hin)).2.2.1
   have hm:∀x∈ms,∃n∈SI.lof ns,x=((n:Nat):Int):=fun x hx=>by
    obtain⟨n,h1,h2⟩:=List.mem_map.mp (hp.mem_iff.mp hx)
    exact⟨n,h1,h2.symm⟩
   have em:=iu hm
   generalize ms.map Int.toNat=ks at em
   subst em
   have pk:ks.Perm (SI.lof ns):=by
    have:=hp.map Int.toNat
    simpa[List.map_map,Function.comp_def]using this
   have ndk:ks.Nodup:=pk.nodup_iff.mpr nd
   have hsk:ks.Pairwise (·<·):=by
    rw[List.pairwise_map]at hs
    refine List.Pairwise.imp₂ (fun a b h1 h2=>?_) hs ndk
    have:a≠b:=h2
    omega
   have hq:=q r ks (s2.hp.free hr) hsk fun x=>pk.mem_iff.trans SI.jA
   have rr:RPs X.K (upd H1 S (.ext (fM X.w S (SI.lof ns)))) (ks.map dg) ((ks.map fun(n:Nat)=>(n:Int)).map V.int):=by
    have e3:ks.map dg=(ks.map fun(n:Nat)=>(n:Int)).map PV.int:=by rw[List.map_map];rfl
    rw[e3]
    exact iM
   exact k _ _ _ _ hq (by simp[RP]) (s2.new hr (lA hr rr)) ((e1.trans e2).trans (Ev.new hr))
  | _=>exact h1.elim
end U
namespace L2
open PySem PySem.Spec PyProof.Rows
variable {X:Cx}
def m6:List Int->List DictEntry->Bool
 | [],[]=>true
 | k::ks,e::es=>e.key.isInt k&&(e.hash==hashInt k)&&m6 ks es
 | _,_=>false
def okIn(K:PySem.W.Frag)(a:Addr)(ks:List Int):Bool :=
 !(a==sysModules)&&match K.lookup a with
 | some ⟨c,d,.dict es _,sl⟩=>(c==.type "dict")&&d.isNone&&(sl.size==0)&&m6 ks es.toList
 | _=>false
theorem nD{prog:Program}{w:World}:∀{ks:List Int} {es:List DictEntry},m6 ks es=true ->
  (∀e∈es,∃k,(intKind prog w).is k e.key=true/\e.hash=(intKind prog w).hash k)/\∀k,((es.find? fun e=>(intKind prog w).is k e.key).map (·.val)).isSome=decide (k∈ks)
 | [],[],_=>⟨fun _ h=>(by cases h),fun _=>rfl⟩
 | k::ks,e::es,h=>by
  simp only[m6,Bool.and_eq_true,beq_iff_eq]at h
  obtain⟨⟨h1,h2⟩,h3⟩:=h
  obtain⟨i1,i2⟩:=nD (prog:=prog) (w:=w) h3
  have hj:(intKind prog w).is k e.key=true:=h1
  refine⟨fun x hx=>(List.mem_cons.mp hx).elim (fun q=>q▸⟨k,hj,h2⟩) (i1 x),fun y=>?_⟩
  rw[List.find?_cons,KeyKind.is_eq_decide hj y]
  by_cases q:y=k
  ·subst q;simp
  ·simp only[q,decide_false]
   rw[i2 y]
   simp[q]
theorem tm{prog:Program}{w:World}{K:PySem.W.Frag}{a:Addr}{ks:List Int}{h:Heap}(o:okIn K a ks=true)(kin:K.In h):(a==sysModules)=false/\∃f,h.MapOf (intKind prog w) a f/\∀k,(f k).isSome=decide (k∈ks):=by
 unfold okIn at o
 rw[Bool.and_eq_true]at o
 refine⟨by simpa using o.1,?_⟩
 have o2:=o.2
 split at o2
 ·rename_i c d es ep sl hl
  simp only[Bool.and_eq_true,beq_iff_eq]at o2
  obtain⟨⟨⟨rfl,o3⟩,o4⟩,o5⟩:=o2
  obtain⟨k1,k2⟩:=nD (prog:=prog) (w:=w) o5
  have ed:d=none:=by simpa using o3
  have es0:sl=#[]:=by simpa using o4
  refine⟨fun k=>findBy (intKind prog w).is es k,⟨_,es,ep,kin _ _ hl,⟨rfl,ed,es0⟩,rfl,fun e he=>k1 e (by simpa using he),fun _=>rfl⟩,fun k=>?_⟩
  rw[←k2 k]
  simp[findBy]
 ·cases o2
def vi(a:Addr)(ks:List Int):R2:=fun x y H Q=>∃n,x=.int n/\y=.ref a/\Q (.bl (!decide (n∈ks))) H
theorem tQ{a:Addr}{ks:List Int}(o:okIn X.K a ks=true):OpR X (compareOp .NotIn) (vi a ks):=by
 intro pins s σ H x y v u Q I rx ry h
 obtain⟨n,rfl,rfl,q⟩:=h
 obtain⟨t,rfl⟩:=rx
 cases ry
 obtain⟨lo,f,hm,hf⟩:=tm (prog:=X.prog) (w:=X.w) o I.kIn
 refine wpAny_notIn_of (knd:=intKind X.prog X.w) (k:=n) (by first | rfl | simp[intKind,Value.isInt]) lo hm ?_
 rw[hf]
 exact⟨.bl (!decide (n∈ks)),H,I.tok _,rfl,q⟩
end L2
namespace U
open PySem PySem.Spec PyProof.Rows L2
variable {B:Bs}{X:Cx}{pos:Pos}
def qi(a:Addr)(ks:List Int):R2':=fun x y H Q=>match x,y with
 | .int n,.ref b=>b=a/\Q (.bl (!decide (n∈ks))) H
 | _,_=>False
theorem CA{a b:Addr}{ks:List Int}{n:Int}{H:PHp}{Q:VK'}:qi a ks (.int n) (.ref b) H Q=(b=a/\Q (.bl (!decide (n∈ks))) H):=rfl
theorem tJ{K:PySem.W.Frag}{a:Addr}{ks:List Int}:VR K B (qi a ks) (vi a ks):=by
 intro σ' σ H' H x' y' x y Q' Q s rx ry h k
 unfold qi at h
 split at h
 ·rename_i n b
  obtain⟨rfl,q⟩:=h
  simp only[RP,RPs]at rx ry
  subst rx;subst ry
  exact⟨n,rfl,rfl,k _ _ _ _ q (by simp[RP]) s (Ev.refl _ _)⟩
 ·exact h.elim
end U
namespace L2
open PySem PySem.Spec PyProof.Rows
variable {X:Cx}
def sT(l:List Nat):Str:=⟨l.toArray⟩
end L2
namespace U
open PySem PySem.Spec PyProof.Rows L2
variable {B:Bs}{X:Cx}{a b o e:Expr}{es:List Expr}{ta tb to:TE'}{t:TA'}{pos apos cpos:Pos}{name:Str}
def Eh:R2':=fun x y H Q=>match x,y with
 | .str z,.int i=>z.length≤sizeLine/\∃c,atI z.cps.toList i=some c/\Q (.str ⟨#[c]⟩) H
 | _,_=>False
def Eg:PV->List PV->PHp->VK'->Prop:=fun x vs H Q=>match x,vs with
 | .str z,[.ref a]=>∃ys:List Str,H a=some (.lst (ys.map PV.str))/\z.length≤16/\(ys.map (·.length)).sum+ys.length≤1048576/\Q (.str (Txt.join z ys)) H
 | _,_=>False
def yt(o i v:PV)(H:PHp)(Q:PHp->Prop):Prop:=match o,i with
 | .ref a,.int k=>∃l j,H a=some (.lst l)/\ixN l.length k=some j/\Q (put H a (.lst (l.set j v)))
 | _,_=>False
theorem C6{a:Addr}{k:Int}{v:PV}{H:PHp}{Q:PHp->Prop}:yt (.ref a) (.int k) v H Q=∃l j,H a=some (.lst l)/\ixN l.length k=some j/\Q (put H a (.lst (l.set j v))):=rfl
def A3(to ti:TE'):TG':=fun v σ H Q=>to σ H fun o H1=>ti σ H1 fun i H2=>yt o i v H2 fun H3=>Q σ H3
theorem qq{i:Expr}{ti:TE'}(ho:PE' X B o to)(hi:PE' X B i ti) (ha:∀v,assign (.Subscript o i pos) X.env v=(do
   let ov←holding [v] (eval o X.env)
   let iv←holding [v,ov] (eval i X.env)
   standAt pos
   holding [v,ov,iv] (setItem ov iv v)
   release [v,ov,iv] []):=by intro _;rfl):PG' X B (.Subscript o i pos) (A3 to ti):=jQ (wG ho hi set_list ha) fun v σ H Q h=>by
 obtain⟨v',σ',H',Q',rv,s,h,k⟩:=h
 refine⟨σ',H',_,s,h,fun o' H1' o H1 h1 ro s1 e1=>⟨σ',H1',_,s1,h1,fun i' H2' i H2 h2 ri s2 e2=>?_⟩⟩
 unfold yt at h2
 split at h2
 ·rename_i a n
  obtain⟨l,j,ea,ej,q⟩:=h2
  have ro2:=RP.kp X.K (e2.kp s1.hp) ro
  have rv2:=RP.kp X.K ((e1.trans e2).kp s.hp) rv
  simp only[RP]at ro2 ri
  obtain⟨us,eg,r⟩:=s2.hp _ _ ea
  have new:OAt X.K (upd H2 a (.lst (us.set j v))) a (.lst (l.set j v')):=⟨_,bB,RPs.kp X.K (s2.hp.kpw ea) (RPs.set X.K rv2 j r)⟩
  exact⟨a,us,n,j,ro2,ri,eg,by rw[RPs.length _ r];exact ej,k _ _ _ _ q (s2.wr ea new) ((e1.trans e2).trans (Ev.wr ea))⟩
 ·exact h2.elim
end U
namespace L2
open PySem PySem.Spec PyProof.Rows
variable {X:Cx}
section
variable {e e3:Expr}{te:TE}{ts:TO}{pos p2:Pos}
end
end L2
namespace U
open PySem PySem.Spec PyProof.Rows L2
variable {B:Bs}{X:Cx}{a b o e e3:Expr}{es:List Expr}{ta tb to:TE'}{t:TA'}{pos p2 apos cpos:Pos}{name:Str}
def CM:PV->List PV->PHp->VK'->Prop:=fun x vs H Q=>match x,vs with
 | .str z,[.str y]=>(y.length==0)=false/\z.length+2≤sizeLine/\∀r,H r=none->Q (.ref r) (put H r (.lst ((Txt.split z y).map PV.str)))
 | _,_=>False
def BG:List PV->PHp->VK'->Prop:=dc fun x H Q=>match x with
 | .int i=>i.natAbs.log2<1920/\Q (.str (toString i)) H
 | _=>False
def yJ:List PV->PHp->VK'->Prop:=fun xs H Q=>match xs with
 | [.int i,.int j]=>Q (.int (if j>i then j else i)) H
 | _=>False
theorem Di{i j:Int}{H:PHp}{Q:VK'}:yJ [.int i,.int j] H Q=Q (.int (if j>i then j else i)) H:=rfl
theorem yL{K:PySem.W.Frag}:VC K B yJ (fun xs H Q=>∃i j,xs=[.int i,.int j]/\Q (.int (if j>i then j else i)) H):=by
 intro σ' σ H' H xs' xs Q' Q s r h k
 unfold yJ at h
 split at h
 ·rename_i i j
  simp only[RPs,RP]at r
  obtain⟨_,_,rfl,rfl,_,_,rfl,rfl,rfl⟩:=r
  exact⟨i,j,rfl,k _ _ _ _ h (by simp[RP]) s (Ev.refl _ _)⟩
 ·exact h.elim
end U
namespace L2
open PySem PySem.Spec PyProof.Rows
section
variable {prog:Program}{w:World}{A:Around}{E:Value->Shared->Prop}{s:Shared}
theorem eD{t sl:Addr}{items:Array Value}{vl vu:Value}{lo hi:Option Int}{Q:Value->Shared->Prop}(tA:IsTup s.heap t items)(sA:s.heap.IsSliceOf sl vl vu .none)(pA:IsPart vl lo)(pB:IsPart vu hi)
  (hw:HT.sIx items.size 0 lo=0/\HT.sIx items.size items.size hi=items.size) (h:Q (.ref t) s):wpAny (model prog w) A (getItem (.ref t) (.ref sl)) Q E s:=by
 obtain⟨os,hos,hcs,hds⟩:=id sA
 have tB:s.TypeIs (.ref sl) "slice":=⟨os,hos,hcs⟩
 unfold getItem
 try with_reducible refine wpAny_holding ?_
 first | refine wpAny_bind (wpAny_pure ?_) | skip
 refine wpAny_bind (wpAny_sequenceKey tA.typeIs (by decide) ?_)
 refine wpAny_bind (wpAny_callSpecial?_slot (name:=Str.ofString "__getitem__") tA.typeIs PyProof.Rows.slot_tuple_getitem
  (wpAny_call_entry PyProof.Rows.slot_tuple_getitem tA.typeIs entry_tuple_getitem ?_ (args_tuple_getitem _ _)))
 show wpAny _ _ (Builtin.Tuple.tupleItemsOf (.ref t) >>= _) _ _ s
 refine wpAny_bind (tupleItemsOf_ tA ?_)
 refine wpAny_bind (wpAny_typeOf tB ?_)
 rw[if_pos (by decide)]
 refine wpAny_bind (HT.dk sA pA pB ?_)
 have hyes:(((HT.sIx items.size 0 lo:Nat):Int)==0&&(1:Int)==1&&(HT.sIx items.size items.size hi - HT.sIx items.size 0 lo)==items.size)=true:=by
  rw[hw.1,hw.2];simp
 show wpAny _ _ (if (((HT.sIx items.size 0 lo:Nat):Int)==0&&(1:Int)==1&&(HT.sIx items.size items.size hi - HT.sIx items.size 0 lo)==items.size)=true then _ else _) _ _ s
 rw[if_pos hyes]
 unfold Builtin.Tuple.tupleIsExact
 have hT:=tA.typeIs
 wp_walk
 exact⟨_,rfl,wpAny_pure h⟩
end
variable {X:Cx}
def D7(K:PySem.W.Frag):V->Option Int->Option Int->Hp->VK->Prop:=fun x lo hi H Q=>∃a xs,x=.ref a/\SqT K H a xs /\
 ((HT.sIx xs.length 0 lo=0/\HT.sIx xs.length xs.length hi=xs.length)->Q (.ref a) H)/\(¬(HT.sIx xs.length 0 lo=0/\HT.sIx xs.length xs.length hi=xs.length)->∀p,H p=none->Q (.ref p) (upd H p (.tup (jW xs lo hi))))
theorem sI:SlR X (D7 X.K):=by
 intro pins s σ H x v vl vu lo hi sl Q I rx hs pl pu h
 obtain⟨a,xs,rfl,hx,q1,q2⟩:=h
 by_cases hw:HT.sIx xs.length 0 lo=0/\HT.sIx xs.length xs.length hi=xs.length
 ·cases rx
  obtain⟨its,r,ht,hz⟩:=I.tuple hx
  have hlen:its.toArray.size=xs.length:=by rw[List.size_toArray];exact r.length.symm
  refine⟨"tuple",_,PyProof.Rows.slot_tuple_getitem.lookup,ht.typeIs,?_⟩
  exact eD ht hs pl pu (by rw[hlen];exact hw) ⟨.ref a,H,I,rfl,q1 hw⟩
 ·exact qG pins s σ H _ v vl vu lo hi sl Q I rx hs pl pu ⟨a,xs,rfl,hx,hw,q2 hw⟩
end L2
namespace U
open PySem PySem.Spec PyProof.Rows L2
variable {B:Bs}{X:Cx}{e:Expr}{ta:TE'}{pos:Pos}
def qO(x:PV)(lo hi:Option Int)(H3:PHp)(Q:VK'):Prop:=match x with
 | .tup l=>Q (.tup (cN l lo hi)) H3
 | _=>False
theorem CS{l:List PV}{lo hi:Option Int}{H:PHp}{Q:VK'}:qO (.tup l) lo hi H Q=Q (.tup (cN l lo hi)) H:=rfl
def mL(ta:TE')(tl th:TO'):TE':=fun σ H Q=>ta σ H fun x H1=>tl σ H1 fun lo H2=>th σ H2 fun hi H3=>qO x lo hi H3 Q
theorem jh{lo hi:Option Expr}{tl th:TO'}{p2:Pos}(he:PE' X B e ta)(hl:PO' X B lo tl)(hu:PO' X B hi th):PE' X B (.Subscript e (.Slice lo hi none p2) pos) (mL ta tl th) :=
 a8 (kf sI he hl hu) fun σ H Q ⟨σ',H',Q',s,h,k⟩=>by
 refine⟨σ',H',_,s,h,fun x H1' v H1 h1 r1 s1 e1=>⟨σ',H1',_,s1,h1,fun l H2' H2 h2 s2 e2=>⟨σ',H2',_,s2,h2,fun u H3' H3 h3 s3 e3=>?_⟩⟩⟩
 have r3:=RP.kp _ (e3.kp s2.hp) (RP.kp _ (e2.kp s1.hp) r1)
 have e123:=e1.trans (e2.trans e3)
 cases x with
 | tup xs =>
  have r3':=r3
  simp only[RP]at r3
  obtain⟨a,us,e,q,r⟩:=r3
  refine⟨a,us,e,q,fun hw=>?_,fun _ p n=>?_⟩
  ·have ex:cN xs l u=xs:=by
    unfold cN
    rw[RPs.length _ r]at hw
    rw[hw.1,hw.2,List.drop_zero,Nat.sub_zero,List.take_length]
   have h4:Q' (.tup (cN xs l u)) H3':=h3
   rw[ex]at h4
   rw[←e]
   exact k _ _ _ _ h4 r3' s3 e123
  ·exact k _ _ _ _ h3 (oG n (jL r)) (s3.hid n) (e123.trans (Ev.hid n))
 | _=>exact h3.elim
end U
namespace L2
open PySem PySem.Spec PyProof.Rows
variable {X:Cx}
end L2
namespace U
open PySem PySem.Spec PyProof.Rows L2
variable {B:Bs}{X:Cx}{a b:Expr}{ta tb:TE'}{pos:Pos}
def wd:List PV->PHp->VK'->Prop:=fun xs H Q=>match xs with
 | [.int i,.int j]=>Q (.int (if j<i then j else i)) H
 | _=>False
theorem Dw{i j:Int}{H:PHp}{Q:VK'}:wd [.int i,.int j] H Q=Q (.int (if j<i then j else i)) H:=rfl
theorem yQ{K:PySem.W.Frag}:VC K B wd (fun xs H Q=>∃i j,xs=[.int i,.int j]/\Q (.int (if j<i then j else i)) H):=by
 intro σ' σ H' H xs' xs Q' Q s r h k
 unfold wd at h
 split at h
 ·rename_i i j
  simp only[RPs,RP]at r
  obtain⟨_,_,rfl,rfl,_,_,rfl,rfl,rfl⟩:=r
  exact⟨i,j,rfl,k _ _ _ _ h (by simp[RP]) s (Ev.refl _ _)⟩
 ·exact h.elim
end U
namespace L2
open PySem PySem.Spec PyProof.Rows
variable {X:Cx}
theorem qg{prog:Program}{w:World}{A:Around}{E:Value->Shared->Prop}{s:Shared}{t b:Addr}{ws:List Value}{Q:Value->Shared->Prop}(ht:IsTup s.heap t ([]:List Value).toArray)(hb:IsTup s.heap b ws.toArray)(h:Q (.ref b) s):wpAny (model prog w) A (binaryOp .Add (.ref t) (.ref b)) Q E s:=by
 obtain⟨⟨cls,dd,data,sl⟩,g,hc,n,g2⟩:=id ht
 obtain⟨⟨cls2,dd2,data2,sl2⟩,k,hc2,n2,k2⟩:=id hb
 simp only at hc g2 hc2 k2
 subst hc g2 hc2 k2
 exact concat_meets ⟨_,g,rfl⟩ ⟨_,k,rfl⟩ noFill_tuple_add seq_tuple_add PySem.F.slot_tuple_add PySem.F.entry_tuple_add (PySem.F.args_tuple_add_2 _ _) (tuple_addW0 t b _ ws.toArray n n2 dd dd2 sl sl2 rfl) ⟨g,k,h⟩
def vh(K:PySem.W.Frag):R2:=fun x y H Q=>∃a b xs ys,x=.ref a/\y=.ref b/\SqT K H a xs/\SqT K H b ys/\xs.length+ys.length≤sizeLine/\(xs=[]->Q (.ref b) H)/\(ys=[]->Q (.ref a) H)/\(ys≠[]->∀p,H p=none->Q (.ref p) (upd H p (.tup (xs++ys))))
theorem tN:OpR X (binaryOp .Add) (vh X.K):=by
 intro pins s σ H x y v u Q I rx ry h
 obtain⟨a,b,xs,ys,rfl,rfl,ha,hb,hz,q0,q1,q2⟩:=h
 by_cases e:xs=[]
 ·cases rx
  cases ry
  subst e
  obtain⟨its,r1,p1,_⟩:=I.tuple ha
  obtain⟨its2,r2,p2,_⟩:=I.tuple hb
  cases r1
  exact qg p1 p2 ⟨.ref b,H,I,rfl,q0 rfl⟩
 ·exact uk pins s σ H _ _ v u Q I rx ry ⟨a,b,xs,ys,rfl,rfl,ha,hb,e,hz,q1,q2⟩
end L2
namespace U
open PySem PySem.Spec PyProof.Rows L2
variable {B:Bs}{X:Cx}{a b:Expr}{ta tb:TE'}{pos:Pos}
def kO:R2':=fun x y H Q=>match x,y with
 | .tup l,.tup m=>l.length+m.length≤sizeLine/\Q (.tup (l++m)) H
 | _,_=>False
theorem D1{l m:List PV}{H:PHp}{Q:VK'}:kO (.tup l) (.tup m) H Q=(l.length+m.length≤sizeLine/\Q (.tup (l++m)) H):=rfl
theorem uJ{K:PySem.W.Frag}:VR K B kO (vh K):=by
 intro σ' σ H' H x' y' x y Q' Q s rx ry h k
 unfold kO at h
 split at h
 ·rename_i l m
  obtain⟨hl,q⟩:=h
  have rx':=rx
  have ry':=ry
  simp only[RP]at rx ry
  obtain⟨a,us,rfl,ha,r1⟩:=rx
  obtain⟨b,ws,rfl,hb,r2⟩:=ry
  have l1:=RPs.length _ r1
  have l2:=RPs.length _ r2
  refine⟨a,b,us,ws,rfl,rfl,ha,hb,by rw[l1,l2];exact hl,fun e=>?_,fun e=>?_,fun e p hp=>?_⟩
  ·have:l=[]:=List.length_eq_zero_iff.mp (by rw[←l1,e];rfl)
   rw[this,List.nil_append]at q
   exact k _ _ _ _ q ry' s (Ev.refl _ _)
  ·have:m=[]:=List.length_eq_zero_iff.mp (by rw[←l2,e];rfl)
   rw[this,List.append_nil]at q
   exact k _ _ _ _ q rx' s (Ev.refl _ _)
  ·exact k _ _ _ _ q (oG hp (RPs.append _ r1 r2)) (s.hid hp) (Ev.hid hp)
 ·exact h.elim
theorem gU(ha:PE' X B a ta)(hb:PE' X B b tb):PE' X B (.BinOp a .Add b pos) (uOp kO ta tb):=fE tN uJ ha hb
end U
namespace DM
abbrev P2:=Int×Int
def pk(p:P2):Int:=6*p.1+p.2
structure Good (c:Int) (l:List P2):Prop where
 nd:l.Nodup
 lo:∀p∈l,0≤p.1/\p.1<p.2/\p.2<c
theorem jf{α:Type}(k:α->Int):∀{a b:List α},a.Pairwise (fun x y=>k x<k y)->b.Pairwise (fun x y=>k x<k y)->(∀x,x∈a↔x∈b)->a=b
 | [],[],_,_,_=>rfl
 | [],y::b,_,_,h=>by have:=(h y).mpr List.mem_cons_self;simp at this
 | x::a,[],_,_,h=>by have:=(h x).mp List.mem_cons_self;simp at this
 | x::a,y::b,ha,hb,h=>by
  obtain⟨h1,h2⟩:=List.pairwise_cons.mp ha
  obtain⟨g1,g2⟩:=List.pairwise_cons.mp hb
  have e:x=y:=by
   rcases List.mem_cons.mp ((h x).mp List.mem_cons_self)with e | m
   ·exact e
   ·rcases List.mem_cons.mp ((h y).mpr List.mem_cons_self)with e | m'
    ·exact e.symm
    ·have a1:=g1 x m
     have a2:=h1 y m'
     omega
  subst e
  congr 1
  refine jf k h2 g2 fun z=>⟨fun m=>?_,fun m=>?_⟩
  ·rcases List.mem_cons.mp ((h z).mp (List.mem_cons_of_mem _ m))with e | m'
   ·subst e;have:=h1 z m;omega
   ·exact m'
  ·rcases List.mem_cons.mp ((h z).mpr (List.mem_cons_of_mem _ m))with e | m'
   ·subst e;have:=g1 z m;omega
   ·exact m'
theorem eo{a b l:List P2}(ha:a.Perm l)(sa:a.Pairwise (fun x y=>pk x<pk y))(hb:b.Perm l)(sb:b.Pairwise (fun x y=>pk x<pk y)):a=b :=
 jf pk sa sb fun x=>ha.mem_iff.trans hb.mem_iff.symm
theorem Good.prs{c:Int}{l:List P2}(g:Good c l)(hc:c≤6):∀p∈l,p∈SP.prs:=fun p hp=>by
 have:=g.lo p hp
 exact SP.tW (u:=p.1) (v:=p.2) this.1 this.2.1 (by omega)
theorem bI{α:Type}[BEq α][LawfulBEq α]{l m:List α}(nd:l.Nodup)(h:∀x∈l,x∈m):l.length≤m.length:=by
 induction l generalizing m with
 | nil=>simp
 | cons x l ih =>
  obtain⟨h1,h2⟩:=List.nodup_cons.mp nd
  have hx:=h x List.mem_cons_self
  have:=ih (m:=m.erase x) h2 fun y hy=>(List.mem_erase_of_ne (by rintro rfl;exact h1 hy)).mpr (h y (List.mem_cons_of_mem _ hy))
  have e:=List.length_erase_of_mem hx
  have:0<m.length:=List.length_pos_of_mem hx
  simp only[List.length_cons]
  omega
theorem Good.len{c:Int}{l:List P2}(g:Good c l)(hc:c≤6):l.length≤15:=bI g.nd (g.prs hc)
end DM
namespace My
def gd(a b:Int):Int:=(Int.gcd a b:Nat)
abbrev ab(x:Int):Int:=if x<0 then -x else x
end My
namespace My
open U
def BN(n:Nat)(i:Int):Prop:=i.natAbs<2 ^ n
theorem BN.fit{n:Nat}{i:Int}(h:BN n i)(hn:n≤9000):Fit i:=by
 unfold Fit
 unfold BN at h
 rcases Nat.eq_zero_or_pos i.natAbs with h0 | hp
 ·rw[h0,Nat.log2_zero];omega
 ·have:=(Nat.log2_lt (Nat.ne_of_gt hp)).mpr h
  omega
theorem BN.of_le{n:Nat}{i j:Int}(h:BN n i)(g:j.natAbs≤i.natAbs):BN n j:=Nat.lt_of_le_of_lt g h
end My
namespace My
abbrev P2:=Int×Int
inductive Reach (E:List P2) (S:List Int):Int→Prop where
 | base {x:Int} (h:x∈S):Reach E S x
 | step {a b:Int} (h:Reach E S a) (e:(a,b)∈E):Reach E S b
def outs(E:List P2)(a:Int):List Int:=(E.filter fun p=>decide (p.1=a)).map (·.2)
theorem fj{E:List P2}{a b:Int}:b∈outs E a↔(a,b)∈E:=by
 unfold outs
 rw[List.mem_map]
 constructor
 ·rintro⟨⟨x,y⟩,h,rfl⟩
  rw[List.mem_filter]at h
  have:x=a:=of_decide_eq_true h.2
  subst this;exact h.1
 ·intro h
  exact⟨(a,b),List.mem_filter.mpr ⟨h,decide_eq_true rfl⟩,rfl⟩
def bU(E:List P2)(f:List Int)(n:Int):List Int:=if n∈f then f++outs E n else f
theorem ot{E:List P2}{f:List Int}{n x:Int}(h:x∈f):x∈bU E f n:=by
 unfold bU;split
 ·exact List.mem_append_left _ h
 ·exact h
theorem i7{E:List P2}:∀(L:List Int) {f:List Int} {x:Int},x∈f->x∈L.foldl (bU E) f
 | [],_,_,h=>h
 | _::L,_,_,h=>i7 L (ot h)
theorem gE{E:List P2}{S:List Int}:∀(L:List Int) {f:List Int},(∀x∈f,Reach E S x)->∀x∈L.foldl (bU E) f,Reach E S x
 | [],_,h,x,hx=>h x hx
 | n::L,f,h,x,hx=>by
  refine gE L (f:=bU E f n) (fun y hy=>?_) x hx
  unfold bU at hy
  split at hy
  ·rename_i hn
   rcases List.mem_append.mp hy with hy | hy
   ·exact h y hy
   ·exact .step (h n hn) (fj.mp hy)
  ·exact h y hy
def Fwd(E:List P2)(L:List Int):Prop:=∀a b,(a,b)∈E->∀L1 L2,L=L1++L2->b∈L1->a∈L1
theorem fG{E:List P2}:∀(L1 L2:List Int) {f:List Int},(∀a b,(a,b)∈E->a∈L1++L2)->(∀a b,(a,b)∈E->∀M1 M2,L1++L2=M1++M2->b∈M1->a∈M1)->(L1++L2).Nodup ->
  (∀a b,(a,b)∈E->a∈L1->a∈f->b∈f)->∀a b,(a,b)∈E->a∈L2.foldl (bU E) f->b∈L2.foldl (bU E) f
 | L1,[],f,hA,hF,hN,hc,a,b,e,ha=>by
  have:=hA a b e
  rw[List.append_nil]at this
  exact hc a b e this ha
 | L1,n::L2,f,hA,hF,hN,hc,a,b,e,ha=>by
  have eq:L1++n::L2=(L1++[n])++L2:=by simp
  refine fG (L1++[n]) L2 (f:=bU E f n) (by rw[←eq];exact hA) (by rw[←eq];exact hF) (by rw[←eq];exact hN) (fun a b e ha1 ha2=>?_) a b e ha
  -- a among the done ones and in the new found
  unfold bU at ha2 ⊢
  split
  ·rename_i hn
   rw[if_pos hn]at ha2
   rcases List.mem_append.mp ha2 with hf | ho
   ·rcases List.mem_append.mp ha1 with h1 | h1
    ·exact List.mem_append_left _ (hc a b e h1 hf)
    ·have:a=n:=by simpa using h1
     subst this
     exact List.mem_append_right _ (fj.mpr e)
   ·-- a is an out of n,so it stands behind n
    have en:=fj.mp ho
    rcases List.mem_append.mp ha1 with h1 | h1
    ·have q:=hF n a en L1 (n::L2) rfl h1
     rw[List.nodup_append]at hN
     exact absurd rfl (hN.2.2 n q n (List.mem_cons_self))
    ·have:a=n:=by simpa using h1
     subst this
     exact List.mem_append_right _ (fj.mpr e)
  ·rename_i hn
   rw[if_neg hn]at ha2
   rcases List.mem_append.mp ha1 with h1 | h1
   ·exact hc a b e h1 ha2
   ·have:a=n:=by simpa using h1
    subst this
    exact absurd ha2 hn
theorem oO{E:List P2}{L S:List Int}(hA:∀a b,(a,b)∈E->a∈L)(hF:Fwd E L)(hN:L.Nodup)(x:Int):x∈L.foldl (bU E) S↔Reach E S x:=by
 constructor
 ·exact gE L (fun y hy=>.base hy) x
 ·intro h
  induction h with
  | base h=>exact i7 L h
  | step h e ih=>exact fG [] L hA hF hN (fun a b e h=>absurd h (by simp)) _ _ e ih
def zN(f:List Int)(p:P2):List Int:=if p.1∈f/\p.2∉f then f++[p.2]else f
def A7(E:List P2)(f:List Int):List Int:=E.foldl zN f
def yH(E:List P2):Nat->List Int->List Int
 | 0,f=>f
 | n+1,f=>yH E n (A7 E f)
theorem bI:∀(m:Nat) (f:List Int),f.Nodup->(∀x∈f,0≤x/\x<(m:Int))->f.length≤m
 | 0,f,_,h=>by
  cases f with
  | nil=>exact Nat.le_refl _
  | cons x f=>have:=h x List.mem_cons_self;omega
 | m+1,f,hn,h=>by
  have q:=bI m (f.erase (m:Int)) (hn.erase _) (fun x hx=>by
   have hx':=List.mem_of_mem_erase hx
   have:=h x hx'
   have ne:x≠(m:Int):=(List.Nodup.mem_erase_iff hn).mp hx |>.1
   omega)
  by_cases hm:(m:Int)∈f
  ·rw[List.length_erase_of_mem hm]at q;omega
  ·rw[List.erase_of_not_mem hm]at q;omega
theorem eH:∀{xs ys:List Int},xs.Pairwise (·<·)->ys.Pairwise (·<·)->(∀x,x∈xs↔x∈ys)->xs=ys
 | [],[],_,_,_=>rfl
 | [],y::ys,_,_,h=>absurd ((h y).mpr List.mem_cons_self) (by simp)
 | x::xs,[],_,_,h=>absurd ((h x).mp List.mem_cons_self) (by simp)
 | x::xs,y::ys,hx,hy,h=>by
  rw[List.pairwise_cons]at hx hy
  have e:x=y:=by
   have h1:=(h x).mp List.mem_cons_self
   have h2:=(h y).mpr List.mem_cons_self
   rcases List.mem_cons.mp h1 with h1 | h1
   ·exact h1
   ·rcases List.mem_cons.mp h2 with h2 | h2
    ·exact h2.symm
    ·have:=hx.1 y h2;have:=hy.1 x h1;omega
  subst e
  rw[eH hx.2 hy.2 fun z=>?_]
  constructor
  ·intro hz
   rcases List.mem_cons.mp ((h z).mp (List.mem_cons_of_mem _ hz))with q | q
   ·have:=hx.1 z hz;omega
   ·exact q
  ·intro hz
   rcases List.mem_cons.mp ((h z).mpr (List.mem_cons_of_mem _ hz))with q | q
   ·have:=hy.1 z hz;omega
   ·exact q
end My
namespace My
section
variable {α:Type}
def Chn(R:α->α->Prop):List α->Prop
 | a::b::l=>R a b/\Chn R (b::l)
 | _=>True
theorem bP{R:α->α->Prop}:∀{p q:List α},Chn R (p++q)↔Chn R p/\Chn R q/\∀a∈p.getLast?,∀b∈q.head?,R a b
 | [],q=>by simp[Chn]
 | [a],[]=>by simp[Chn]
 | [a],b::q=>by simp[Chn,and_comm]
 | a::b::p,q=>by
  have ih:=bP (R:=R) (p:=b::p) (q:=q)
  have e1:Chn R (a::b::p++q)↔R a b/\Chn R (b::p++q):=Iff.rfl
  have e2:Chn R (a::b::p)↔R a b/\Chn R (b::p):=Iff.rfl
  rw[e1,e2,ih,List.getLast?_cons_cons,and_assoc]
theorem jM{R:α->α->Prop}:∀{l:List α} {i:Nat} {a b:α},Chn R l->l[i]?=some a->l[i+1]?=some b->R a b
 | [],i,a,b,_,h,_=>by simp at h
 | [x],i,a,b,_,_,h=>by simp at h
 | x::y::l,0,a,b,c,h,g=>by
  simp at h g;subst h;subst g;exact c.1
 | x::y::l,i+1,a,b,c,h,g=>jM (l:=y::l) (i:=i) c.2 (by simpa using h) (by simpa using g)
theorem cQ:∀(p:List α) {s:α} {t:List α},(p++s::t).getLast?=(s::t).getLast?
 | [],_,_=>rfl
 | [a],s,t=>List.getLast?_cons_cons
 | a::b::p,s,t=>by
  show(a::b::(p++s::t)).getLast?=_
  rw[List.getLast?_cons_cons]
  exact cQ (b::p)
theorem i4{β:Type}[DecidableEq β](f:α->β):∀{l:List α},¬(l.map f).Nodup->∃p s q s' t,l=p++s::(q++s'::t)/\f s=f s'
 | [],h=>absurd List.nodup_nil h
 | a::l,h=>by
  by_cases m:f a∈l.map f
  ·obtain⟨s',hs,e⟩:=List.mem_map.mp m
   obtain⟨q,t,rfl⟩:=List.append_of_mem hs
   exact⟨[],a,q,s',t,rfl,e.symm⟩
  ·have:¬(l.map f).Nodup:=fun n=>h (by rw[List.map_cons,List.nodup_cons];exact⟨m,n⟩)
   obtain⟨p,s,q,s',t,rfl,e⟩:=i4 f this
   exact⟨a::p,s,q,s',t,rfl,e⟩
theorem dh{β:Type}{f:α->List β}{n:Nat}:∀{l:List α},(∀x∈l,(f x).length≤n)->(l.flatMap f).length≤l.length*n
 | [],_=>by simp
 | a::l,h=>by
  have:=dh (f:=f) (l:=l) fun x hx=>h x (List.mem_cons_of_mem _ hx)
  have h1:=h a List.mem_cons_self
  rw[List.flatMap_cons,List.length_append,List.length_cons,Nat.add_mul]
  omega
end
section
variable {κ:Type}[DecidableEq κ]
abbrev Stp(κ:Type):=Int×κ×Int
structure Lnk (dn up:κ) (G A:List Int) (s s':Stp κ):Prop where
 jn:s.2.2=s'.1
 mt:s.2.1≠up->s'.2.1≠dn->s.2.2∈A
 no:s.2.1=up∨s'.2.1=dn->s.2.2∉G
def nm(r:List (Stp κ)):List Int:=match r with
 | []=>[]
 | s::t=>s.1::(s::t).map (·.2.2)
structure Rd (Ed:Stp κ→Prop) (dn up:κ) (G A ones:List Int) (r:List (Stp κ)):Prop where
 hd:∃s∈r.head?,s.1∈ones
 ed:∀s∈r,Ed s
 ch:Chn (Lnk dn up G A) r
variable {Ed:Stp κ->Prop}{dn up:κ}{G A ones others:List Int}
theorem vD(ne:dn≠up)(hA:∀a b,Ed (a,dn,b)->b∈A->a∈A):∀{q:List (Stp κ)} {s e:Stp κ},(∀x∈s::q,Ed x)->Chn (Lnk dn up G A) (s::q)->s.2.1=dn->(s::q).getLast?=some e->e.2.1=up->s.1∈A
 | [],s,e,_,_,k,l,u=>by
  simp at l;subst l;exact absurd (k.symm.trans u) ne
 | s'::q,s,e,hd,c,k,l,u=>by
  have hs:Ed (s.1,dn,s.2.2):=by rw[←k];exact hd s List.mem_cons_self
  refine hA _ _ hs ?_
  by_cases k':s'.2.1=dn
  ·have:=vD ne hA (q:=q) (s:=s') (e:=e) (fun x hx=>hd x (List.mem_cons_of_mem _ hx)) c.2 k' (by rw[←l,List.getLast?_cons_cons]) u
   rw[c.1.jn];exact this
  ·exact c.1.mt (by rw[k];exact ne) k'
theorem short(ne:dn≠up)(hA:∀a b,Ed (a,dn,b)->b∈A->a∈A)(ap:∀x∈ones,x∉others):∀(n:Nat) (r:List (Stp κ)),r.length≤n->Rd Ed dn up G A ones r->(∃e∈r.getLast?,e.2.2∈others) ->
  ∃r',Rd Ed dn up G A ones r'/\(∃e∈r'.getLast?,e.2.2∈others)/\(nm r').Nodup
 | 0,r,hl,h,_=>by
  obtain⟨s,hs,_⟩:=h.hd
  have:r=[]:=List.length_eq_zero_iff.mp (by omega)
  subst this;cases hs
 | n+1,r,hl,h,hx=>by
  by_cases nd:(nm r).Nodup
  ·exact⟨r,h,hx,nd⟩
  obtain⟨s0,hs0,h0⟩:=h.hd
  obtain⟨e,he,hb⟩:=hx
  cases r with
  | nil=>cases hs0
  | cons s1 t1 =>
  have es:s1=s0:=by simpa using hs0
  subst es
  have cut:(∃q s t,s1::t1=q++s::t/\s.2.2=s1.1)∨¬((s1::t1).map (·.2.2)).Nodup:=by
   by_cases m:s1.1∈(s1::t1).map (·.2.2)
   ·obtain⟨s,hs,e⟩:=List.mem_map.mp m
    obtain⟨q,t,e2⟩:=List.append_of_mem hs
    exact .inl ⟨q,s,t,e2,e⟩
   ·exact .inr fun n=>nd (List.nodup_cons.mpr ⟨m,n⟩)
  rcases cut with⟨q,s,t,er,es⟩ | dup
  ·rw[er]at h hl he
   have c:=bP.mp h.ch
   cases t with
   | nil =>
    simp at he;subst he
    exact absurd hb (by rw[es];exact ap _ h0)
   | cons s2 t =>
    have hl2:(s2::t).length≤n:=by simp at hl ⊢;omega
    refine short ne hA ap n (s2::t) hl2 ⟨⟨s2,rfl,?_⟩,fun x hx=>h.ed x (by simp at hx ⊢;grind),c.2.1.2⟩ ⟨e,?_,hb⟩
    ·rw[←c.2.1.1.jn,es];exact h0
    ·have:(q++s::s2::t).getLast?=(s2::t).getLast?:=by rw[cQ,List.getLast?_cons_cons]
     rw[←this];exact he
  ·obtain⟨p,s,q,s',t,er,es⟩:=i4 _ dup
   rw[er]at h hl he
   have c:=bP.mp h.ch
   have c1:=c.2.1
   have e1:s::(q++s'::t)=(s::q)++s'::t:=rfl
   rw[e1]at c1
   have c2:=bP.mp c1
   have hds:∃z∈(p++[s]).head?,z.1∈ones:=by
    obtain⟨z,hz,hz1⟩:=h.hd
    refine⟨z,?_,hz1⟩
    cases p with
    | nil=>simpa using hz
    | cons _ _=>simpa using hz
   cases t with
   | nil =>
    refine short ne hA ap n (p++[s]) (by simp at hl ⊢;omega) ⟨hds,fun x hx=>h.ed x (by simp at hx ⊢;grind),?_⟩ ⟨s,by simp,?_⟩
    ·exact bP.mpr ⟨c.1,trivial,c.2.2⟩
    ·have:e=s':=by
      have:(p++s::(q++[s'])).getLast?=some s':=by rw[cQ,← List.cons_append,cQ];rfl
      rw[this]at he;exact(Option.some.inj he).symm
     subst this
     show s.2.2∈others
     rw[show s.2.2=e.2.2 from es];exact hb
   | cons s2 t =>
    have l2:Lnk dn up G A s' s2:=c2.2.1.1
    obtain⟨m,q',eq⟩:∃m q',q++[s']=m::q':=by
     cases q with
     | nil=>exact⟨s',[],rfl⟩
     | cons m q=>exact⟨m,q++[s'],rfl⟩
    have cm:Chn (Lnk dn up G A) (s::m::(q'++s2::t)):=by
     have:s::m::(q'++s2::t)=s::(q++s'::s2::t):=by
      have e3:q++s'::s2::t=(q++[s'])++s2::t:=by simp
      rw[e3,eq];rfl
     rw[this];exact c.2.1
    have l1:Lnk dn up G A s m:=cm.1
    have inA:s.2.1≠up->s2.2.1≠dn->s.2.2∈A:=fun k1 k2=>by
     by_cases km:m.2.1=dn
     ·by_cases ks:s'.2.1=up
      ·rw[l1.jn]
       have cq:Chn (Lnk dn up G A) (m::q'):=((bP (p:=m::q') (q:=s2::t)).mp cm.2).1
       refine vD ne hA (q:=q') (s:=m) (e:=s') (fun x hx=>h.ed x ?_) cq km (by rw[←eq];simp) ks
       rw[←eq]at hx
       simp at hx ⊢
       grind
      ·show s.2.2∈A
       rw[show s.2.2=s'.2.2 from es];exact l2.mt ks k2
     ·exact l1.mt k1 km
    refine short ne hA ap n (p++s::s2::t) (by simp at hl ⊢;omega) ⟨?_,fun x hx=>h.ed x (by simp at hx ⊢;grind),bP.mpr ⟨c.1,⟨⟨?_,inA,?_⟩,c2.2.1.2⟩,c.2.2⟩⟩ ⟨e,?_,hb⟩
    ·obtain⟨z,hz,hz1⟩:=hds
     refine⟨z,?_,hz1⟩
     cases p with
     | nil=>simpa using hz
     | cons _ _=>simpa using hz
    ·rw[show s.2.2=s'.2.2 from es];exact l2.jn
    ·rintro(k | k)
     ·exact l1.no (.inl k)
     ·rw[show s.2.2=s'.2.2 from es];exact l2.no (.inr k)
    ·have h1:(p++s::s2::t).getLast?=(s2::t).getLast?:=by rw[cQ,List.getLast?_cons_cons]
     have h2:(p++s::(q++s'::s2::t)).getLast?=(s2::t).getLast?:=by rw[cQ,← List.cons_append,cQ,List.getLast?_cons_cons]
     rw[h1,← h2];exact he
inductive RS (Ed:Stp κ→Prop) (dn up:κ) (G A ones:List Int):Int→Bool→Prop where
 | base {x:Int} (h:x∈ones):RS Ed dn up G A ones x false
 | step {n m:Int} {p:Bool} {k:κ} (h:RS Ed dn up G A ones n p) (e:Ed (n,k,m)) (h1:k=dn->n∉G) (h2:k≠dn->p=true->n∈A) (h3:k≠dn->p=false->n∉G):RS Ed dn up G A ones m (decide (k≠up))
theorem ug(gn:∀x∈ones,x∉G){x:Int}{p:Bool}(h:RS Ed dn up G A ones x p):(x∈ones/\p=false)∨∃r,Rd Ed dn up G A ones r/\∃e∈r.getLast?,e.2.2=x/\decide (e.2.1≠up)=p:=by
 induction h with
 | base h=>exact .inl ⟨h,rfl⟩
 | step h e h1 h2 h3 ih =>
  rename_i n m p k
  refine .inr ?_
  rcases ih with⟨ho,rfl⟩ |⟨r,rd,l,hl,rfl,hp⟩
  ·exact⟨[(n,k,m)],⟨⟨_,rfl,ho⟩,fun s hs=>by rw[List.mem_singleton.mp hs];exact e,trivial⟩,_,rfl,rfl,rfl⟩
  ·refine⟨r++[(l.2.2,k,m)],⟨?_,fun s hs=>?_,bP.mpr ⟨rd.ch,trivial,fun a ha b hb=>?_⟩⟩,(l.2.2,k,m),by simp,rfl,rfl⟩
   ·obtain⟨z,hz,h0⟩:=rd.hd
    refine⟨z,?_,h0⟩
    cases r with
    | nil=>cases hz
    | cons _ _=>simpa using hz
   ·rcases List.mem_append.mp hs with q | q
    ·exact rd.ed s q
    ·rw[List.mem_singleton.mp q];exact e
   ·have ea:a=l:=by rw[hl]at ha;exact(Option.some.inj ha).symm
    have eb:b=(l.2.2,k,m):=by simpa using hb.symm
    subst ea;subst eb
    refine⟨rfl,fun k1 k2=>h2 k2 (by rw[←hp];exact decide_eq_true k1),?_⟩
    rintro(z | z)
    ·by_cases kd:k=dn
     ·exact h1 kd
     ·exact h3 kd (by rw[←hp,z];simp)
    ·exact h1 z
theorem tF(ne:dn≠up)(hA:∀a b,Ed (a,dn,b)->b∈A->a∈A)(ap:∀x∈ones,x∉others)(gn:∀x∈ones,x∉G){x:Int}{p:Bool}(h:RS Ed dn up G A ones x p)(hx:x∈others) :
  ∃r,Rd Ed dn up G A ones r/\(∃e∈r.getLast?,e.2.2∈others)/\(nm r).Nodup:=by
 rcases ug gn h with⟨ho,_⟩ |⟨r,rd,e,he,rfl,_⟩
 ·exact absurd hx (ap x ho)
 ·exact short ne hA ap r.length r (Nat.le_refl _) rd ⟨e,he,hx⟩
end
theorem x5{ts:List P2}{G:List Int}{m:Int}(h:Reach (ts.map fun p=>(p.2,p.1)) G m):∃w,w.head?=some m/\Chn (fun a b=>(a,b)∈ts) w/\∃e∈w.getLast?,e∈G:=by
 induction h with
 | base h=>exact⟨[_],rfl,trivial,_,rfl,h⟩
 | step h e ih =>
  obtain⟨w,h1,h2,e1,h3,h4⟩:=ih
  obtain⟨p,hp,ep⟩:=List.mem_map.mp e
  cases ep
  cases w with
  | nil=>cases h3
  | cons a w =>
   have:a=p.2:=by simpa using h1
   subst this
   exact⟨p.1::p.2::w,rfl,⟨hp,h2⟩,e1,by rw[List.getLast?_cons_cons];exact h3,h4⟩
theorem lS{ts:List P2}(lt:∀a b,(a,b)∈ts->a<b):∀{w:List Int},Chn (fun a b=>(a,b)∈ts) w->w.Pairwise (·<·)
 | [],_=>.nil
 | [a],_=>List.pairwise_singleton _ a
 | a::b::w,h=>by
  have ih:=lS lt h.2
  have hab:=lt a b h.1
  refine List.pairwise_cons.mpr ⟨fun x hx=>?_,ih⟩
  rcases List.mem_cons.mp hx with rfl | hx
  ·exact hab
  ·have:=(List.pairwise_cons.mp ih).1 x hx;omega
end My
namespace Lw
open PySem L2 U PyProof.Rows
theorem boot_all:bootBuiltins "all"=some (.builtin "all"):=by decide +kernel
theorem boot_sorted:bootBuiltins "sorted"=some (.builtin "sorted"):=by decide +kernel
theorem boot_set:bootBuiltins "set"=some (.type "set"):=by decide +kernel
theorem boot_min:bootBuiltins "min"=some (.builtin "min"):=by decide +kernel
theorem boot_max:bootBuiltins "max"=some (.builtin "max"):=by decide +kernel
theorem w4{x y:PV}:atI [x,y] 0=some x:=rfl
theorem wx{x y:PV}:atI [x,y] 1=some y:=rfl
theorem boot_bool:bootBuiltins "bool"=some (.type "bool"):=by decide +kernel
theorem ck{X:Cx}{N2:List Str}{nt:Nat}{js:List Nat}{scope sc:Scope}{cl:List (Str×Addr)}(clos:closureFor scope X.env=pure cl:=by exact rfl)(sub:nX X.env.cells cl:=by repeat (first | exact trivial | refine⟨rfl,?_⟩))(xsc:X.env.scope=sc:=by rfl)(kind:scope.kind=.function:=by rfl)
  (nocell:∀y∈scope.names,y.2≠.cell:=by decide +kernel) (loc:∀y∈scope.names,y.2=.local->scope.names.lookup y.1=some .local:=by decide +kernel) (names:cl.map (·.1)=((scope.names.filter (·.2==.free)).map (·.1)).reverse:=by rfl)
  (frs:∀x∈N2.drop nt,scope.names.lookup x=some .free/\sc.names.lookup x=some .cell:=by decide +kernel) (len:N2.length=nt+js.length:=by rfl) (pl:js.map (fun j=>X.N[j]?)=(N2.drop nt).map some:=by rfl):cx X N2 nt js scope cl sc:=cok clos sub xsc kind nocell loc names frs len pl
def top(i:Nat):Stmt:=PySem.Challenge.pw_doingbook_k61_rules_that_join.main.body.getD i (.Pass ⟨0,0,0,0⟩)
abbrev xO:Stmt:=top 12
local macro_rules | `(tactic| walk_at "q") => `(tactic| exact ⟨rfl, rfl, rfl, by decide +kernel, rfl, by decide +kernel, by decide +kernel⟩)
theorem zk:aE ["count","pair"] ["count","pair"] (ao xO):=by walk_at "q"
abbrev sR:Stmt:=top 13
theorem A8:aE ["count","pairs"] ["count","pairs"] (ao sR):=by walk_at "q"
abbrev xC:Stmt:=top 14
theorem mI:aE ["count","names","ahead","name"] ["count","names"] (ao xC):=by walk_at "q"
abbrev uh:Stmt:=top 15
theorem AJ:aE ["names","others"] ["names","others"] (ao uh):=by walk_at "q"
abbrev wc:Stmt:=top 16
theorem Bh:aE ["names","others"] ["names","others"] (ao wc):=by walk_at "q"
abbrev l9:Stmt:=inClass (top 17) 0
theorem jc:aE ["self","count","ties","bows","own_ties","own_bows"] ["self","count","ties","bows"] (ao l9):=by walk_at "q"
abbrev xK:Stmt:=inClass (top 17) 2
theorem Bb:aE ["self","name"] ["self","name"] (ao xK):=by walk_at "q"
abbrev yR:Stmt:=inClass (top 17) 3
theorem zr:aE ["self","names"] ["self","names"] (ao yR):=by walk_at "q"
abbrev sX:Stmt:=inClass (top 17) 4
theorem zP:aE ["self","name"] ["self","name"] (ao sX):=by walk_at "q"
abbrev su:Stmt:=inClass (top 17) 5
theorem AI:aE ["self","name"] ["self","name"] (ao su):=by walk_at "q"
abbrev wz:Stmt:=inClass (top 17) 6
theorem pE:aE ["self","names","found","name"] ["self","names"] (ao wz):=by walk_at "q"
abbrev rb:Stmt:=inClass (top 17) 8
theorem pM:aE ["self","name","ahead","behind"] ["self","name"] (ao rb):=by walk_at "q"
abbrev p8:Stmt:=inClass (top 17) 12
theorem qF:aE ["self","names","ties","bows"] ["self","names"] (ao p8):=by walk_at "q"
abbrev sM:Stmt:=inClass (top 17) 13
theorem vq:aE ["self","names","ties"] ["self","names"] (ao sM):=by walk_at "q"
abbrev vW:Stmt:=top 18
theorem vk:aE ["drawing","sets","names"] ["drawing","sets"] (ao vW):=by walk_at "q"
abbrev xt:Stmt:=top 19
theorem qj:aE ["sets","named","names"] ["sets"] (ao xt):=by walk_at "q"
abbrev xc:Stmt:=top 21
theorem zU:aE ["drawing","ones","others","given"] ["drawing","ones","others","given"] (ao xc):=by walk_at "q"
abbrev wL:Stmt:=top 22
theorem zL:aE ["step"] ["step"] (ao wL):=by walk_at "q"
abbrev v9:Stmt:=top 23
theorem Bn:aE ["step"] ["step"] (ao v9):=by walk_at "q"
abbrev wA:Stmt:=top 24
theorem zW:aE ["step","behind"] ["step","behind"] (ao wA):=by walk_at "q"
abbrev oK:Stmt:=top 25
theorem mS:aE ["drawing","name","down","up","bow"] ["drawing","name"] (ao oK):=by walk_at "q"
abbrev uZ:Stmt:=top 26
theorem y6:aE ["road"] ["road"] (ao uZ):=by walk_at "q"
abbrev uz:Stmt:=top 27
theorem As:aE ["road"] ["road"] (ao uz):=by walk_at "q"
abbrev yr:Stmt:=top 28
theorem Bu:aE ["step","behind","given","above"] ["step","behind","given","above"] (ao yr):=by walk_at "q"
abbrev nY:Stmt:=top 29
theorem m5:aE ["drawing","standing","given","above","name","pointed","asked"] ["drawing","standing","given","above"] (ao nY):=by walk_at "q"
abbrev uO:Stmt:=top 30
theorem kc:aE ["drawing","ones","given","above","waiting","told","standing"] ["drawing","ones","given"] (ao uO):=by walk_at "q"
abbrev tX:Stmt:=top 31
theorem qo:aE ["drawing","names","told","name"] ["drawing","names"] (ao tX):=by walk_at "q"
abbrev x9:Stmt:=top 32
theorem jk:aE ["drawing","roads","given","above","told","road","names","step"] ["drawing","roads","given"] (ao x9):=by walk_at "q"
abbrev qB:Stmt:=top 33
theorem ll:aE ["drawing","ones","others","given","roads","found"] ["drawing","ones","others","given"] (ao qB):=by walk_at "q"
abbrev oW:Stmt:=top 34
theorem ij:aE ["drawing","meeting","given","ways","found","longer","way"] ["drawing","meeting","given"] (ao oW):=by walk_at "q"
abbrev sg:Stmt:=top 35
theorem zm:aE ["drawing","road","given"] ["drawing","road","given"] (ao sg):=by walk_at "q"
abbrev uP:Stmt:=top 36
theorem pY:aE ["drawing","ones","others","given","standings","road"] ["drawing","ones","others","given"] (ao uP):=by walk_at "q"
abbrev xG:Stmt:=top 42
theorem zx:aE ["statement"] ["statement"] (ao xG):=by walk_at "q"
abbrev wg:Stmt:=top 43
theorem vJ:aE ["drawing","number","statement","names","cut"] ["drawing","number","statement","names"] (ao wg):=by walk_at "q"
abbrev yn:Stmt:=top 44
theorem zR:aE ["drawing","number","statement","names"] ["drawing","number","statement","names"] (ao yn):=by walk_at "q"
abbrev xW:Stmt:=top 46
theorem Bj:aE ["_law_script","_law_k"] ["_law_script","_law_k"] (ao xW):=by walk_at "q"
abbrev yz:Stmt:=top 47
theorem qZ:aE ["_law_cell","_law_place","_law_number"] ["_law_cell","_law_place"] (ao yz):=by walk_at "q"
abbrev xE:Stmt:=top 48
theorem AM:aE ["_law_found"] ["_law_found"] (ao xE):=by walk_at "q"
abbrev xY:Stmt:=top 49
theorem dU:aE ["_law_script","_law_at","_law_many","_law_ties","_law_bows","_law_cell","_law_number","_law_place","_law_one","_law_two","_law_kind"] ["_law_script","_law_at","_law_many"] (ao xY):=by walk_at "q"
abbrev yl:Stmt:=top 50
theorem mX:aE ["_law_drawn","_law_names","_law_found","_law_one","_law_two"] ["_law_drawn","_law_names"] (ao yl):=by walk_at "q"
abbrev rh:Stmt:=top 52
theorem rB:aE ["_law_drawn","_law_into","_law_out","_law_ties","_law_bows"] ["_law_drawn","_law_into","_law_out"] (ao rh):=by walk_at "q"
abbrev mG:Stmt:=top 53
theorem gy:aE ["_law_drawn","_law_standing","_law_given","_law_above_here","_law_name","_law_pointed","_law_found"] ["_law_drawn","_law_standing","_law_given","_law_above_here"] (ao mG):=by walk_at "q"
abbrev ue:Stmt:=top 54
theorem jw:aE ["_law_drawn","_law_ones","_law_given","_law_above_here","_law_found","_law_at","_law_later"] ["_law_drawn","_law_ones","_law_given"] (ao ue):=by walk_at "q"
abbrev sk:Stmt:=top 55
theorem AY:aE ["_law_drawn","_law_ones","_law_others","_law_given"] ["_law_drawn","_law_ones","_law_others","_law_given"] (ao sk):=by walk_at "q"
abbrev uU:Stmt:=top 56
theorem mW:aE ["_law_drawn","_law_ones","_law_others","_law_given","_law_standings","_law_above_here","_law_standing","_law_later"] ["_law_drawn","_law_ones","_law_others","_law_given","_law_standings"] (ao uU):=by walk_at "q"
abbrev xN:Stmt:=top 57
theorem Bg:aE ["_law_drawn","_law_step"] ["_law_drawn","_law_step"] (ao xN):=by walk_at "q"
abbrev yE:Stmt:=top 58
theorem vA:aE ["_law_drawn","_law_name","_law_way","_law_given","_law_k"] ["_law_drawn","_law_name","_law_way","_law_given"] (ao yE):=by walk_at "q"
abbrev wD:Stmt:=top 59
theorem y8:aE ["_law_step","_law_further"] ["_law_step","_law_further"] (ao wD):=by walk_at "q"
abbrev oX:Stmt:=top 60
theorem kJ:aE ["_law_drawn","_law_ones","_law_others","_law_given","_law_road","_law_ways","_law_names","_law_met","_law_step","_law_further"] ["_law_drawn","_law_ones","_law_others","_law_given","_law_road","_law_ways"] (ao oX):=by walk_at "q"
abbrev wt:Stmt:=top 61
theorem Bl:aE ["_law_drawn","_law_ones","_law_others","_law_given","_law_found"] ["_law_drawn","_law_ones","_law_others","_law_given","_law_found"] (ao wt):=by walk_at "q"
abbrev qz:Stmt:=top 62
theorem iD:aE ["_law_cell","_law_many","_law_kinds","_law_sets","_law_number","_law_name","_law_kind"] ["_law_cell","_law_many","_law_kinds"] (ao qz):=by walk_at "q"
abbrev xD:Stmt:=top 63
theorem kZ:aE ["_law_sets","_law_kind","_law_place","_law_k","_law_found"] ["_law_sets","_law_kind"] (ao xD):=by walk_at "q"
abbrev tM:Stmt:=top 64
theorem je:aE ["_law_drawn","_law_number","_law_statement","_law_names","_law_asked","_law_ones","_law_seen","_law_cut_here","_law_above_here"] ["_law_drawn","_law_number","_law_statement","_law_names"] (ao tM):=by walk_at "q"
abbrev wO:Stmt:=top 65
theorem Ag:aE ["_law_one","_law_two"] ["_law_one","_law_two"] (ao wO):=by walk_at "q"
abbrev wC:Stmt:=top 67
theorem vw:aE ["_law_found","_law_way"] ["_law_found"] (ao wC):=by walk_at "q"
abbrev v7:Stmt:=top 68
theorem cB:aE ["_law_script","_law_many","_law_drawn","_law_drawing","_law_cell","_law_asked","_law_names","_law_ones","_law_seen","_law_rest","_law_given","_law_number","_law_cut_here","_law_found","_law_side","_law_again"] ["_law_script"] (ao v7):=by walk_at "q"
set_option genInjectivity false
structure Ad where
 a_zY:Addr
 d_zY:FuncData
 a_zN:Addr
 d_zN:FuncData
 a_yb:Addr
 d_yb:FuncData
 a_zZ:Addr
 d_zZ:FuncData
 a_zU:Addr
 d_zU:FuncData
 a_zw:Addr
 d_zw:FuncData
 a_zb:Addr
 d_zb:FuncData
 a_zd:Addr
 d_zd:FuncData
 a_ze:Addr
 d_ze:FuncData
 a_za:Addr
 d_za:FuncData
 a_zc:Addr
 d_zc:FuncData
 a_zk:Addr
 d_zk:FuncData
 a_zi:Addr
 d_zi:FuncData
 a_zg:Addr
 d_zg:FuncData
 a_zM:Addr
 d_zM:FuncData
 a_zG:Addr
 d_zG:FuncData
 a_zu:Addr
 d_zu:FuncData
 a_zo:Addr
 d_zo:FuncData
 a_zj:Addr
 d_zj:FuncData
 a_zH:Addr
 d_zH:FuncData
 a_zI:Addr
 d_zI:FuncData
 a_zV:Addr
 d_zV:FuncData
 a_zW:Addr
 d_zW:FuncData
 a_zQ:Addr
 d_zQ:FuncData
 a_zp:Addr
 d_zp:FuncData
 a_zE:Addr
 d_zE:FuncData
 a_zD:Addr
 d_zD:FuncData
 a_zq:Addr
 d_zq:FuncData
 a_zm:Addr
 d_zm:FuncData
 a_zt:Addr
 d_zt:FuncData
 a_zR:Addr
 d_zR:FuncData
 a_yc:Addr
 d_yc:FuncData
 a_zS:Addr
 d_zS:FuncData
 a_zv:Addr
 d_zv:FuncData
 a_yd:Addr
 d_yd:FuncData
 a_zz:Addr
 d_zz:FuncData
 a_zK:Addr
 d_zK:FuncData
 a_zJ:Addr
 d_zJ:FuncData
 a_zs:Addr
 d_zs:FuncData
 a_zO:Addr
 d_zO:FuncData
 a_ya:Addr
 d_ya:FuncData
 a_zn:Addr
 d_zn:FuncData
 a_zB:Addr
 d_zB:FuncData
 a_zT:Addr
 d_zT:FuncData
 a_zC:Addr
 d_zC:FuncData
 a_zA:Addr
 d_zA:FuncData
 a_zF:Addr
 d_zF:FuncData
 a_zL:Addr
 d_zL:FuncData
 a_zx:Addr
 d_zx:FuncData
 a_zf:Addr
 d_zf:FuncData
 a_zP:Addr
 d_zP:FuncData
 a_zr:Addr
 d_zr:FuncData
 a_zh:Addr
 d_zh:FuncData
 a_zX:Addr
 d_zX:FuncData
 a_zy:Addr
 d_zy:FuncData
 a_ye:Addr
 d_ye:FuncData
 a_Drawing:Addr
 a_MORE:Addr
structure Tx (K:PySem.W.Frag) (mg:Str→Option Value) (t:Ad):Prop where
 F_zY:Fun K "is_pair" "is_pair" xO t.a_zY t.d_zY
 B_zY:Binds K t.d_zY ["count","pair"] []
 g_zY:mg "is_pair"=some (.ref t.a_zY)
 F_zN:Fun K "are_pairs" "are_pairs" sR t.a_zN t.d_zN
 B_zN:Binds K t.d_zN ["count","pairs"] []
 g_zN:mg "are_pairs"=some (.ref t.a_zN)
 F_yb:Fun K "is_set" "is_set" xC t.a_yb t.d_yb
 B_yb:Binds K t.d_yb ["count","names"] []
 g_yb:mg "is_set"=some (.ref t.a_yb)
 F_zZ:Fun K "without" "without" uh t.a_zZ t.d_zZ
 B_zZ:Binds K t.d_zZ ["names","others"] []
 g_zZ:mg "without"=some (.ref t.a_zZ)
 F_zU:Fun K "together" "together" wc t.a_zU t.d_zU
 B_zU:Binds K t.d_zU ["names","others"] []
 g_zU:mg "together"=some (.ref t.a_zU)
 F_zw:Fun K "__init__" "Drawing.__init__" l9 t.a_zw t.d_zw
 B_zw:Binds K t.d_zw ["self","count","ties","bows"] []
 F_zb:Fun K "need_name" "Drawing.need_name" xK t.a_zb t.d_zb
 B_zb:Binds K t.d_zb ["self","name"] []
 m_zb:Meth K t.a_Drawing "need_name" t.a_zb
 F_zd:Fun K "need_set" "Drawing.need_set" yR t.a_zd t.d_zd
 B_zd:Binds K t.d_zd ["self","names"] []
 m_zd:Meth K t.a_Drawing "need_set" t.a_zd
 F_ze:Fun K "sources" "Drawing.sources" sX t.a_ze t.d_ze
 B_ze:Binds K t.d_ze ["self","name"] []
 m_ze:Meth K t.a_Drawing "sources" t.a_ze
 F_za:Fun K "followers" "Drawing.followers" su t.a_za t.d_za
 B_za:Binds K t.d_za ["self","name"] []
 m_za:Meth K t.a_Drawing "followers" t.a_za
 F_zc:Fun K "ancestors" "Drawing.ancestors" wz t.a_zc t.d_zc
 B_zc:Binds K t.d_zc ["self","names"] []
 m_zc:Meth K t.a_Drawing "ancestors" t.a_zc
 F_zk:Fun K "bowed" "Drawing.bowed" rb t.a_zk t.d_zk
 B_zk:Binds K t.d_zk ["self","name"] []
 m_zk:Meth K t.a_Drawing "bowed" t.a_zk
 F_zi:Fun K "cut_in" "Drawing.cut_in" p8 t.a_zi t.d_zi
 B_zi:Binds K t.d_zi ["self","names"] []
 m_zi:Meth K t.a_Drawing "cut_in" t.a_zi
 F_zg:Fun K "cut_out" "Drawing.cut_out" sM t.a_zg t.d_zg
 B_zg:Binds K t.d_zg ["self","names"] []
 m_zg:Meth K t.a_Drawing "cut_out" t.a_zg
 F_zM:Fun K "need_sets" "need_sets" vW t.a_zM t.d_zM
 B_zM:Binds K t.d_zM ["drawing","sets"] []
 g_zM:mg "need_sets"=some (.ref t.a_zM)
 F_zG:Fun K "need_apart" "need_apart" xt t.a_zG t.d_zG
 B_zG:Binds K t.d_zG ["sets"] []
 g_zG:mg "need_apart"=some (.ref t.a_zG)
 F_zu:Fun K "need_barring" "need_barring" xc t.a_zu t.d_zu
 B_zu:Binds K t.d_zu ["drawing","ones","others","given"] []
 g_zu:mg "need_barring"=some (.ref t.a_zu)
 F_zo:Fun K "points_at_to" "points_at_to" wL t.a_zo t.d_zo
 B_zo:Binds K t.d_zo ["step"] []
 g_zo:mg "points_at_to"=some (.ref t.a_zo)
 F_zj:Fun K "points_at_from" "points_at_from" v9 t.a_zj t.d_zj
 B_zj:Binds K t.d_zj ["step"] []
 g_zj:mg "points_at_from"=some (.ref t.a_zj)
 F_zH:Fun K "is_meeting" "is_meeting" wA t.a_zH t.d_zH
 B_zH:Binds K t.d_zH ["step","behind"] []
 g_zH:mg "is_meeting"=some (.ref t.a_zH)
 F_zI:Fun K "steps_from" "steps_from" oK t.a_zI t.d_zI
 B_zI:Binds K t.d_zI ["drawing","name"] []
 g_zI:mg "steps_from"=some (.ref t.a_zI)
 F_zV:Fun K "names_on" "names_on" uZ t.a_zV t.d_zV
 B_zV:Binds K t.d_zV ["road"] []
 g_zV:mg "names_on"=some (.ref t.a_zV)
 F_zW:Fun K "meetings" "meetings" uz t.a_zW t.d_zW
 B_zW:Binds K t.d_zW ["road"] []
 g_zW:mg "meetings"=some (.ref t.a_zW)
 F_zQ:Fun K "is_passed" "is_passed" yr t.a_zQ t.d_zQ
 B_zQ:Binds K t.d_zQ ["step","behind","given","above"] []
 g_zQ:mg "is_passed"=some (.ref t.a_zQ)
 F_zp:Fun K "asked_beside" "asked_beside" nY t.a_zp t.d_zp
 B_zp:Binds K t.d_zp ["drawing","standing","given","above"] []
 g_zp:mg "asked_beside"=some (.ref t.a_zp)
 F_zE:Fun K "least_shut" "least_shut" uO t.a_zE t.d_zE
 B_zE:Binds K t.d_zE ["drawing","ones","given"] []
 g_zE:mg "least_shut"=some (.ref t.a_zE)
 F_zD:Fun K "first_roads" "first_roads" tX t.a_zD t.d_zD
 B_zD:Binds K t.d_zD ["drawing","names"] []
 g_zD:mg "first_roads"=some (.ref t.a_zD)
 F_zq:Fun K "longer_roads" "longer_roads" x9 t.a_zq t.d_zq
 B_zq:Binds K t.d_zq ["drawing","roads","given"] []
 g_zq:mg "longer_roads"=some (.ref t.a_zq)
 F_zm:Fun K "shortest_road" "shortest_road" qB t.a_zm t.d_zm
 B_zm:Binds K t.d_zm ["drawing","ones","others","given"] []
 g_zm:mg "shortest_road"=some (.ref t.a_zm)
 F_zt:Fun K "shortest_way" "shortest_way" oW t.a_zt t.d_zt
 B_zt:Binds K t.d_zt ["drawing","meeting","given"] []
 g_zt:mg "shortest_way"=some (.ref t.a_zt)
 F_zR:Fun K "ways_down" "ways_down" sg t.a_zR t.d_zR
 B_zR:Binds K t.d_zR ["drawing","road","given"] []
 g_zR:mg "ways_down"=some (.ref t.a_zR)
 F_yc:Fun K "barred" "barred" uP t.a_yc t.d_yc
 B_yc:Binds K t.d_yc ["drawing","ones","others","given"] []
 g_yc:mg "barred"=some (.ref t.a_yc)
 F_zS:Fun K "given_by" "given_by" xG t.a_zS t.d_zS
 B_zS:Binds K t.d_zS ["statement"] []
 g_zS:mg "given_by"=some (.ref t.a_zS)
 F_zv:Fun K "rule_drawing" "rule_drawing" wg t.a_zv t.d_zv
 B_zv:Binds K t.d_zv ["drawing","number","statement","names"] []
 g_zv:mg "rule_drawing"=some (.ref t.a_zv)
 F_yd:Fun K "joins" "joins" yn t.a_yd t.d_yd
 B_yd:Binds K t.d_yd ["drawing","number","statement","names"] []
 g_yd:mg "joins"=some (.ref t.a_yd)
 F_zz:Fun K "_law_cell_at" "_law_cell_at" xW t.a_zz t.d_zz
 B_zz:Binds K t.d_zz ["_law_script","_law_k"] []
 g_zz:mg "_law_cell_at"=some (.ref t.a_zz)
 F_zK:Fun K "_law_mixed" "_law_mixed" yz t.a_zK t.d_zK
 B_zK:Binds K t.d_zK ["_law_cell","_law_place"] []
 g_zK:mg "_law_mixed"=some (.ref t.a_zK)
 F_zJ:Fun K "_law_whole" "_law_whole" xE t.a_zJ t.d_zJ
 B_zJ:Binds K t.d_zJ ["_law_found"] []
 g_zJ:mg "_law_whole"=some (.ref t.a_zJ)
 F_zs:Fun K "_law_pairs_of" "_law_pairs_of" xY t.a_zs t.d_zs
 B_zs:Binds K t.d_zs ["_law_script","_law_at","_law_many"] []
 g_zs:mg "_law_pairs_of"=some (.ref t.a_zs)
 F_zO:Fun K "_law_above" "_law_above" yl t.a_zO t.d_zO
 B_zO:Binds K t.d_zO ["_law_drawn","_law_names"] []
 g_zO:mg "_law_above"=some (.ref t.a_zO)
 F_ya:Fun K "_law_cut" "_law_cut" rh t.a_ya t.d_ya
 B_ya:Binds K t.d_ya ["_law_drawn","_law_into","_law_out"] []
 g_ya:mg "_law_cut"=some (.ref t.a_ya)
 F_zn:Fun K "_law_asked_by" "_law_asked_by" mG t.a_zn t.d_zn
 B_zn:Binds K t.d_zn ["_law_drawn","_law_standing","_law_given","_law_above_here"] []
 g_zn:mg "_law_asked_by"=some (.ref t.a_zn)
 F_zB:Fun K "_law_reached" "_law_reached" ue t.a_zB t.d_zB
 B_zB:Binds K t.d_zB ["_law_drawn","_law_ones","_law_given"] []
 g_zB:mg "_law_reached"=some (.ref t.a_zB)
 F_zT:Fun K "_law_bars" "_law_bars" sk t.a_zT t.d_zT
 B_zT:Binds K t.d_zT ["_law_drawn","_law_ones","_law_others","_law_given"] []
 g_zT:mg "_law_bars"=some (.ref t.a_zT)
 F_zC:Fun K "_law_is_shut" "_law_is_shut" uU t.a_zC t.d_zC
 B_zC:Binds K t.d_zC ["_law_drawn","_law_ones","_law_others","_law_given","_law_standings"] []
 g_zC:mg "_law_is_shut"=some (.ref t.a_zC)
 F_zA:Fun K "_law_is_step" "_law_is_step" xN t.a_zA t.d_zA
 B_zA:Binds K t.d_zA ["_law_drawn","_law_step"] []
 g_zA:mg "_law_is_step"=some (.ref t.a_zA)
 F_zF:Fun K "_law_is_way" "_law_is_way" yE t.a_zF t.d_zF
 B_zF:Binds K t.d_zF ["_law_drawn","_law_name","_law_way","_law_given"] []
 g_zF:mg "_law_is_way"=some (.ref t.a_zF)
 F_zL:Fun K "_law_meets" "_law_meets" wD t.a_zL t.d_zL
 B_zL:Binds K t.d_zL ["_law_step","_law_further"] []
 g_zL:mg "_law_meets"=some (.ref t.a_zL)
 F_zx:Fun K "_law_is_open" "_law_is_open" oX t.a_zx t.d_zx
 B_zx:Binds K t.d_zx ["_law_drawn","_law_ones","_law_others","_law_given","_law_road","_law_ways"] []
 g_zx:mg "_law_is_open"=some (.ref t.a_zx)
 F_zf:Fun K "_law_paper_holds" "_law_paper_holds" wt t.a_zf t.d_zf
 B_zf:Binds K t.d_zf ["_law_drawn","_law_ones","_law_others","_law_given","_law_found"] []
 g_zf:mg "_law_paper_holds"=some (.ref t.a_zf)
 F_zP:Fun K "_law_roles" "_law_roles" qz t.a_zP t.d_zP
 B_zP:Binds K t.d_zP ["_law_cell","_law_many","_law_kinds"] []
 g_zP:mg "_law_roles"=some (.ref t.a_zP)
 F_zr:Fun K "_law_moved_to" "_law_moved_to" xD t.a_zr t.d_zr
 B_zr:Binds K t.d_zr ["_law_sets","_law_kind"] []
 g_zr:mg "_law_moved_to"=some (.ref t.a_zr)
 F_zh:Fun K "_law_rule_drawn" "_law_rule_drawn" tM t.a_zh t.d_zh
 B_zh:Binds K t.d_zh ["_law_drawn","_law_number","_law_statement","_law_names"] []
 g_zh:mg "_law_rule_drawn"=some (.ref t.a_zh)
 F_zX:Fun K "_law_both" "_law_both" wO t.a_zX t.d_zX
 B_zX:Binds K t.d_zX ["_law_one","_law_two"] []
 g_zX:mg "_law_both"=some (.ref t.a_zX)
 F_zy:Fun K "_law_emptied" "_law_emptied" wC t.a_zy t.d_zy
 B_zy:Binds K t.d_zy ["_law_found"] []
 g_zy:mg "_law_emptied"=some (.ref t.a_zy)
 F_ye:Fun K "law" "law" v7 t.a_ye t.d_ye
 B_ye:Binds K t.d_ye ["_law_script"] []
 g_ye:mg "law"=some (.ref t.a_ye)
 g_Drawing:mg "Drawing"=some (.ref t.a_Drawing)
 cl_Drawing:Cls K t.a_Drawing
 mk_Drawing:Mk K t.a_Drawing t.a_zw
 b_all:mg "all"=none
 b_any:mg "any"=none
 b_bool:mg "bool"=none
 b_int:mg "int"=none
 b_isinstance:mg "isinstance"=none
 b_len:mg "len"=none
 b_list:mg "list"=none
 b_max:mg "max"=none
 b_min:mg "min"=none
 b_range:mg "range"=none
 b_reversed:mg "reversed"=none
 b_set:mg "set"=none
 b_sorted:mg "sorted"=none
 b_str:mg "str"=none
 b_tuple:mg "tuple"=none
 b_zip:mg "zip"=none
 c_ASKED:∃u,mg "ASKED"=some u/\RelV (.int 0) u
 c_MOST_BOWS:∃u,mg "MOST_BOWS"=some u/\RelV (.int 6) u
 c_MOST_NAMES:∃u,mg "MOST_NAMES"=some u/\RelV (.int 6) u
 c_SEEN:∃u,mg "SEEN"=some u/\RelV (.int 2) u
 c_SET:∃u,mg "SET"=some u/\RelV (.int 1) u
 nf_Drawing_bows:cR K t.a_Drawing "bows"
 nf_Drawing_count:cR K t.a_Drawing "count"
 nf_Drawing_ties:cR K t.a_Drawing "ties"
 c_MORE:∃u,mg "MORE"=some u/\RelV (.ref t.a_MORE) u
 o_MORE:okIn K t.a_MORE [1,2,3]=true
section
variable {P:Program}{w:World}{K:PySem.W.Frag}{mg:Str->Option Value}{base:Heap}{t:Ad}
open DM (P2 Good)
def DF(c:Int)(ts bs:List P2):List (Str×PV):=[("count",.int c),("ties",.tup (ts.map prV)),("bows",.tup (bs.map prV))]
def Srt(l:List P2):Prop:=l.Pairwise (fun x y=>ST.pk x<ST.pk y)
def Row(H:PHp)(y:PV)(p:P2):Prop:=y=prV p∨∃r,y=.ref r/\H r=some (.lst [.int p.1,.int p.2])
abbrev Rows(H:PHp):List PV->List P2->Prop:=Paired (Row H)
def d5:Sp':=fun vs H Q _=>match vs with
 | [.int c,.tup [.int u,.int v]]=>(0≤u/\u<v/\v<c)/\Q (.bl true) H
 | _=>False
theorem pR{c u v:Int}{H:PHp}{Q:VK'}{E:XK'}:d5 [.int c,.tup [.int u,.int v]] H Q E=((0≤u/\u<v/\v<c)/\Q (.bl true) H):=rfl
def cV:Sp':=fun vs H Q _=>match vs with
 | [.int c,.ref a]=>∃ps,H a=some (.lst (ps.map prV))/\Good c ps/\c≤6/\Q (.bl true) H
 | _=>False
theorem mj{c:Int}{a:Addr}{H:PHp}{Q:VK'}{E:XK'}:cV [.int c,.ref a] H Q E=∃ps,H a=some (.lst (ps.map prV))/\Good c ps/\c≤6/\Q (.bl true) H:=rfl
def gX(t:Ad):Sp':=fun vs H Q _=>match vs with
 | [.ref x,.int c,.ref a,.ref b]=>∃dx ys zs ps qs,H x=some (.ins t.a_Drawing dx [])/\H a=some (.lst ys)/\H b=some (.lst zs)/\Rows H ys ps/\Rows H zs qs/\Good c ps/\Good c qs/\(1≤c/\c≤6/\qs.length≤6) /\
  ∀ts bs,ts.Perm ps->Srt ts->bs.Perm qs->Srt bs->Q .non (put H x (.ins t.a_Drawing dx (DF c ts bs)))
 | _=>False
theorem yd{x a b:Addr}{c:Int}{H:PHp}{Q:VK'}{E:XK'}:gX t [.ref x,.int c,.ref a,.ref b] H Q E=∃dx ys zs ps qs,H x=some (.ins t.a_Drawing dx [])/\H a=some (.lst ys)/\H b=some (.lst zs)/\Rows H ys ps/\Rows H zs qs/\Good c ps/\Good c qs/\(1≤c/\c≤6/\qs.length≤6) /\
  ∀ts bs,ts.Perm ps->Srt ts->bs.Perm qs->Srt bs->Q .non (put H x (.ins t.a_Drawing dx (DF c ts bs))):=rfl
def cW(t:Ad):Sp':=fun vs H Q _=>match vs with
 | [.ref x,.int n]=>∃dx c ts bs,H x=some (.ins t.a_Drawing dx (DF c ts bs))/\(0≤n/\n<c)/\Q .non H
 | _=>False
theorem mF{x:Addr}{n:Int}{H:PHp}{Q:VK'}{E:XK'}:cW t [.ref x,.int n] H Q E=∃dx c ts bs,H x=some (.ins t.a_Drawing dx (DF c ts bs))/\(0≤n/\n<c)/\Q .non H:=rfl
def fol(ts:List P2)(n:Int):List Int:=(ts.filter (fun p=>decide (p.1=n))).map (·.2)
def src(ts:List P2)(n:Int):List Int:=(ts.filter (fun p=>decide (p.2=n))).map (·.1)
def bwd(bs:List P2)(n:Int):List Int:=src bs n++fol bs n
def du(t:Ad):Sp':=fun vs H Q _=>match vs with
 | [.ref x,.int n]=>∃dx c ts bs,H x=some (.ins t.a_Drawing dx (DF c ts bs))/\(0≤n/\n<c)/\ts.length≤15/\Q (.tup ((src ts n).map PV.int)) H
 | _=>False
theorem n0{x:Addr}{n:Int}{H:PHp}{Q:VK'}{E:XK'}:du t [.ref x,.int n] H Q E=∃dx c ts bs,H x=some (.ins t.a_Drawing dx (DF c ts bs))/\(0≤n/\n<c)/\ts.length≤15/\Q (.tup ((src ts n).map PV.int)) H:=rfl
def cG(t:Ad):Sp':=fun vs H Q _=>match vs with
 | [.ref x,.int n]=>∃dx c ts bs,H x=some (.ins t.a_Drawing dx (DF c ts bs))/\(0≤n/\n<c)/\ts.length≤15/\Q (.tup ((fol ts n).map PV.int)) H
 | _=>False
theorem kL{x:Addr}{n:Int}{H:PHp}{Q:VK'}{E:XK'}:cG t [.ref x,.int n] H Q E=∃dx c ts bs,H x=some (.ins t.a_Drawing dx (DF c ts bs))/\(0≤n/\n<c)/\ts.length≤15/\Q (.tup ((fol ts n).map PV.int)) H:=rfl
def gW:Sp':=fun vs H Q _=>match vs with
 | [.fls l,.int k]=>(0≤k/\k<100)/\∃ns:List Int,l=ns.map PV.int/\Q (.int (ns.getD k.toNat 0)) H
 | _=>False
theorem wK{l:List PV}{k:Int}{H:PHp}{Q:VK'}{E:XK'}:gW [.fls l,.int k] H Q E=((0≤k/\k<100)/\∃ns:List Int,l=ns.map PV.int/\Q (.int (ns.getD k.toNat 0)) H):=rfl
theorem cP{l:List PV}{i:Nat}(h:i<l.length):atI l ((i:Nat):Int)=some l[i]:=by
 unfold atI ixN
 rw[if_pos (by omega),if_pos (by omega)]
 show l[((i:Nat):Int).toNat]?=_
 rw[Int.toNat_natCast,List.getElem?_eq_getElem h]
theorem qw{α β:Type}{R:α->β->Prop}:∀{l:List α} {m:List β} {i:Nat},Paired R l m->(hi:i<l.length)->(hj:i<m.length)->R l[i] m[i]
 | _::_,_::_,0,.cons h _,_,_=>h
 | _::_,_::_,i+1,.cons _ t,hi,hj=>qw t (by simpa using hi) (by simpa using hj)
theorem gk{α β:Type}{R:α->β->Prop}{x:α}:∀{l:List α} {m:List β},Paired R l m->x∈l->∃y∈m,R x y
 | _::_,_::_,.cons h t,hx=>by
  rcases List.mem_cons.mp hx with rfl | hx
  ·exact⟨_,List.mem_cons_self,h⟩
  ·obtain⟨y,hy,r⟩:=gk t hx
   exact⟨y,List.mem_cons_of_mem _ hy,r⟩
theorem fm{a b:Int}(h:0<b):0≤a.fmod b/\a.fmod b<b:=by
 rw[Int.fmod_eq_emod_of_nonneg _ (by omega)]
 exact⟨Int.emod_nonneg _ (by omega),Int.emod_lt_of_pos _ h⟩
theorem kB{A B:PHp}{x:Addr}{o:PO}(s:∀a u,a≠x->A a=some u->B a=some u)(h:B x=some o):U.Sub (put A x o) B:=fun a u e=>by
 by_cases q:a=x
 ·subst q;rw[ak]at e;cases e;exact h
 ·rw[ar q]at e;exact s a u q e
theorem dQ{f:Str}{v:PV}:∀{fs:List (Str×PV)},(h7 f v fs).length≤fs.length+1
 | []=>by simp[h7]
 |(g,y)::r=>by
  unfold h7
  split
  ·simp
  ·have:=dQ (f:=f) (v:=v) (fs:=r);simp only[List.length_cons];omega
theorem wj{i j:Int}(h:j≠0)(f:j.natAbs<2 ^ 64):qK i j:=⟨h,(show My.BN 64 j from f).fit (by decide)⟩
theorem vQ{i:Int}(f:i.natAbs<2 ^ 64):Fit i:=(show My.BN 64 i from f).fit (by decide)
def kX(H:PHp)(y:PV):PV:=match y with
 | .ref r=>(match H r with | some (.lst l)=>.tup l | _=>.non)
 | y=>y
theorem de{H:PHp}{r:Addr}{l:List PV}(h:H r=some (.lst l)):kX H (.ref r)=.tup l:=by
 unfold kX;dsimp only;rw[h]
theorem eY{H:PHp}:∀{ys:List PV} {ps:List P2},Rows H ys ps->ys.map (kX H)=ps.map prV
 | [],[],.nil=>rfl
 | y::ys,p::ps,.cons h t=>by
  rw[List.map_cons,List.map_cons,eY t]
  congr 1
  rcases h with rfl |⟨r,rfl,hr⟩
  ·rfl
  ·exact de hr
theorem Rows.up{H H1:PHp}{ys:List PV}{ps:List P2}(h:Rows H ys ps)(s:U.Sub H H1):Rows H1 ys ps:=Paired.mapP h fun y p r=>r.elim .inl fun⟨q,e,hq⟩=>.inr ⟨q,e,s _ _ hq⟩
theorem df{H:PHp}:∀{ps:List P2},Rows H (ps.map prV) ps
 | []=>.nil
 | _::_=>.cons (.inl rfl) df
def at1(n:Int)(y:PV):Bool:=match y with | .tup [.int _,.int v]=>decide (v=n) | _=>false
def at0(n:Int)(y:PV):Bool:=match y with | .tup [.int u,.int _]=>decide (u=n) | _=>false
def g0(y:PV):PV:=match y with | .tup [u,_]=>u | _=>.non
def g1(y:PV):PV:=match y with | .tup [_,v]=>v | _=>.non
theorem src_list{n:Int}:∀{ts:List P2},((ts.map prV).filter (at1 n)).map g0=((ts.filter (fun p=>decide (p.2=n))).map (·.1)).map PV.int
 | []=>rfl
 | p::ts=>by
  have e:at1 n (prV p)=decide (p.2=n):=rfl
  rw[List.map_cons,List.filter_cons,List.filter_cons,e]
  by_cases q:decide (p.2=n)=true
  ·rw[if_pos q,if_pos q,List.map_cons,List.map_cons,List.map_cons,src_list];rfl
  ·rw[if_neg q,if_neg q,src_list]
theorem dS{n:Int}:∀{ts:List P2},((ts.map prV).filter (at0 n)).map g1=((ts.filter (fun p=>decide (p.1=n))).map (·.2)).map PV.int
 | []=>rfl
 | p::ts=>by
  have e:at0 n (prV p)=decide (p.1=n):=rfl
  rw[List.map_cons,List.filter_cons,List.filter_cons,e]
  by_cases q:decide (p.1=n)=true
  ·rw[if_pos q,if_pos q,List.map_cons,List.map_cons,List.map_cons,dS];rfl
  ·rw[if_neg q,if_neg q,dS]
structure GJ (v j:Int) (l:List P2):Prop where
 nd:l.Nodup
 lo:∀p∈l,0≤p.1/\p.1<p.2/\(p.2<v∨(p.2=v/\p.1<j))
theorem GJ.app{v j:Int}{l:List P2}(h:GJ v j l)(h0:0≤j)(hj:j<v):GJ v (j+1) (l++[(j,v)]):=by
 refine⟨List.nodup_append.mpr ⟨h.nd,by simp,?_⟩,fun p hp=>?_⟩
 ·intro a ha b hb e
  rw[List.mem_singleton]at hb
  subst hb;subst e
  have:=h.lo _ ha
  simp only at this
  omega
 ·rcases List.mem_append.mp hp with hp | hp
  ·have:=h.lo p hp;omega
  ·rw[List.mem_singleton]at hp;subst hp;exact⟨h0,hj,.inr ⟨rfl,Int.lt_succ j⟩⟩
theorem GJ.up{v j:Int}{l:List P2}(h:GJ v j l):GJ v (j+1) l:=⟨h.nd,fun p hp=>by have:=h.lo p hp;omega⟩
theorem GJ.of{v:Int}{l:List P2}(h:Good v l):GJ v 0 l:=⟨h.nd,fun p hp=>by have:=h.lo p hp;omega⟩
theorem GJ.good{v:Int}{l:List P2}(h:GJ v v l):Good (v+1) l:=⟨h.nd,fun p hp=>by have:=h.lo p hp;omega⟩
theorem aH{l:List Int}:(l.map PV.int).all (flat 8)=true:=by
 rw[List.all_eq_true]
 intro z hz
 obtain⟨p,_,rfl⟩:=List.mem_map.mp hz
 rfl
theorem aR{l:List Int}{n:Int}:((l.map PV.int).any fun z=>deq z (.int n))=decide (n∈l):=by
 rw[Bool.eq_iff_iff,List.any_eq_true,decide_eq_true_eq]
 constructor
 ·rintro⟨z,hz,e⟩
  obtain⟨p,hp,rfl⟩:=List.mem_map.mp hz
  have:p=n:=by simpa[deq]using e
  rw[←this];exact hp
 ·intro h
  exact⟨_,List.mem_map.mpr ⟨_,h,rfl⟩,by simp[deq]⟩
def swp(p:P2):P2:=(p.2,p.1)
structure Nms (c:Int) (L:List Int):Prop where
 up:L.Pairwise (·<·)
 lo:∀x∈L,0≤x/\x<c
theorem Nms.nd{c:Int}{L:List Int}(h:Nms c L):L.Nodup:=h.up.imp fun h=>by omega
theorem Nms.len{c:Int}{L:List Int}(h:Nms c L)(hc:c≤6):L.length≤6:=My.bI 6 L h.nd fun x hx=>by have:=h.lo x hx;omega
def Ins(t:Ad)(H:PHp)(x:Addr)(c:Int)(ts:List P2):Prop:=∃dx bs,H x=some (.ins t.a_Drawing dx (DF c ts bs))
theorem Ins.up{t:Ad}{H H1:PHp}{x:Addr}{c:Int}{ts:List P2}(h:Ins t H x c ts)(s:U.Sub H H1):Ins t H1 x c ts:=by
 obtain⟨dx,bs,e⟩:=h
 exact⟨dx,bs,s _ _ e⟩
def fO:Sp':=fun vs H Q _=>match vs with
 | [.int c,.tup l]=>∃L:List Int,l=L.map PV.int/\Nms c L/\Q (.bl true) H
 | _=>False
theorem uj{c:Int}{l:List PV}{H:PHp}{Q:VK'}{E:XK'}:fO [.int c,.tup l] H Q E=∃L:List Int,l=L.map PV.int/\Nms c L/\Q (.bl true) H:=rfl
def dG(t:Ad):Sp':=fun vs H Q _=>match vs with
 | [.ref x,.tup l]=>∃c ts,∃L:List Int,Ins t H x c ts/\l=L.map PV.int/\Nms c L/\Q .non H
 | _=>False
theorem nW{x:Addr}{l:List PV}{H:PHp}{Q:VK'}{E:XK'}:dG t [.ref x,.tup l] H Q E=∃c ts,∃L:List Int,Ins t H x c ts/\l=L.map PV.int/\Nms c L/\Q .non H:=rfl
def jC(t:Ad)(f:P2->P2):Sp':=fun vs H Q _=>match vs with
 | [.ref x,.tup l]=>∃c ts,∃L:List Int,Ins t H x c ts/\l=L.map PV.int/\Nms c L/\(1≤c/\c≤6)/\Good c ts/\∀M:List Int,M.Pairwise (·<·)->(∀y,y∈M↔My.Reach (ts.map f) L y)->Q (.tup (M.map PV.int)) H
 | _=>False
theorem zM{f:P2->P2}{x:Addr}{l:List PV}{H:PHp}{Q:VK'}{E:XK'}:jC t f [.ref x,.tup l] H Q E=∃c ts,∃L:List Int,Ins t H x c ts/\l=L.map PV.int/\Nms c L/\(1≤c/\c≤6)/\Good c ts/\∀M:List Int,M.Pairwise (·<·)->(∀y,y∈M↔My.Reach (ts.map f) L y)->Q (.tup (M.map PV.int)) H:=rfl
def CK(b:Bool):P2->P2:=if b then swp else fun p=>p
theorem qM{c:Int}{E:List P2}{S:List Int}(hE:∀a b,(a,b)∈E->0≤b/\b<c)(hS:∀x∈S,0≤x/\x<c){y:Int}(r:My.Reach E S y):0≤y/\y<c:=by
 cases r with
 | base h=>exact hS _ h
 | step _ e=>exact hE _ _ e
def onI(q:Int->Bool)(y:PV):Bool:=match y with | .int u=>q u | _=>false
def ulN(c:Int):List Int:=(List.range c.toNat).map fun k=>((k:Nat):Int)
def dlN(c:Int):List Int:=(List.range c.toNat).map fun k=>c - 1 - ((k:Nat):Int)
theorem qm(c:Int):(ulN c).Pairwise (·<·):=by
 unfold ulN
 rw[List.pairwise_map]
 exact List.pairwise_lt_range.imp fun h=>by omega
theorem mP(c:Int):(dlN c).Pairwise (·>·):=by
 unfold dlN
 rw[List.pairwise_map]
 refine List.Pairwise.imp (fun {a b} h=>?_) (List.pairwise_lt_range (n:=c.toNat))
 show c - 1 - ((a:Nat):Int)>c - 1 - ((b:Nat):Int)
 omega
theorem fW{c x:Int}:x∈ulN c↔0≤x/\x<c:=by
 unfold ulN
 simp only[List.mem_map,List.mem_range]
 constructor
 ·rintro⟨k,hk,rfl⟩;omega
 ·intro h;exact⟨x.toNat,by omega,by omega⟩
theorem jK{c x:Int}:x∈dlN c↔0≤x/\x<c:=by
 unfold dlN
 simp only[List.mem_map,List.mem_range]
 constructor
 ·rintro⟨k,hk,rfl⟩;omega
 ·intro h;exact⟨(c - 1 - x).toNat,by omega,by omega⟩
theorem xx{R:Int->Int->Prop}{E:List P2}{L:List Int}(hp:L.Pairwise R)(as:∀a b,R a b->¬R b a)(hE:∀a b,(a,b)∈E->a∈L/\R a b):My.Fwd E L:=by
 intro a b e L1 L2 hl hb
 obtain⟨ha,hr⟩:=hE a b e
 rw[hl]at ha hp
 rcases List.mem_append.mp ha with h | h
 ·exact h
 ·exact absurd ((List.pairwise_append.mp hp).2.2 b hb a h) (as _ _ hr)
theorem nM{ts:List P2}{a b:Int}:(a,b)∈ts.map swp↔(b,a)∈ts:=by
 rw[List.mem_map]
 constructor
 ·rintro⟨p,hp,e⟩
  unfold swp at e
  cases e
  exact hp
 ·intro h;exact⟨_,h,rfl⟩
theorem ql{c:Int}{ts:List P2}{L:List Int}(g:Good c ts)(y:Int):y∈(dlN c).foldl (My.bU (ts.map swp)) L↔My.Reach (ts.map swp) L y:=by
 refine My.oO (fun a b e=>?_) (xx (mP c) (fun a b h=>by omega) fun a b e=>?_) ((mP c).imp fun h=>by omega) y
 ·have:=g.lo _ (nM.mp e);simp only at this;exact jK.mpr ⟨by omega,by omega⟩
 ·have:=g.lo _ (nM.mp e);simp only at this;exact⟨jK.mpr ⟨by omega,by omega⟩,by omega⟩
theorem lq{n:Int}:∀{ts:List P2},My.outs (ts.map swp) n=(ts.filter (fun p=>decide (p.2=n))).map (·.1)
 | []=>rfl
 | p::ts=>by
  have ih:=lq (n:=n) (ts:=ts)
  unfold My.outs at ih ⊢
  rw[List.map_cons,List.filter_cons,List.filter_cons]
  by_cases h:decide (p.2=n)=true
  ·have h':decide ((swp p).1=n)=true:=h
   rw[if_pos h,if_pos h',List.map_cons,List.map_cons,ih];rfl
  ·have h':¬decide ((swp p).1=n)=true:=h
   rw[if_neg h,if_neg h',ih]
theorem pS{E:List P2}{n:Int}:(My.outs E n).length≤E.length:=by
 unfold My.outs;rw[List.length_map];exact List.length_filter_le _ _
theorem ox{E:List P2}{f:List Int}{n:Int}:(My.bU E f n).length≤f.length+E.length:=by
 unfold My.bU
 split
 ·rw[List.length_append];have:=pS (E:=E) (n:=n);omega
 ·omega
theorem ji{α β:Type}{f:β->α->β}{l:List α}{i:Nat}{b:β}{x:α}(h:l[i]?=some x):(l.take (i+1)).foldl f b=f ((l.take i).foldl f b) x:=by
 rw[List.take_add_one,h,List.foldl_append];rfl
theorem pI{c:Int}{ps:List P2}(g:Good c ps)(b:Bool):∀x y,(x,y)∈ps.map (CK b)->0≤y/\y<c:=by
 intro x y h
 obtain⟨p,hp,e⟩:=List.mem_map.mp h
 have:=g.lo p hp
 cases b with
 | true=>have e':swp p=(x,y):=e;unfold swp at e';cases e';omega
 | false=>have e':p=(x,y):=e;subst e';simp only at this;omega
theorem oH{c:Int}{F:List Int}{ms:List Nat}{R:Int->Prop}(hc:c≤6)(hF:∀x∈F,0≤x/\x<c)(hR:∀y,y∈F↔R y)(hs:ms.Pairwise (·<·))(hm:∀x,x∈ms↔x∈F.map Int.toNat) :
  ((ms.map fun(n:Nat)=>(n:Int)).Pairwise (·<·))/\∀y,y∈(ms.map fun(n:Nat)=>(n:Int))↔R y:=by
 constructor
 ·rw[List.pairwise_map];exact hs.imp fun h=>by omega
 ·intro y
  rw[←hR,List.mem_map]
  constructor
  ·rintro⟨n,hn,rfl⟩
   obtain⟨z,hz,e⟩:=List.mem_map.mp ((hm n).mp hn)
   have:=hF z hz
   have:((n:Nat):Int)=z:=by omega
   rw[this];exact hz
  ·intro h
   have:=hF y h
   exact⟨y.toNat,(hm _).mpr (List.mem_map.mpr ⟨y,h,rfl⟩),by omega⟩
def fR(t:Ad):Sp':=fun vs H Q _=>match vs with
 | [.ref x,.int n]=>∃dx c ts bs,H x=some (.ins t.a_Drawing dx (DF c ts bs))/\(0≤n/\n<c)/\bs.length≤15/\Q (.tup ((bwd bs n).map PV.int)) H
 | _=>False
theorem tD{x:Addr}{n:Int}{H:PHp}{Q:VK'}{E:XK'}:fR t [.ref x,.int n] H Q E=∃dx c ts bs,H x=some (.ins t.a_Drawing dx (DF c ts bs))/\(0≤n/\n<c)/\bs.length≤15/\Q (.tup ((bwd bs n).map PV.int)) H:=rfl
def Ac(bs:List P2)(L:List Int):List P2:=bs.filter fun p=>decide (p.1∈L)&&decide (p.2∈L)
def both(bs:List P2)(L:List Int):List P2:=Ac bs L++(Ac bs L).map swp
def tupI(M:List Int):PV:=.tup (M.map PV.int)
structure OkD (c:Int) (ts bs:List P2):Prop where
 c1:1≤c
 c6:c≤6
 gt:Good c ts
 gb:Good c bs
 st:Srt ts
 sb:Srt bs
 b6:bs.length≤6
def FT(k:Nat)(L:List Int)(p:P2):Bool:=match k with
 | 0=>decide (p.1∈L)&&decide (p.2∈L)
 | 1=>!decide (p.2∈L)
 | _=>!decide (p.1∈L)
def FB(k:Nat)(L:List Int)(p:P2):Bool:=match k with
 | 0=>decide (p.1∈L)&&decide (p.2∈L)
 | 1=>!decide (p.1∈L)&&!decide (p.2∈L)
 | _=>true
theorem gB{c:Int}{ps:List P2}(g:Good c ps)(f:P2->Bool):Good c (ps.filter f):=⟨g.nd.sublist List.filter_sublist,fun p hp=>g.lo p (List.mem_filter.mp hp).1⟩
theorem OkD.filter{c:Int}{ts bs:List P2}(h:OkD c ts bs)(f g:P2->Bool):OkD c (ts.filter f) (bs.filter g) :=
 ⟨h.c1,h.c6,gB h.gt f,gB h.gb g,List.Pairwise.sublist List.filter_sublist h.st,List.Pairwise.sublist List.filter_sublist h.sb,Nat.le_trans (List.length_filter_le _ _) h.b6⟩
def Dr(t:Ad)(H:PHp)(x:Addr)(c:Int)(ts bs:List P2):Prop:=∃dx,H x=some (.ins t.a_Drawing dx (DF c ts bs))
theorem Dr.up{t:Ad}{H H1:PHp}{x:Addr}{c:Int}{ts bs:List P2}(h:Dr t H x c ts bs)(s:U.Sub H H1):Dr t H1 x c ts bs:=by
 obtain⟨dx,e⟩:=h
 exact⟨dx,s _ _ e⟩
def shp(c:Int)(ts bs:List P2):PV:=.tup [.int c,.tup (ts.map prV),.tup (bs.map prV)]
theorem zI{P:List Value->Prop}(h:∀a b c d e,P [a,b,c,d,e])(us:List Value)(hl:us.length=5):P us:=by
 cases us with
 | nil=>exact absurd hl.symm (Nat.succ_ne_zero _)
 | cons a r=>exact Bw (P:=fun r=>P (a::r)) (h a) r (Nat.succ.inj hl)
theorem BR{P:List Value->Prop}(h:∀a b c d e f,P [a,b,c,d,e,f])(us:List Value)(hl:us.length=6):P us:=by
 cases us with
 | nil=>exact absurd hl.symm (Nat.succ_ne_zero _)
 | cons a r=>exact zI (P:=fun r=>P (a::r)) (h a) r (Nat.succ.inj hl)
abbrev Sd:=Int×Bool
def sdV(s:Sd):PV:=.tup [.int s.1,.bl s.2]
abbrev Sp3:=My.Stp Str
def stV(s:Sp3):PV:=.tup [.int s.1,.str s.2.1,.int s.2.2]
theorem dA{ts:List P2}{n m:Int}:m∈fol ts n↔(n,m)∈ts:=by
 unfold fol;simp only[List.mem_map,List.mem_filter,decide_eq_true_eq]
 exact⟨fun⟨p,⟨h,e⟩,f⟩=>by subst e;subst f;exact h,fun h=>⟨_,⟨h,rfl⟩,rfl⟩⟩
theorem fL{ts:List P2}{n m:Int}:m∈src ts n↔(m,n)∈ts:=by
 unfold src;simp only[List.mem_map,List.mem_filter,decide_eq_true_eq]
 exact⟨fun⟨p,⟨h,e⟩,f⟩=>by subst e;subst f;exact h,fun h=>⟨_,⟨h,rfl⟩,rfl⟩⟩
theorem j5{bs:List P2}{n m:Int}:m∈bwd bs n↔(n,m)∈bs∨(m,n)∈bs:=by
 unfold bwd;rw[List.mem_append,fL,dA,or_comm]
def EdG(ts bs:List P2)(s:Sp3):Prop:=(s.2.1="down"/\(s.1,s.2.2)∈ts)∨(s.2.1="up"/\(s.2.2,s.1)∈ts)∨(s.2.1="bow"/\((s.1,s.2.2)∈bs∨(s.2.2,s.1)∈bs))
def stp(ts bs:List P2)(n:Int):List Sp3:=(fol ts n).map (fun m=>(n,("down":Str),m))++(src ts n).map (fun m=>(n,("up":Str),m))++(bwd bs n).map (fun m=>(n,("bow":Str),m))
theorem hJ{ts bs:List P2}{n:Int}{s:Sp3}:s∈stp ts bs n↔s.1=n/\EdG ts bs s:=by
 obtain⟨a,k,b⟩:=s
 unfold stp EdG
 simp only[List.mem_append,List.mem_map,dA,fL,j5,Prod.mk.injEq]
 constructor
 ·rintro((⟨m,h,rfl,rfl,rfl⟩ |⟨m,h,rfl,rfl,rfl⟩) |⟨m,h,rfl,rfl,rfl⟩)
  ·exact⟨rfl,.inl ⟨rfl,h⟩⟩
  ·exact⟨rfl,.inr (.inl ⟨rfl,h⟩)⟩
  ·exact⟨rfl,.inr (.inr ⟨rfl,h⟩)⟩
 ·rintro⟨rfl,⟨rfl,h⟩ |⟨rfl,h⟩ |⟨rfl,h⟩⟩
  ·exact .inl (.inl ⟨_,h,rfl,rfl,rfl⟩)
  ·exact .inl (.inr ⟨_,h,rfl,rfl,rfl⟩)
  ·exact .inr ⟨_,h,rfl,rfl,rfl⟩
theorem rQ{c:Int}{ts bs:List P2}(gt:Good c ts)(gb:Good c bs){s:Sp3}(h:EdG ts bs s):(0≤s.1/\s.1<c)/\0≤s.2.2/\s.2.2<c:=by
 rcases h with⟨_,h⟩ |⟨_,h⟩ |⟨_,h | h⟩
 ·have:=gt.lo _ h;simp only at this;omega
 ·have:=gt.lo _ h;simp only at this;omega
 ·have:=gb.lo _ h;simp only at this;omega
 ·have:=gb.lo _ h;simp only at this;omega
theorem pD{c:Int}{ts:List P2}(g:Good c ts)(n:Int):(fol ts n).Nodup:=by
 unfold fol
 rw[List.nodup_iff_pairwise_ne,List.pairwise_map]
 refine List.Pairwise.imp_of_mem (fun {x y} hx hy hxy e=>hxy ?_) (List.nodup_iff_pairwise_ne.mp (g.nd.sublist List.filter_sublist))
 simp only[List.mem_filter,decide_eq_true_eq]at hx hy
 exact Prod.ext (hx.2.trans hy.2.symm) e
theorem qa{c:Int}{ts:List P2}(g:Good c ts)(n:Int):(src ts n).Nodup:=by
 unfold src
 rw[List.nodup_iff_pairwise_ne,List.pairwise_map]
 refine List.Pairwise.imp_of_mem (fun {x y} hx hy hxy e=>hxy ?_) (List.nodup_iff_pairwise_ne.mp (g.nd.sublist List.filter_sublist))
 simp only[List.mem_filter,decide_eq_true_eq]at hx hy
 exact Prod.ext e (hx.2.trans hy.2.symm)
theorem cv{c:Int}{ts:List P2}(g:Good c ts)(hc:c≤6)(n:Int):(fol ts n).length≤6:=My.bI 6 _ (pD g n) fun x hx=>by have:=g.lo _ (dA.mp hx);simp only at this;omega
theorem cE{c:Int}{ts:List P2}(g:Good c ts)(hc:c≤6)(n:Int):(src ts n).length≤6:=My.bI 6 _ (qa g n) fun x hx=>by have:=g.lo _ (fL.mp hx);simp only at this;omega
theorem dt{c:Int}{ts:List P2}(g:Good c ts)(hc:c≤6)(n:Int):(bwd ts n).length≤6:=by
 refine My.bI 6 _ (List.nodup_append.mpr ⟨qa g n,pD g n,fun x hx y hy e=>?_⟩) fun x hx=>?_
 ·subst e
  have h1:=g.lo _ (fL.mp hx)
  have h2:=g.lo _ (dA.mp hy)
  simp only at h1 h2;omega
 ·rcases j5.mp hx with h | h
  ·have:=g.lo _ h;simp only at this;omega
  ·have:=g.lo _ h;simp only at this;omega
theorem gQ{c:Int}{ts bs:List P2}(gt:Good c ts)(gb:Good c bs)(hc:c≤6)(n:Int):(stp ts bs n).length≤18:=by
 unfold stp
 have h1:=cv gt hc n
 have h2:=cE gt hc n
 have h3:=dt gb hc n
 simp only[List.length_append,List.length_map]
 omega
def mtg(s s':Sp3):Bool:=!(s.2.1=="up")&&!(s'.2.1=="down")
def psd(G A:List Int)(s s':Sp3):Bool:=if mtg s s' then decide (s.2.2∈A)else !decide (s.2.2∈G)
abbrev LnG(G A:List Int):=My.Lnk ("down":Str) "up" G A
abbrev RdG(ts bs:List P2)(G A ones:List Int)(r:List Sp3):=My.Rd (EdG ts bs) ("down":Str) "up" G A ones r
abbrev RSG(ts bs:List P2)(G A ones:List Int):=My.RS (EdG ts bs) ("down":Str) "up" G A ones
theorem p9:("down":Str)≠"up":=by decide
theorem Ax:decide (("down":Str)≠"up")=true:=by decide
theorem Am:decide (("up":Str)≠"up")=false:=by decide
theorem za:decide (("bow":Str)≠"up")=true:=by decide
theorem eh{s s':Sp3}:mtg s s'=true↔s.2.1≠"up"/\s'.2.1≠"down":=by
 unfold mtg;simp
theorem nH{G A:List Int}{s s':Sp3}:LnG G A s s'↔s.2.2=s'.1/\psd G A s s'=true:=by
 constructor
 ·intro h
  refine⟨h.jn,?_⟩
  unfold psd
  split
  ·rename_i m
   have:=eh.mp m
   exact decide_eq_true (h.mt this.1 this.2)
  ·rename_i m
   have:s.2.2∉G:=h.no (by
    by_cases e:s.2.1="up"
    ·exact .inl e
    ·exact .inr (Classical.byContradiction fun z=>m (eh.mpr ⟨e,z⟩)))
   simpa using this
 ·rintro⟨j,h⟩
  unfold psd at h
  refine⟨j,fun a b=>?_,fun a=>?_⟩
  ·rw[if_pos (eh.mpr ⟨a,b⟩)]at h;exact of_decide_eq_true h
  ·rw[if_neg (fun z=>by have:=eh.mp z;rcases a with a | a;exact this.1 a;exact this.2 a)]at h
   simpa using h
def bes(ts bs:List P2)(G A:List Int)(s:Sd):List Sd :=
 (if s.1∈G then []else(fol ts s.1).map fun m=>(m,true))++(if (s.2=true/\s.1∈A)∨(s.2=false/\s.1∉G)then(src ts s.1).map (fun m=>(m,false))++(bwd bs s.1).map (fun m=>(m,true))else [])
theorem uy{c:Int}{ts bs:List P2}(gt:Good c ts)(gb:Good c bs)(hc:c≤6){G A:List Int}(s:Sd):(bes ts bs G A s).length≤18:=by
 have h1:=cv gt hc s.1
 have h2:=cE gt hc s.1
 have h3:=dt gb hc s.1
 unfold bes
 rw[List.length_append]
 have a:(if s.1∈G then []else(fol ts s.1).map fun m=>(m,true)).length≤6:=by split<;>simp<;>omega
 have b:(if (s.2=true/\s.1∈A)∨(s.2=false/\s.1∉G)then(src ts s.1).map (fun m=>(m,false))++(bwd bs s.1).map (fun m=>(m,true))else []).length≤12:=by split<;>simp<;>omega
 omega
theorem nh{ts bs:List P2}{G A:List Int}{s z:Sd}:z∈bes ts bs G A s↔(s.1∉G/\(s.1,z.1)∈ts/\z.2=true)∨(((s.2=true/\s.1∈A)∨(s.2=false/\s.1∉G))/\(((z.1,s.1)∈ts/\z.2=false)∨(((s.1,z.1)∈bs∨(z.1,s.1)∈bs)/\z.2=true))):=by
 obtain⟨x,p⟩:=z
 unfold bes
 rw[List.mem_append]
 refine or_congr ?_ ?_
 ·by_cases h:s.1∈G
  ·simp[h]
  ·simp only[if_neg h,List.mem_map,dA,Prod.mk.injEq]
   exact⟨fun⟨m,a,e,f⟩=>by subst e;exact⟨h,a,f.symm⟩,fun⟨_,a,f⟩=>⟨_,a,rfl,f.symm⟩⟩
 ·by_cases h:(s.2=true/\s.1∈A)∨(s.2=false/\s.1∉G)
  ·simp only[if_pos h,List.mem_append,List.mem_map,fL,j5,Prod.mk.injEq]
   constructor
   ·rintro(⟨m,a,rfl,rfl⟩ |⟨m,a,rfl,rfl⟩)
    ·exact⟨h,.inl ⟨a,rfl⟩⟩
    ·exact⟨h,.inr ⟨a,rfl⟩⟩
   ·rintro⟨_,⟨a,rfl⟩ |⟨a,rfl⟩⟩
    ·exact .inl ⟨_,a,rfl,rfl⟩
    ·exact .inr ⟨_,a,rfl,rfl⟩
  ·rw[if_neg h];simp only[List.not_mem_nil,h,false_and]
theorem mH{ts bs:List P2}{G A ones:List Int}{s z:Sd}(h:RSG ts bs G A ones s.1 s.2)(hz:z∈bes ts bs G A s):RSG ts bs G A ones z.1 z.2:=by
 rcases nh.mp hz with⟨hg,e,hp⟩ |⟨hc,⟨e,hp⟩ |⟨e,hp⟩⟩
 ·have:=My.RS.step (k:=("down":Str)) (m:=z.1) h (.inl ⟨rfl,e⟩) (fun _=>hg) (fun k=>absurd rfl k) (fun k=>absurd rfl k)
  rw[hp];exact Ax▸this
 ·have:=My.RS.step (k:=("up":Str)) (m:=z.1) h (.inr (.inl ⟨rfl,e⟩)) (fun k=>absurd k.symm p9) (fun _ hp=>hc.elim (fun q=>q.2) fun q=>by rw[hp]at q;exact absurd q.1 (by decide)) (fun _ hp=>hc.elim (fun q=>by rw[hp]at q;exact absurd q.1 (by decide)) fun q=>q.2)
  rw[hp];exact Am▸this
 ·have:=My.RS.step (k:=("bow":Str)) (m:=z.1) h (.inr (.inr ⟨rfl,e⟩)) (fun k=>absurd k (by decide)) (fun _ hp=>hc.elim (fun q=>q.2) fun q=>by rw[hp]at q;exact absurd q.1 (by decide)) (fun _ hp=>hc.elim (fun q=>by rw[hp]at q;exact absurd q.1 (by decide)) fun q=>q.2)
  rw[hp];exact za▸this
theorem nC{ts bs:List P2}{G A ones:List Int}{L:List Sd}(h0:∀x∈ones,(x,false)∈L)(hs:∀s∈L,∀z∈bes ts bs G A s,z∈L){x:Int}{p:Bool}(h:RSG ts bs G A ones x p):(x,p)∈L:=by
 induction h with
 | base h=>exact h0 _ h
 | step h e h1 h2 h3 ih =>
  rename_i n m p k
  have cond:k≠"down"->(p=true/\n∈A)∨(p=false/\n∉G):=fun kd=>by
   cases p with
   | true=>exact .inl ⟨rfl,h2 kd rfl⟩
   | false=>exact .inr ⟨rfl,h3 kd rfl⟩
  refine hs (n,p) ih _ (nh.mpr ?_)
  rcases e with⟨ek,e⟩ |⟨ek,e⟩ |⟨ek,e⟩
  ·have ek:k="down":=ek
   subst ek
   exact .inl ⟨h1 rfl,e,Ax⟩
  ·have ek:k="up":=ek
   subst ek
   exact .inr ⟨cond (by decide),.inl ⟨e,Am⟩⟩
  ·have ek:k="bow":=ek
   subst ek
   exact .inr ⟨cond (by decide),.inr ⟨e,za⟩⟩
def wa(c:Int):List Sd:=(ulN c).flatMap fun x=>[(x,false),(x,true)]
theorem iK{c:Int}(hc:c≤6){L:List Sd}(nd:L.Nodup)(h:∀s∈L,0≤s.1/\s.1<c):L.length≤12:=by
 have h1:L.length≤(wa c).length:=DM.bI nd fun s hs=>by
  unfold wa
  obtain⟨x,p⟩:=s
  rw[List.mem_flatMap]
  refine⟨x,fW.mpr (h _ hs),?_⟩
  cases p<;>simp
 have h2:(wa c).length≤(ulN c).length*2:=My.dh fun x _=>by simp
 have h3:(ulN c).length≤6:=by unfold ulN;rw[List.length_map,List.length_range];omega
 omega
theorem ig{c:Int}{ts bs:List P2}{G A ones:List Int}(gt:Good c ts)(gb:Good c bs)(h1:∀x∈ones,0≤x/\x<c){x:Int}{p:Bool}(h:RSG ts bs G A ones x p):0≤x/\x<c:=by
 cases h with
 | base h=>exact h1 x h
 | step _ e _ _ _=>exact(rQ gt gb e).2
def aZ(H:PHp)(q:Addr)(vs:List PV)(ls:List (List PV)):Prop:=Paired (fun v l=>∃r,v=PV.ref r/\r≠q/\H r=some (.lst l)) vs ls
theorem aZ.up{H H1:PHp}{q:Addr}{vs:List PV}{ls:List (List PV)}(h:aZ H q vs ls)(s:U.Sub H H1):aZ H1 q vs ls:=Paired.mapP h fun _ _ ⟨r,e,n,hr⟩=>⟨r,e,n,s _ _ hr⟩
theorem aZ.put{H:PHp}{q:Addr}{o:PO}{vs:List PV}{ls:List (List PV)}(h:aZ H q vs ls):aZ (U.put H q o) q vs ls:=Paired.mapP h fun _ _ ⟨r,e,n,hr⟩=>⟨r,e,n,(ar n).trans hr⟩
theorem g4{α β:Type}{R:α->β->Prop}{a:α}{b:β}(r:R a b):∀{l:List α} {m:List β},Paired R l m->Paired R (l++[a]) (m++[b])
 | [],[],.nil=>.cons r .nil
 | _::_,_::_,.cons h t=>.cons h (g4 r t)
theorem aZ.snoc{H:PHp}{q r:Addr}{vs:List PV}{ls:List (List PV)}{l:List PV}(h:aZ H q vs ls)(n:r≠q)(e:H r=some (.lst l)):aZ H q (vs++[.ref r]) (ls++[l]):=g4 ⟨r,rfl,n,e⟩ h
theorem pK{α β:Type}{R:α->β->Prop}{v:α}:∀{l:List α} {m:List β} {i:Nat},Paired R l m->l[i]?=some v->∃w,m[i]?=some w/\R v w
 | _::_,_::_,0,.cons h _,e=>by cases e;exact⟨_,rfl,h⟩
 | _::_,_::_,i+1,.cons _ t,e=>by obtain⟨w,q,r⟩:=pK (i:=i) t (by simpa using e);exact⟨w,by simpa using q,r⟩
 | [],[],i,.nil,e=>by simp at e
theorem aZ.at{H:PHp}{q:Addr}{vs:List PV}{ls:List (List PV)}{i:Nat}{v:PV}(h:aZ H q vs ls)(e:vs[i]?=some v):∃l r,ls[i]?=some l/\v=.ref r/\r≠q/\H r=some (.lst l):=by
 obtain⟨l,hl,r,e,n,hr⟩:=pK h e
 exact⟨l,r,hl,e,n,hr⟩
theorem aZ.len{H:PHp}{q:Addr}{vs:List PV}{ls:List (List PV)}(h:aZ H q vs ls):vs.length=ls.length:=Paired.length h
theorem aZ.mv{H H1:PHp}{q p:Addr}{vs:List PV}{ls:List (List PV)}(h:aZ H q vs ls)(s:U.Sub H H1)(n:H p=none):aZ H1 p vs ls:=Paired.mapP h fun _ _ ⟨r,e,_,hr⟩=>⟨r,e,ay hr n,s _ _ hr⟩
theorem aZ.fr{H H0:PHp}{a q:Addr}{o:PO}(e:H0 q=some o):∀{vs:List PV} {ls:List (List PV)},aZ H a vs ls->(∀v∈vs,∀b,v=.ref b->H0 b=none)->aZ H q vs ls
 | [],[],_,_=>.nil
 | _::_,_::_,.cons ⟨r,er,_,hr⟩ t,f=>.cons ⟨r,er,(ay e (f _ List.mem_cons_self r er)).symm,hr⟩ (aZ.fr e t fun v hv=>f v (List.mem_cons_of_mem _ hv))
def Frs(H:PHp)(vs:List PV):Prop:=∀v∈vs,∀b,v=PV.ref b->H b=none
theorem Frs.nil{H:PHp}:Frs H []:=fun _ h=>by cases h
theorem Frs.app{H:PHp}{vs ws:List PV}(a:Frs H vs)(b:Frs H ws):Frs H (vs++ws):=fun v hv=>(List.mem_append.mp hv).elim (a v) (b v)
theorem Frs.one{H:PHp}{r:Addr}(h:H r=none):Frs H [.ref r]:=fun v hv b e=>by rw[List.mem_singleton]at hv;rw[hv]at e;cases e;exact h
theorem Frs.mono{H H1:PHp}{vs:List PV}(s:U.Sub H H1)(h:Frs H1 vs):Frs H vs:=fun v hv b e=>s.free (h v hv b e)
theorem Frs.sub{H:PHp}{vs ws:List PV}(h:Frs H vs)(k:∀v∈ws,v∈vs):Frs H ws:=fun v hv=>h v (k v hv)
theorem h8{l:List PV}{y:PV}:atI (l++[y]) (-1)=some y:=by
 unfold atI ixN
 rw[if_neg (by omega),List.length_append,List.length_singleton,if_pos (by omega),show(-1+((l.length+1:Nat):Int)).toNat=l.length by omega]
 simp
theorem j9{ok:PHp->Prop}{g:TG'}{tt:TT'}{te:TE'}{acc:Addr}{Q:VK'}{H1:PHp}{xs:List PV}(f:PV->PV)(pz:PV->Bool)(Iv:St'->Prop)(hlen:xs.length≤sizeLine)(hok:∀l,ok (put H1 acc (.lst l)))
  (hs:∀x∈xs,∀(l:List PV) (σ:St') (R:St'->PHp->Prop),Iv σ->l.length<sizeLine->(pz x=true->∀σ3,Iv σ3->R σ3 (put H1 acc (.lst (l++[f x]))))->(pz x=false->∀σ3,Iv σ3->R σ3 (put H1 acc (.lst l))) ->
   g x σ (put H1 acc (.lst l)) fun σ3 H2=>tt σ3 H2 fun b H3=>cif b (te σ3 H3 fun y H4=>∃l',H4 acc=some (.lst l')/\l'.length<sizeLine/\R σ3 (put H4 acc (.lst (l'++[y])))) (R σ3 H3))
  (hq:Q (.ref acc) (put H1 acc (.lst ((xs.filter pz).map f)))) {σ:St'} (h0:Iv σ):cn ok g tt te acc Q xs σ (put H1 acc (.lst [])):=by
 have key:∀(r d:List PV) (σ:St'),xs=d++r->Iv σ->cn ok g tt te acc Q r σ (put H1 acc (.lst ((d.filter pz).map f))):=by
  intro r
  induction r with
  | nil =>
   intro d σ e hv
   have:d=xs:=by rw[e,List.append_nil]
   subst this
   exact⟨hok _,hq⟩
  | cons x r ih =>
   intro d σ e hv
   have hd:((d.filter pz).map f).length<sizeLine:=by
    have h1:d.length+(r.length+1)=xs.length:=by rw[e,List.length_append,List.length_cons]
    have h2:=List.length_filter_le pz d
    rw[List.length_map]
    omega
   refine⟨hok _,hs x (by rw[e];simp) _ σ _ hv hd (fun hp σ3 h3=>?_) (fun hp σ3 h3=>?_)⟩
   ·have:=ih (d++[x]) σ3 (by rw[e];simp) h3
    rw[List.filter_append,List.map_append]at this
    simpa[hp]using this
   ·have:=ih (d++[x]) σ3 (by rw[e];simp) h3
    rw[List.filter_append,List.map_append]at this
    simpa[hp]using this
 exact key xs [] σ rfl h0
theorem Al{x y z:PV}:atI [x,y,z] 0=some x:=rfl
theorem AG{x y z:PV}:atI [x,y,z] 1=some y:=rfl
theorem zp{x y z:PV}:atI [x,y,z] 2=some z:=rfl
theorem CD{n:Nat}{k:Str}:flat n (.str k)=true:=by cases n<;>rfl
theorem mD{n:Int}{k:Str}{L:List Int}:((L.map PV.int).filter (fun _=>true)).map (fun y=>PV.tup [.int n,.str k,y])=(L.map fun m=>((n,k,m):Sp3)).map stV:=by
 rw[List.filter_eq_self.mpr (fun _ _=>rfl),List.map_map,List.map_map];rfl
theorem eM{b:Bool}{L:List Int}:((L.map PV.int).filter (fun _=>true)).map (fun y=>PV.tup [y,.bl b])=(L.map fun m=>((m,b):Sd)).map sdV:=by
 rw[List.filter_eq_self.mpr (fun _ _=>rfl),List.map_map,List.map_map];rfl
def g32(y:PV):PV:=match y with | .tup [_,_,b]=>b | _=>.non
theorem vH{road:List Sp3}:((road.map stV).filter (fun _=>true)).map g32=(road.map (·.2.2)).map PV.int:=by
 rw[List.filter_eq_self.mpr (fun _ _=>rfl),List.map_map,List.map_map];rfl
theorem kN{α:Type}(f:α->PV)(l:List α):cN (l.map f) (some 1) none=l.tail.map f:=by
 unfold cN
 rw[show(1:Int)=((1:Nat):Int)from rfl,HT.uV,HT.iP,List.length_map]
 cases l with
 | nil=>rfl
 | cons a l =>
  rw[Nat.min_eq_left (by simp),List.map_cons,List.drop_one,List.tail_cons,List.tail_cons]
  exact List.take_of_length_le (by simp)
theorem ka{α:Type}(f:α->PV)(l:List α):cN (l.map f) none (some (-1))=l.dropLast.map f:=by
 have e:HT.sIx (l.map f).length (l.map f).length (some (-1))=l.length - 1:=by
  unfold HT.sIx
  rw[List.length_map]
  simp
  omega
 unfold cN
 rw[e,HT.iP,List.drop_zero,Nat.sub_zero,List.dropLast_eq_take,List.map_take]
def mts:List Sp3->List Int
 | s::s'::r=>if mtg s s' then s.2.2::mts (s'::r)else mts (s'::r)
 | _=>[]
def mtF(y:PV):Bool:=match y with | .tup [.tup [.int a,.str k,.int b],.tup [.int a',.str k',.int b']]=>mtg (a,k,b) (a',k',b') | _=>false
def mtN(y:PV):PV:=match y with | .tup [.tup [_,_,b],_]=>b | _=>.non
theorem mM:∀(r:List Sp3),((cT (r.dropLast.map stV) (r.tail.map stV)).filter mtF).map mtN=(mts r).map PV.int
 | []=>rfl
 | [s]=>rfl
 | s::s'::r=>by
  have ih:=mM (s'::r)
  have e1:(s::s'::r).dropLast=s::(s'::r).dropLast:=rfl
  have e2:(s::s'::r).tail.map stV=stV s'::(s'::r).tail.map stV:=rfl
  have e3:mtF (.tup [stV s,stV s'])=mtg s s':=rfl
  rw[e1,e2,List.map_cons,cT,List.filter_cons,e3]
  unfold mts
  by_cases q:mtg s s'=true
  ·rw[if_pos q,if_pos q,List.map_cons,List.map_cons,ih];rfl
  ·rw[if_neg q,if_neg q,ih]
theorem va:∀{l m:List PV} {z:PV},z∈cT l m->∃x∈l,∃y∈m,z=.tup [x,y]:=fun {l m z} h=>by
 obtain⟨i,hi⟩:=List.getElem?_of_mem h
 obtain⟨x,y,h1,h2,e⟩:=di hi
 exact⟨x,List.mem_of_getElem? h1,y,List.mem_of_getElem? h2,e⟩
theorem d7{c:TT'}{tb:TS'}{D:eF}{σ:St'}{H:PHp}(h:∀R:TS',R=tb->j7 c R D σ H):j7 c tb D σ H:=h tb rfl
theorem um{tb:TS'}{rt:VK'}{bk:St'->PHp->Prop}{σ:St'}{H1:PHp}{m:Nat}{Pv:Nat->St'->PHp->Prop}(h:∀(N bk:St'->PHp->Prop),(∀σ' H',(∃m',m'<m/\Pv m' σ' H')->N σ' H')->tb { nx:=N,rt:=rt,bk:=bk,ct:=N } σ H1) :
  ∃N:St'->PHp->Prop,(∀σ' H',N σ' H'->∃m',m'<m/\Pv m' σ' H')/\tb { nx:=N,rt:=rt,bk:=bk,ct:=N } σ H1:=⟨fun σ' H'=>∃m',m'<m/\Pv m' σ' H',fun _ _ h=>h,h _ _ fun _ _ h=>h⟩
theorem gZ{L:List Sd}:(L.map sdV).all (flat 8)=true:=by
 rw[List.all_eq_true]
 intro z hz
 obtain⟨p,_,rfl⟩:=List.mem_map.mp hz
 rfl
theorem jY{L:List Sd}{n:Int}{b:Bool}:((L.map sdV).any fun z=>deq z (.tup [.int n,.bl b]))=decide ((n,b)∈L):=by
 rw[Bool.eq_iff_iff,List.any_eq_true,decide_eq_true_eq]
 constructor
 ·rintro⟨z,hz,e⟩
  obtain⟨p,hp,rfl⟩:=List.mem_map.mp hz
  simp only[sdV,deq,eL,Bool.and_true,Bool.and_eq_true,beq_iff_eq]at e
  obtain⟨p1,p2⟩:=p
  simp only at e
  rw[←e.1,← e.2];exact hp
 ·intro h
  exact⟨_,List.mem_map.mpr ⟨_,h,rfl⟩,by simp[sdV,deq,eL]⟩
structure LI (ts bs:List P2) (G A O:List Int) (W L:List Sd):Prop where
 nd:L.Nodup
 rl:∀s∈L,RSG ts bs G A O s.1 s.2
 rw:∀s∈W,RSG ts bs G A O s.1 s.2
 st:∀x∈O,(x,false)∈L∨(x,false)∈W
 sh:∀s∈L,∀z∈bes ts bs G A s,z∈L∨z∈W
theorem LI.iff{ts bs:List P2}{G A O:List Int}{L:List Sd}(h:LI ts bs G A O [] L)(s:Sd):s∈L↔RSG ts bs G A O s.1 s.2:=by
 refine⟨h.rl s,fun r=>?_⟩
 have:=nC (L:=L) (fun x hx=>(h.st x hx).resolve_right (by simp)) (fun s hs z hz=>(h.sh s hs z hz).resolve_right (by simp)) r
 exact this
theorem LI.old{ts bs:List P2}{G A O:List Int}{W L:List Sd}{s:Sd}(h:LI ts bs G A O (W++[s]) L)(hs:s∈L):LI ts bs G A O W L:=by
 have go:∀z,z∈L∨z∈W++[s]->z∈L∨z∈W:=fun z hz=>by
  rcases hz with q | q
  ·exact .inl q
  ·rcases List.mem_append.mp q with q | q
   ·exact .inr q
   ·rw[List.mem_singleton.mp q];exact .inl hs
 exact⟨h.nd,h.rl,fun z hz=>h.rw z (List.mem_append_left _ hz),fun x hx=>go _ (h.st x hx),fun z hz y hy=>go _ (h.sh z hz y hy)⟩
theorem LI.new{ts bs:List P2}{G A O:List Int}{W L:List Sd}{s:Sd}(h:LI ts bs G A O (W++[s]) L)(hs:s∉L):LI ts bs G A O (W++bes ts bs G A s) (L++[s]):=by
 have go:∀z,z∈L∨z∈W++[s]->z∈L++[s]∨z∈W++bes ts bs G A s:=fun z hz=>by
  rcases hz with q | q
  ·exact .inl (List.mem_append_left _ q)
  ·rcases List.mem_append.mp q with q | q
   ·exact .inr (List.mem_append_left _ q)
   ·exact .inl (List.mem_append_right _ q)
 have rs:RSG ts bs G A O s.1 s.2:=h.rw s (by simp)
 refine⟨List.nodup_append.mpr ⟨h.nd,by simp,fun x hx y hy e=>hs (by rw[List.mem_singleton.mp hy]at e;rw[←e];exact hx)⟩,fun z hz=>?_,fun z hz=>?_,fun x hx=>go _ (h.st x hx),fun z hz y hy=>?_⟩
 ·rcases List.mem_append.mp hz with q | q
  ·exact h.rl z q
  ·rw[List.mem_singleton.mp q];exact rs
 ·rcases List.mem_append.mp hz with q | q
  ·exact h.rw z (List.mem_append_left _ q)
  ·exact mH rs q
 ·rcases List.mem_append.mp hz with q | q
  ·exact go _ (h.sh z q y hy)
  ·rw[List.mem_singleton.mp q]at hy;exact .inr (List.mem_append_right _ hy)
theorem fQ{ok:PHp->Prop}{g:TG'}{tt:TT'}{te:TE'}{acc:Addr}{Q:VK'}{xs:List PV}(I:Nat->St'->PHp->Prop)
  (hs:∀(i:Nat) (x:PV) (σ:St') (H:PHp) (R:St'->PHp->Prop),xs[i]?=some x->I i σ H->(∀σ' H',I (i+1) σ' H'->R σ' H') ->
   ok H/\g x σ H fun σ3 H2=>tt σ3 H2 fun b H3=>cif b (te σ3 H3 fun y H4=>∃l',H4 acc=some (.lst l')/\l'.length<sizeLine/\R σ3 (put H4 acc (.lst (l'++[y])))) (R σ3 H3))
  (hq:∀σ H,I xs.length σ H->ok H/\Q (.ref acc) H) {σ:St'} {H:PHp} (h0:I 0 σ H):cn ok g tt te acc Q xs σ H:=by
 have key:∀(r d:List PV) (σ:St') (H:PHp),xs=d++r->I d.length σ H->cn ok g tt te acc Q r σ H:=by
  intro r
  induction r with
  | nil =>
   intro d σ H e hv
   rw[List.append_nil]at e
   subst e
   exact hq σ H hv
  | cons x r ih =>
   intro d σ H e hv
   refine hs d.length x σ H _ (by rw[e];simp) hv fun σ' H' h'=>?_
   exact ih (d++[x]) σ' H' (by rw[e];simp) (by rw[List.length_append];exact h')
 exact key xs [] σ H rfl h0
def cw(t:Ad):Sp':=fun vs H Q _=>match vs with
 | [.ref x,.ref a]=>∃c ts bs,∃Ls:List (List Int),Dr t H x c ts bs/\H a=some (.lst (Ls.map tupI))/\(∀L∈Ls,Nms c L)/\Q .non H
 | [.ref x,.tup l]=>∃c ts bs,∃Ls:List (List Int),Dr t H x c ts bs/\l=Ls.map tupI/\(∀L∈Ls,Nms c L)/\Q .non H
 | _=>False
theorem md{x a:Addr}{H:PHp}{Q:VK'}{E:XK'}:cw t [.ref x,.ref a] H Q E=(∃c ts bs,∃Ls:List (List Int),Dr t H x c ts bs/\H a=some (.lst (Ls.map tupI))/\(∀L∈Ls,Nms c L)/\Q .non H):=rfl
theorem ky{x:Addr}{l:List PV}{H:PHp}{Q:VK'}{E:XK'}:cw t [.ref x,.tup l] H Q E=(∃c ts bs,∃Ls:List (List Int),Dr t H x c ts bs/\l=Ls.map tupI/\(∀L∈Ls,Nms c L)/\Q .non H):=rfl
def cc:Sp':=fun vs H Q _=>match vs with
 | [.ref a]=>∃Ls:List (List Int),H a=some (.lst (Ls.map tupI))/\(∀L∈Ls,∀x∈L,0≤x/\x<6)/\Ls.flatten.Nodup/\Q .non H
 | [.tup l]=>∃Ls:List (List Int),l=Ls.map tupI/\(∀L∈Ls,∀x∈L,0≤x/\x<6)/\Ls.flatten.Nodup/\Q .non H
 | _=>False
theorem kI{a:Addr}{H:PHp}{Q:VK'}{E:XK'}:cc [.ref a] H Q E=(∃Ls:List (List Int),H a=some (.lst (Ls.map tupI))/\(∀L∈Ls,∀x∈L,0≤x/\x<6)/\Ls.flatten.Nodup/\Q .non H):=rfl
theorem j3{l:List PV}{H:PHp}{Q:VK'}{E:XK'}:cc [.tup l] H Q E=(∃Ls:List (List Int),l=Ls.map tupI/\(∀L∈Ls,∀x∈L,0≤x/\x<6)/\Ls.flatten.Nodup/\Q .non H):=rfl
structure Ap (c:Int) (A B G:List Int):Prop where
 a:Nms c A
 b:Nms c B
 g:Nms c G
 nd:(A++(B++(G++[]))).Nodup
 na:A≠[]
 nb:B≠[]
theorem Ap.ab{c:Int}{A B G:List Int}(h:Ap c A B G):∀x∈A,x∉B:=fun x hx hb=>(List.nodup_append.mp h.nd).2.2 x hx x (List.mem_append_left _ hb) rfl
theorem Ap.ag{c:Int}{A B G:List Int}(h:Ap c A B G):∀x∈A,x∉G:=fun x hx hb=>(List.nodup_append.mp h.nd).2.2 x hx x (List.mem_append_right _ (List.mem_append_left _ hb)) rfl
def dH(t:Ad):Sp':=fun vs H Q _=>match vs with
 | [.ref x,.tup l,.tup m,.tup n]=>∃c ts bs,∃A B G:List Int,Dr t H x c ts bs/\c≤6/\l=A.map PV.int/\m=B.map PV.int/\n=G.map PV.int/\Ap c A B G/\Q .non H
 | _=>False
theorem oU{x:Addr}{l m n:List PV}{H:PHp}{Q:VK'}{E:XK'}:dH t [.ref x,.tup l,.tup m,.tup n] H Q E=(∃c ts bs,∃A B G:List Int,Dr t H x c ts bs/\c≤6/\l=A.map PV.int/\m=B.map PV.int/\n=G.map PV.int/\Ap c A B G/\Q .non H):=rfl
def jO:Sp':=fun vs H Q _=>match vs with
 | [.tup [_,.str k,_]]=>Q (.bl (!(k=="up"))) H
 | _=>False
theorem zT{x y:PV}{k:Str}{H:PHp}{Q:VK'}{E:XK'}:jO [.tup [x,.str k,y]] H Q E=Q (.bl (!(k=="up"))) H:=rfl
def jD:Sp':=fun vs H Q _=>match vs with
 | [.tup [_,.str k,_]]=>Q (.bl (!(k=="down"))) H
 | _=>False
theorem AX{x y:PV}{k:Str}{H:PHp}{Q:VK'}{E:XK'}:jD [.tup [x,.str k,y]] H Q E=Q (.bl (!(k=="down"))) H:=rfl
def gR:Sp':=fun vs H Q _=>match vs with
 | [.tup [.int a,.str k,.int b],.tup [.int a',.str k',.int b']]=>Q (.bl (mtg (a,k,b) (a',k',b'))) H
 | _=>False
theorem yy{a b a' b':Int}{k k':Str}{H:PHp}{Q:VK'}{E:XK'}:gR [.tup [.int a,.str k,.int b],.tup [.int a',.str k',.int b']] H Q E=Q (.bl (mtg (a,k,b) (a',k',b'))) H:=rfl
def dY:Sp':=fun vs H Q _=>match vs with
 | [.tup [.int a,.str k,.int b],.tup [.int a',.str k',.int b'],.tup l,.tup m]=>∃G A:List Int,l=G.map PV.int/\m=A.map PV.int/\Q (.bl (psd G A (a,k,b) (a',k',b'))) H
 | _=>False
theorem qk{a b a' b':Int}{k k':Str}{l m:List PV}{H:PHp}{Q:VK'}{E:XK'}:dY [.tup [.int a,.str k,.int b],.tup [.int a',.str k',.int b'],.tup l,.tup m] H Q E=(∃G A:List Int,l=G.map PV.int/\m=A.map PV.int/\Q (.bl (psd G A (a,k,b) (a',k',b'))) H):=rfl
def fq(t:Ad):Sp':=fun vs H Q _=>match vs with
 | [.ref x,.int n]=>∃c ts bs,Dr t H x c ts bs/\OkD c ts bs/\(0≤n/\n<c)/\∀r H1,H r=none->U.Sub H H1->H1 r=some (.lst ((stp ts bs n).map stV))->Q (.ref r) H1
 | _=>False
theorem tL{x:Addr}{n:Int}{H:PHp}{Q:VK'}{E:XK'}:fq t [.ref x,.int n] H Q E=(∃c ts bs,Dr t H x c ts bs/\OkD c ts bs/\(0≤n/\n<c)/\∀r H1,H r=none->U.Sub H H1->H1 r=some (.lst ((stp ts bs n).map stV))->Q (.ref r) H1):=rfl
def eS:Sp':=fun vs H Q _=>match vs with
 | [.ref a]=>∃road:List Sp3,H a=some (.lst (road.map stV))/\road≠[]/\road.length≤100/\∀r H1,H r=none->U.Sub H H1->H1 r=some (.lst ((My.nm road).map PV.int))->Q (.ref r) H1
 | _=>False
theorem u0{a:Addr}{H:PHp}{Q:VK'}{E:XK'}:eS [.ref a] H Q E=(∃road:List Sp3,H a=some (.lst (road.map stV))/\road≠[]/\road.length≤100/\∀r H1,H r=none->U.Sub H H1->H1 r=some (.lst ((My.nm road).map PV.int))->Q (.ref r) H1):=rfl
def fC:Sp':=fun vs H Q _=>match vs with
 | [.ref a]=>∃road:List Sp3,H a=some (.lst (road.map stV))/\road.length≤100/\∀r H1,H r=none->U.Sub H H1->H1 r=some (.lst ((mts road).map PV.int))->Q (.ref r) H1
 | _=>False
theorem sm{a:Addr}{H:PHp}{Q:VK'}{E:XK'}:fC [.ref a] H Q E=(∃road:List Sp3,H a=some (.lst (road.map stV))/\road.length≤100/\∀r H1,H r=none->U.Sub H H1->H1 r=some (.lst ((mts road).map PV.int))->Q (.ref r) H1):=rfl
def d9(t:Ad):Sp':=fun vs H Q _=>match vs with
 | [.ref x,.tup [.int n,.bl p],.tup l,.tup m]=>∃c ts bs,∃G A:List Int,Dr t H x c ts bs/\OkD c ts bs/\(0≤n/\n<c)/\l=G.map PV.int/\m=A.map PV.int/\∀r H1,H r=none->U.Sub H H1->H1 r=some (.lst ((bes ts bs G A (n,p)).map sdV))->Q (.ref r) H1
 | _=>False
theorem rC{x:Addr}{n:Int}{p:Bool}{l m:List PV}{H:PHp}{Q:VK'}{E:XK'}:d9 t [.ref x,.tup [.int n,.bl p],.tup l,.tup m] H Q E=(∃c ts bs,∃G A:List Int,Dr t H x c ts bs/\OkD c ts bs/\(0≤n/\n<c)/\l=G.map PV.int/\m=A.map PV.int/\∀r H1,H r=none->U.Sub H H1->H1 r=some (.lst ((bes ts bs G A (n,p)).map sdV))->Q (.ref r) H1):=rfl
structure An (ts:List P2) (G A:List Int):Prop where
 up:A.Pairwise (·<·)
 iff:∀y,y∈A↔My.Reach (ts.map swp) G y
theorem An.one{ts:List P2}{G A A':List Int}(h:An ts G A)(g:An ts G A'):A=A':=My.eH h.up g.up fun y=>(h.iff y).trans (g.iff y).symm
theorem An.shut{ts:List P2}{G A:List Int}(h:An ts G A):∀a b,(a,b)∈ts->b∈A->a∈A:=fun a b e hb=>(h.iff a).mpr (.step ((h.iff b).mp hb) (List.mem_map.mpr ⟨_,e,rfl⟩))
def fi(t:Ad):Sp':=fun vs H Q _=>match vs with
 | [.ref x,.tup l,.tup m]=>∃c ts bs,∃O G:List Int,Dr t H x c ts bs/\OkD c ts bs/\l=O.map PV.int/\m=G.map PV.int/\Nms c O/\Nms c G /\
  ∀r H1 A,∀L:List Sd,H r=none->U.Sub H H1->An ts G A->H1 r=some (.lst (L.map sdV))->L.Nodup->(∀s:Sd,s∈L↔RSG ts bs G A O s.1 s.2)->Q (.ref r) H1
 | _=>False
theorem uc{x:Addr}{l m:List PV}{H:PHp}{Q:VK'}{E:XK'}:fi t [.ref x,.tup l,.tup m] H Q E=(∃c ts bs,∃O G:List Int,Dr t H x c ts bs/\OkD c ts bs/\l=O.map PV.int/\m=G.map PV.int/\Nms c O/\Nms c G /\
  ∀r H1 A,∀L:List Sd,H r=none->U.Sub H H1->An ts G A->H1 r=some (.lst (L.map sdV))->L.Nodup->(∀s:Sd,s∈L↔RSG ts bs G A O s.1 s.2)->Q (.ref r) H1):=rfl
def iF(ts bs:List P2)(ns:List Int):List (List Sp3):=ns.flatMap fun n=>(stp ts bs n).map fun s=>[s]
def lsS(r:List Sp3):Sp3:=r.getLastD (0,("":Str),0)
def gI(ts bs:List P2)(G A:List Int)(r:List Sp3):List (List Sp3):=((stp ts bs (lsS r).2.2).filter fun s=>!decide (s.2.2∈My.nm r)&&psd G A (lsS r) s).map fun s=>r++[s]
abbrev rdV(rs:List (List Sp3)):List (List PV):=rs.map fun r=>r.map stV
theorem dJ{p:List Sp3}{e:Sp3}:lsS (p++[e])=e:=by unfold lsS;simp
theorem nG{r:List Sp3}(h:r≠[]):∃l,My.nm r=l++[(lsS r).2.2]:=by
 rcases List.eq_nil_or_concat r with rfl |⟨p,e,rfl⟩
 ·exact absurd rfl h
 ·rw[List.concat_eq_append,dJ]
  cases p with
  | nil=>exact⟨[e.1],rfl⟩
  | cons a p=>exact⟨a.1::(a::p).map (·.2.2),by show a.1::List.map _ (a::(p++[e]))=_;simp⟩
theorem vv{r:List Sp3}(h:r≠[]):atI ((My.nm r).map PV.int) (-1)=some (.int (lsS r).2.2):=by
 obtain⟨l,e⟩:=nG h
 rw[e,List.map_append];exact h8
theorem rM{r:List Sp3}(h:r≠[]):atI (r.map stV) (-1)=some (stV (lsS r)):=by
 rcases List.eq_nil_or_concat r with rfl |⟨p,e,rfl⟩
 ·exact absurd rfl h
 ·rw[List.concat_eq_append,dJ,List.map_append];exact h8
theorem mV{c:Int}{ts bs:List P2}(ok:OkD c ts bs){G A:List Int}(r:List Sp3):(gI ts bs G A r).length≤18:=by
 unfold gI
 rw[List.length_map]
 exact Nat.le_trans (List.length_filter_le _ _) (gQ ok.gt ok.gb ok.c6 _)
def eX(t:Ad):Sp':=fun vs H Q _=>match vs with
 | [.ref x,.tup l]=>∃c ts bs,∃O:List Int,Dr t H x c ts bs/\OkD c ts bs/\l=O.map PV.int/\Nms c O/\∀r H1 us,H r=none->U.Sub H H1->H1 r=some (.lst us)->aZ H1 r us (rdV (iF ts bs O))->Frs H us->Q (.ref r) H1
 | _=>False
theorem uf{x:Addr}{l:List PV}{H:PHp}{Q:VK'}{E:XK'}:eX t [.ref x,.tup l] H Q E=(∃c ts bs,∃O:List Int,Dr t H x c ts bs/\OkD c ts bs/\l=O.map PV.int/\Nms c O/\∀r H1 us,H r=none->U.Sub H H1->H1 r=some (.lst us)->aZ H1 r us (rdV (iF ts bs O))->Frs H us->Q (.ref r) H1):=rfl
def d4(t:Ad):Sp':=fun vs H Q _=>match vs with
 | [.ref x,.ref a,.tup l]=>∃c ts bs,∃G:List Int,∃us,∃rs:List (List Sp3),Dr t H x c ts bs/\OkD c ts bs/\l=G.map PV.int/\Nms c G/\H a=some (.lst us)/\aZ H a us (rdV rs)/\rs.length*18≤sizeLine/\(∀r∈rs,r≠[]/\r.length≤100/\0≤(lsS r).2.2/\(lsS r).2.2<c) /\
  ∀r H1 ws A,H r=none->U.Sub H H1->An ts G A->H1 r=some (.lst ws)->aZ H1 r ws (rdV (rs.flatMap (gI ts bs G A)))->Frs H ws->Q (.ref r) H1
 | _=>False
theorem pG{x a:Addr}{l:List PV}{H:PHp}{Q:VK'}{E:XK'}:d4 t [.ref x,.ref a,.tup l] H Q E=(∃c ts bs,∃G:List Int,∃us,∃rs:List (List Sp3),Dr t H x c ts bs/\OkD c ts bs/\l=G.map PV.int/\Nms c G/\H a=some (.lst us)/\aZ H a us (rdV rs)/\rs.length*18≤sizeLine/\(∀r∈rs,r≠[]/\r.length≤100/\0≤(lsS r).2.2/\(lsS r).2.2<c) /\
  ∀r H1 ws A,H r=none->U.Sub H H1->An ts G A->H1 r=some (.lst ws)->aZ H1 r ws (rdV (rs.flatMap (gI ts bs G A)))->Frs H ws->Q (.ref r) H1):=rfl
structure Opn (ts bs:List P2) (G A O:List Int) (r:List Sp3):Prop where
 rd:RdG ts bs G A O r
 nd:(My.nm r).Nodup
theorem pw{c:Int}{ts bs:List P2}(ok:OkD c ts bs){r:List Sp3}(h:∀s∈r,EdG ts bs s):∀x∈My.nm r,0≤x/\x<c:=by
 cases r with
 | nil=>intro x hx;cases hx
 | cons s r =>
  intro x hx
  rcases List.mem_cons.mp hx with rfl | hx
  ·exact(rQ ok.gt ok.gb (h s List.mem_cons_self)).1
  ·obtain⟨z,hz,rfl⟩:=List.mem_map.mp hx
   exact(rQ ok.gt ok.gb (h z hz)).2
theorem wo{r:List Sp3}(h:r≠[]):(My.nm r).length=r.length+1:=by
 cases r with
 | nil=>exact absurd rfl h
 | cons s r=>simp[My.nm]
theorem Opn.ne{ts bs:List P2}{G A O:List Int}{r:List Sp3}(h:Opn ts bs G A O r):r≠[]:=fun e=>by
 obtain⟨s,hs,_⟩:=h.rd.hd
 subst e;cases hs
theorem Opn.len{c:Int}{ts bs:List P2}{G A O:List Int}{r:List Sp3}(h:Opn ts bs G A O r)(ok:OkD c ts bs):r.length≤5:=by
 have h1:=My.bI 6 _ h.nd fun x hx=>by have:=pw ok h.rd.ed x hx;have:=ok.c6;omega
 rw[wo h.ne]at h1;omega
structure RdK (ts bs:List P2) (G A O:List Int) (tg:List Sp3) (k:Nat) (rs:List (List Sp3)):Prop where
 ok:∀r∈rs,Opn ts bs G A O r
 k1:1≤k/\k≤tg.length
 le:rs.length≤6*18 ^ k
 tg:tg.take k∈rs
theorem iA{ts bs:List P2}{G A O:List Int}{p q:List Sp3}(h:Opn ts bs G A O (p++q))(ne:p≠[]):Opn ts bs G A O p:=by
 refine⟨⟨?_,fun s hs=>h.rd.ed s (List.mem_append_left _ hs),(My.bP.mp h.rd.ch).1⟩,?_⟩
 ·obtain⟨s,hs,ho⟩:=h.rd.hd
  refine⟨s,?_,ho⟩
  cases p with
  | nil=>exact absurd rfl ne
  | cons a p=>simpa using hs
 ·have:=h.nd
  cases p with
  | nil=>exact absurd rfl ne
  | cons a p =>
   have e:My.nm (a::p++q)=My.nm (a::p)++q.map (·.2.2):=by simp[My.nm]
   rw[e]at this
   exact(List.nodup_append.mp this).1
theorem lG{ts bs:List P2}{G A O:List Int}{r:List Sp3}{s:Sp3}:Opn ts bs G A O (r++[s])/\r≠[]↔(Opn ts bs G A O r/\s∈stp ts bs (lsS r).2.2/\s.2.2∉My.nm r/\psd G A (lsS r) s=true):=by
 have enm:r≠[]->My.nm (r++[s])=My.nm r++[s.2.2]:=fun ne=>by
  cases r with
  | nil=>exact absurd rfl ne
  | cons a p=>simp[My.nm]
 constructor
 ·rintro⟨h,ne⟩
  have nd:=h.nd
  rw[enm ne]at nd
  have nd2:=List.nodup_append.mp nd
  have c:=(My.bP.mp h.rd.ch).2.2
  have hl:lsS r∈r.getLast?:=by
   rcases List.eq_nil_or_concat r with rfl |⟨p,e,rfl⟩
   ·exact absurd rfl ne
   ·rw[List.concat_eq_append,dJ];simp
  have lk:=nH.mp (c _ hl s rfl)
  exact⟨iA h ne,hJ.mpr ⟨lk.1.symm,h.rd.ed s (by simp)⟩,fun hm=>nd2.2.2 _ hm _ (by simp) rfl,lk.2⟩
 ·rintro⟨h,hs,hn,hp⟩
  have ne:=h.ne
  obtain⟨hs1,hs2⟩:=hJ.mp hs
  refine⟨⟨⟨?_,fun z hz=>?_,My.bP.mpr ⟨h.rd.ch,trivial,fun a ha b hb=>?_⟩⟩,?_⟩,ne⟩
  ·obtain⟨z,hz,ho⟩:=h.rd.hd
   refine⟨z,?_,ho⟩
   cases r with
   | nil=>exact absurd rfl ne
   | cons a p=>simpa using hz
  ·rcases List.mem_append.mp hz with q | q
   ·exact h.rd.ed z q
   ·rw[List.mem_singleton.mp q];exact hs2
  ·have eb:b=s:=by simpa using hb.symm
   have ea:a=lsS r:=by
    rcases List.eq_nil_or_concat r with rfl |⟨p,e,rfl⟩
    ·exact absurd rfl ne
    ·rw[List.concat_eq_append]at ha ⊢;rw[dJ];simpa using ha.symm
   subst eb;subst ea
   exact nH.mpr ⟨hs1.symm,hp⟩
  ·rw[enm ne]
   refine List.nodup_append.mpr ⟨h.nd,by simp,fun x hx y hy e=>?_⟩
   rw[List.mem_singleton]at hy
   exact hn (by rw[←hy,← e];exact hx)
theorem mN{ts bs:List P2}{G A O:List Int}{s:Sp3}(lt:∀p∈ts,p.1<p.2)(lb:∀p∈bs,p.1<p.2):Opn ts bs G A O [s]↔s.1∈O/\EdG ts bs s:=by
 constructor
 ·intro h
  obtain⟨z,hz,ho⟩:=h.rd.hd
  have:z=s:=by simpa using hz.symm
  subst this
  exact⟨ho,h.rd.ed z (by simp)⟩
 ·rintro⟨ho,he⟩
  refine⟨⟨⟨s,rfl,ho⟩,fun z hz=>by rw[List.mem_singleton.mp hz];exact he,trivial⟩,?_⟩
  have ne:s.1≠s.2.2:=by
   rcases he with⟨_,e⟩ |⟨_,e⟩ |⟨_,e | e⟩
   ·have:=lt _ e;simp only at this;omega
   ·have:=lt _ e;simp only at this;omega
   ·have:=lb _ e;simp only at this;omega
   ·have:=lb _ e;simp only at this;omega
  simp[My.nm,ne]
theorem t8{c:Int}{ts bs:List P2}{G A O:List Int}(ok:OkD c ts bs)(hO:Nms c O){tg:List Sp3}(ht:Opn ts bs G A O tg):RdK ts bs G A O tg 1 (iF ts bs O):=by
 have lt:∀p∈ts,p.1<p.2:=fun p hp=>(ok.gt.lo p hp).2.1
 have lb:∀p∈bs,p.1<p.2:=fun p hp=>(ok.gb.lo p hp).2.1
 refine⟨fun r hr=>?_,⟨Nat.le_refl _,?_⟩,?_,?_⟩
 ·unfold iF at hr
  obtain⟨n,hn,hr⟩:=List.mem_flatMap.mp hr
  obtain⟨s,hs,rfl⟩:=List.mem_map.mp hr
  have:=hJ.mp hs
  exact(mN lt lb).mpr ⟨by rw[this.1];exact hn,this.2⟩
 ·have:=ht.ne
  cases tg with
  | nil=>exact absurd rfl this
  | cons _ _=>simp
 ·have h1:(iF ts bs O).length≤O.length*18:=My.dh fun n _=>by rw[List.length_map];exact gQ ok.gt ok.gb ok.c6 n
  have:=hO.len ok.c6
  omega
 ·cases tg with
  | nil=>exact absurd rfl ht.ne
  | cons s t =>
   have h1:Opn ts bs G A O ([s]++t):=ht
   have h2:=(mN lt lb).mp (iA h1 (by simp))
   unfold iF
   exact List.mem_flatMap.mpr ⟨s.1,h2.1,List.mem_map.mpr ⟨s,hJ.mpr ⟨rfl,h2.2⟩,rfl⟩⟩
theorem pZ{c:Int}{ts bs:List P2}{G A O:List Int}(ok:OkD c ts bs){tg:List Sp3}(ht:Opn ts bs G A O tg){k:Nat}{rs:List (List Sp3)}(h:RdK ts bs G A O tg k rs)(hk:k<tg.length):RdK ts bs G A O tg (k+1) (rs.flatMap (gI ts bs G A)):=by
 refine⟨fun r hr=>?_,⟨by omega,hk⟩,?_,?_⟩
 ·obtain⟨r0,h0,hr⟩:=List.mem_flatMap.mp hr
  obtain⟨s,hs,rfl⟩:=List.mem_map.mp hr
  obtain⟨h1,h2⟩:=List.mem_filter.mp hs
  simp only[Bool.and_eq_true,Bool.not_eq_true',decide_eq_false_iff_not]at h2
  exact(lG.mpr ⟨h.ok r0 h0,h1,h2.1,h2.2⟩).1
 ·have h1:(rs.flatMap (gI ts bs G A)).length≤rs.length*18:=My.dh fun r _=>mV ok r
  have:=h.le
  rw[Nat.pow_succ];omega
 ·have e:tg.take (k+1)=tg.take k++[tg[k]]:=by rw[List.take_succ,List.getElem?_eq_getElem hk];rfl
  have h1:Opn ts bs G A O (tg.take k++[tg[k]]++tg.drop (k+1)):=by rw[←e,List.take_append_drop];exact ht
  have h2:=iA h1 (fun z=>by cases (List.append_eq_nil_iff.mp z).2)
  have ne:tg.take k≠[]:=(h.ok _ h.tg).ne
  obtain⟨_,a1,a2,a3⟩:=lG.mp ⟨h2,ne⟩
  rw[e]
  exact List.mem_flatMap.mpr ⟨_,h.tg,List.mem_map.mpr ⟨_,List.mem_filter.mpr ⟨a1,by simp[a2,a3]⟩,rfl⟩⟩
def iE(H:PHp)(B:List Int)(y:PV):Bool:=match y with
 | .ref r=>(match H r with
  | some (.lst l)=>(match atI l (-1)with
   | some (.tup [_,_,.int b])=>decide (b∈B)
   | _=>false)
  | _=>false)
 | _=>false
theorem ie{H:PHp}{B:List Int}{r:Addr}{road:List Sp3}(h:H r=some (.lst (road.map stV)))(ne:road≠[]):iE H B (.ref r)=decide ((lsS road).2.2∈B):=by
 unfold iE;dsimp only;rw[h];dsimp only;rw[rM ne];rfl
theorem aZ.mem{H:PHp}{q:Addr}{vs:List PV}{ls:List (List PV)}{v:PV}(h:aZ H q vs ls)(hv:v∈vs):∃l r,l∈ls/\v=.ref r/\r≠q/\H r=some (.lst l):=by
 obtain⟨i,hi⟩:=List.getElem?_of_mem hv
 obtain⟨l,r,h1,h2⟩:=h.at hi
 exact⟨l,r,List.mem_of_getElem? h1,h2⟩
theorem aZ.of{H:PHp}{q:Addr}{vs:List PV}{ls:List (List PV)}{l:List PV}(h:aZ H q vs ls)(hl:l∈ls):∃r,PV.ref r∈vs/\H r=some (.lst l):=by
 unfold aZ at h
 induction h with
 | nil=>cases hl
 | cons a _ ih =>
  rcases List.mem_cons.mp hl with rfl | hl
  ·obtain⟨r,e,_,hr⟩:=a
   exact⟨r,by rw[e];exact List.mem_cons_self,hr⟩
  ·obtain⟨r,h1,h2⟩:=ih hl
   exact⟨r,List.mem_cons_of_mem _ h1,h2⟩
def fJ(t:Ad):Sp':=fun vs H Q _=>match vs with
 | [.ref x,.tup l,.tup m,.tup n]=>∃c ts bs,∃O B G A:List Int,Dr t H x c ts bs/\OkD c ts bs/\l=O.map PV.int/\m=B.map PV.int/\n=G.map PV.int/\Nms c O/\Nms c G/\An ts G A/\(∃r,Opn ts bs G A O r/\(lsS r).2.2∈B) /\
  ∀r H1 road,H r=none->U.Sub H H1->H1 r=some (.lst (road.map stV))->Opn ts bs G A O road->(lsS road).2.2∈B->road.length≤5->Q (.ref r) H1
 | _=>False
theorem tu{x:Addr}{l m n:List PV}{H:PHp}{Q:VK'}{E:XK'}:fJ t [.ref x,.tup l,.tup m,.tup n] H Q E=(∃c ts bs,∃O B G A:List Int,Dr t H x c ts bs/\OkD c ts bs/\l=O.map PV.int/\m=B.map PV.int/\n=G.map PV.int/\Nms c O/\Nms c G/\An ts G A/\(∃r,Opn ts bs G A O r/\(lsS r).2.2∈B) /\
  ∀r H1 road,H r=none->U.Sub H H1->H1 r=some (.lst (road.map stV))->Opn ts bs G A O road->(lsS road).2.2∈B->road.length≤5->Q (.ref r) H1):=rfl
structure Wy (ts:List P2) (G:List Int) (m:Int) (w:List Int):Prop where
 hd:w.head?=some m
 ch:My.Chn (fun a b=>(a,b)∈ts) w
 lo:∀x∈w.dropLast,x∉G
 la:∃e∈w.getLast?,e∈G
def lsI(w:List Int):Int:=w.getLastD 0
theorem kK{p:List Int}{e:Int}:lsI (p++[e])=e:=by unfold lsI;simp
theorem mT{w:List Int}(h:w≠[]):atI (w.map PV.int) (-1)=some (.int (lsI w)):=by
 rcases List.eq_nil_or_concat w with rfl |⟨p,e,rfl⟩
 ·exact absurd rfl h
 ·rw[List.concat_eq_append,kK,List.map_append];exact h8
theorem jo{w:List Int}(h:w≠[]):w.getLast?=some (lsI w)/\w=w.dropLast++[lsI w]:=by
 rcases List.eq_nil_or_concat w with rfl |⟨p,e,rfl⟩
 ·exact absurd rfl h
 ·rw[List.concat_eq_append,kK];simp
def iC(H:PHp)(G:List Int)(y:PV):Bool:=match y with
 | .ref r=>(match H r with
  | some (.lst l)=>(match atI l (-1)with
   | some (.int b)=>decide (b∈G)
   | _=>false)
  | _=>false)
 | _=>false
theorem iH{H:PHp}{G:List Int}{r:Addr}{w:List Int}(h:H r=some (.lst (w.map PV.int)))(ne:w≠[]):iC H G (.ref r)=decide (lsI w∈G):=by
 unfold iC;dsimp only;rw[h];dsimp only;rw[mT ne]
def mB(ts:List P2)(w:List Int):List (List Int):=(fol ts (lsI w)).map fun n=>w++[n]
structure WyO (ts:List P2) (G:List Int) (m:Int) (w:List Int):Prop where
 hd:w.head?=some m
 ch:My.Chn (fun a b=>(a,b)∈ts) w
 lo:∀x∈w.dropLast,x∉G
theorem WyO.ne{ts:List P2}{G:List Int}{m:Int}{w:List Int}(h:WyO ts G m w):w≠[]:=fun e=>by have:=h.hd;rw[e]at this;cases this
structure WyK (ts:List P2) (G:List Int) (m:Int) (tg:List Int) (k:Nat) (ws:List (List Int)):Prop where
 ok:∀w∈ws,WyO ts G m w
 k1:1≤k/\k≤tg.length
 le:ws.length≤6 ^ k
 tg:tg.take k∈ws
theorem px{c:Int}{ts bs:List P2}(ok:OkD c ts bs){G:List Int}{m:Int}{tg:List Int}(ht:My.Chn (fun a b=>(a,b)∈ts) tg){k:Nat}{ws:List (List Int)}(h:WyK ts G m tg k ws)(hk:k<tg.length)(no:∀w∈ws,lsI w∉G):WyK ts G m tg (k+1) (ws.flatMap (mB ts)):=by
 refine⟨fun w hw=>?_,⟨by omega,hk⟩,?_,?_⟩
 ·obtain⟨w0,h0,hw⟩:=List.mem_flatMap.mp hw
  obtain⟨n,hn,rfl⟩:=List.mem_map.mp hw
  have o:=h.ok w0 h0
  obtain⟨l1,l2⟩:=jo o.ne
  refine⟨?_,My.bP.mpr ⟨o.ch,trivial,fun a ha b hb=>?_⟩,fun x hx=>?_⟩
  ·have:=o.hd
   cases w0 with
   | nil=>cases this
   | cons a w0=>simpa using this
  ·rw[l1]at ha
   have ea:lsI w0=a:=Option.some.inj ha
   have eb:n=b:=by simpa using hb
   rw[←ea,← eb];exact dA.mp hn
  ·have e:(w0++[n]).dropLast=w0:=by simp
   rw[e,l2]at hx
   rcases List.mem_append.mp hx with q | q
   ·exact o.lo x q
   ·rw[List.mem_singleton.mp q];exact no w0 h0
 ·have h1:(ws.flatMap (mB ts)).length≤ws.length*6:=My.dh fun w _=>by unfold mB;rw[List.length_map];exact cv ok.gt ok.c6 _
  have:=h.le
  rw[Nat.pow_succ];omega
 ·have e:tg.take (k+1)=tg.take k++[tg[k]]:=by rw[List.take_succ,List.getElem?_eq_getElem hk];rfl
  have o:=h.ok _ h.tg
  obtain⟨l1,l2⟩:=jo o.ne
  have c1:My.Chn (fun a b=>(a,b)∈ts) (tg.take k++[tg[k]]++tg.drop (k+1)):=by rw[←e,List.take_append_drop];exact ht
  have c2:=(My.bP.mp (My.bP.mp c1).1).2.2 _ l1 _ rfl
  rw[e]
  exact List.mem_flatMap.mpr ⟨_,h.tg,List.mem_map.mpr ⟨_,dA.mpr c2,rfl⟩⟩
theorem iZ{ts:List P2}{G:List Int}:∀{w:List Int},My.Chn (fun a b=>(a,b)∈ts) w->(∃e∈w.getLast?,e∈G)->∀x∈w,My.Reach (ts.map swp) G x
 | [],_,_,x,hx=>by cases hx
 | [a],_,⟨e,he,hg⟩,x,hx=>by
  have:a=e:=by simpa using he
  rw[List.mem_singleton.mp hx,this];exact .base hg
 | a::b::w,c,⟨e,he,hg⟩,x,hx=>by
  have ih:=iZ (w:=b::w) c.2 ⟨e,by rw[List.getLast?_cons_cons]at he;exact he,hg⟩
  rcases List.mem_cons.mp hx with rfl | hx
  ·exact .step (ih b List.mem_cons_self) (List.mem_map.mpr ⟨_,c.1,rfl⟩)
  ·exact ih x hx
theorem An.lo{c:Int}{ts:List P2}{G A:List Int}(h:An ts G A)(g:Good c ts)(hG:Nms c G):∀x∈A,0≤x/\x<c:=fun x hx=>by
 cases (h.iff x).mp hx with
 | base h=>exact hG.lo x h
 | step _ e =>
  obtain⟨p,hp,ep⟩:=List.mem_map.mp e
  have:=g.lo p hp
  unfold swp at ep
  cases ep
  omega
theorem qN{c:Int}{ts:List P2}(g:Good c ts):∀{w:List Int},My.Chn (fun a b=>(a,b)∈ts) w->(∀m∈w.head?,0≤m/\m<c)->∀x∈w,0≤x/\x<c
 | [],_,_,x,hx=>by cases hx
 | [a],_,hm,x,hx=>by rw[List.mem_singleton.mp hx];exact hm a rfl
 | a::b::w,ch,hm,x,hx=>by
  rcases List.mem_cons.mp hx with rfl | hx
  ·exact hm _ rfl
  ·refine qN g (w:=b::w) ch.2 (fun m hm=>?_) x hx
   have e:b=m:=by simpa using hm
   have:=g.lo _ ch.1
   simp only at this
   omega
theorem nE{c:Int}{ts bs:List P2}(ok:OkD c ts bs){G:List Int}(hG:Nms c G){w:List Int}(h:My.Chn (fun a b=>(a,b)∈ts) w)(hl:∃e∈w.getLast?,e∈G):w.length≤6:=by
 have up:=My.lS (fun a b e=>(ok.gt.lo _ e).2.1) h
 refine My.bI 6 _ (up.imp fun h=>by omega) fun x hx=>?_
 have:=ok.c6
 cases iZ h hl x hx with
 | base h=>have:=hG.lo x h;omega
 | step _ e =>
  obtain⟨p,hp,ep⟩:=List.mem_map.mp e
  have:=ok.gt.lo p hp
  unfold swp at ep
  cases ep
  omega
def j8(t:Ad):Sp':=fun vs H Q _=>match vs with
 | [.ref x,.int m,.tup l]=>∃c ts bs,∃G A:List Int,Dr t H x c ts bs/\OkD c ts bs/\l=G.map PV.int/\Nms c G/\An ts G A/\m∈A/\∀r H1,∀w:List Int,H r=none->U.Sub H H1->H1 r=some (.lst (w.map PV.int))->Wy ts G m w->w.length≤6->Q (.ref r) H1
 | _=>False
theorem AH{x:Addr}{m:Int}{l:List PV}{H:PHp}{Q:VK'}{E:XK'}:j8 t [.ref x,.int m,.tup l] H Q E=(∃c ts bs,∃G A:List Int,Dr t H x c ts bs/\OkD c ts bs/\l=G.map PV.int/\Nms c G/\An ts G A/\m∈A/\∀r H1,∀w:List Int,H r=none->U.Sub H H1->H1 r=some (.lst (w.map PV.int))->Wy ts G m w->w.length≤6->Q (.ref r) H1):=rfl
abbrev inV(ws:List (List Int)):List (List PV):=ws.map fun w=>w.map PV.int
def gS(t:Ad):Sp':=fun vs H Q _=>match vs with
 | [.ref x,.ref a,.tup l]=>∃c ts bs,∃G A:List Int,∃road:List Sp3,Dr t H x c ts bs/\OkD c ts bs/\l=G.map PV.int/\Nms c G/\An ts G A/\H a=some (.lst (road.map stV))/\road.length≤100/\(∀m∈mts road,m∈A) /\
  ∀r H1 us,∀ws:List (List Int),H r=none->U.Sub H H1->H1 r=some (.lst us)->aZ H1 r us (inV ws)->Frs H us->Paired (Wy ts G) (mts road) ws->(∀w∈ws,w.length≤6)->Q (.ref r) H1
 | _=>False
theorem yi{x a:Addr}{l:List PV}{H:PHp}{Q:VK'}{E:XK'}:gS t [.ref x,.ref a,.tup l] H Q E=(∃c ts bs,∃G A:List Int,∃road:List Sp3,Dr t H x c ts bs/\OkD c ts bs/\l=G.map PV.int/\Nms c G/\An ts G A/\H a=some (.lst (road.map stV))/\road.length≤100/\(∀m∈mts road,m∈A) /\
  ∀r H1 us,∀ws:List (List Int),H r=none->U.Sub H H1->H1 r=some (.lst us)->aZ H1 r us (inV ws)->Frs H us->Paired (Wy ts G) (mts road) ws->(∀w∈ws,w.length≤6)->Q (.ref r) H1):=rfl
structure Tld (ts bs:List P2) (O B G:List Int) (L:List Sd) (A:List Int):Prop where
 an:An ts G A
 nd:L.Nodup
 iff:∀s:Sd,s∈L↔RSG ts bs G A O s.1 s.2
 no:∀s∈L,s.1∉B
structure Rod (ts bs:List P2) (O B G:List Int) (road:List Sp3) (ws:List (List Int)) (A:List Int):Prop where
 an:An ts G A
 op:Opn ts bs G A O road
 la:(lsS road).2.2∈B
 l5:road.length≤5
 wy:Paired (Wy ts G) (mts road) ws
 w6:∀w∈ws,w.length≤6
 ex:∃x p,RSG ts bs G A O x p/\x∈B
def TB(H:PHp)(c:Int)(ts bs:List P2)(A B G:List Int)(Q:VK'):Prop :=
 (∀r H1 N,∀L:List Sd,H r=none->U.Sub H H1->H1 r=some (.lst (L.map sdV))->Tld ts bs A B G L N->Q (.tup [.bl true,.ref r]) H1) /\
 ∀r q H1 us N,∀road:List Sp3,∀ws:List (List Int),H r=none->H q=none->r≠q->U.Sub H H1->H1 r=some (.lst (road.map stV))->H1 q=some (.lst us)->aZ H1 q us (inV ws)->Frs H us->Rod ts bs A B G road ws N->Q (.tup [.bl false,.tup [.ref r,.ref q]]) H1
theorem lU{G A:List Int}:∀{r:List Sp3},My.Chn (LnG G A) r->∀m∈mts r,m∈A
 | [],_,m,hm=>by cases hm
 | [_],_,m,hm=>by cases hm
 | s::s'::r,h,m,hm=>by
  unfold mts at hm
  split at hm
  ·rename_i q
   rcases List.mem_cons.mp hm with rfl | hm
   ·have:=eh.mp q
    exact h.1.mt this.1 this.2
   ·exact lU h.2 m hm
  ·exact lU h.2 m hm
theorem g7:∀(r:List Sp3),(mts r).length≤r.length
 | []=>by simp[mts]
 | [_]=>by simp[mts]
 | s::s'::r=>by
  have ih:=g7 (s'::r)
  unfold mts
  split<;>simp at ih ⊢<;>omega
theorem uH{c:Int}{ts bs:List P2}{O B G A:List Int}(ap:Ap c O B G)(an:An ts G A){x:Int}{p:Bool}(h:RSG ts bs G A O x p)(hx:x∈B):∃r,Opn ts bs G A O r/\(lsS r).2.2∈B:=by
 obtain⟨r,rd,⟨e,he,hb⟩,nd⟩:=My.tF p9 (fun a b e hb=>an.shut a b (by
  rcases e with⟨_,e⟩ |⟨z,_⟩ |⟨z,_⟩
  ·exact e
  ·exact absurd z p9
  ·exact absurd (show("down":Str)="bow" from z) (by decide)) hb) ap.ab ap.ag h hx
 have op:Opn ts bs G A O r:=⟨rd,nd⟩
 refine⟨r,op,?_⟩
 rcases List.eq_nil_or_concat r with rfl |⟨q,z,rfl⟩
 ·exact absurd rfl op.ne
 ·rw[List.concat_eq_append]at he ⊢
  rw[dJ]
  have:z=e:=by simpa using he
  rw[this];exact hb
def z0(B:List Int)(y:PV):PV:=match y with | .tup [.int n,_]=>.bl (decide (n∈B)) | _=>.non
def d0(t:Ad):Sp':=fun vs H Q _=>match vs with
 | [.ref x,.tup l,.tup m,.tup n]=>∃c ts bs,∃A B G:List Int,Dr t H x c ts bs/\OkD c ts bs/\l=A.map PV.int/\m=B.map PV.int/\n=G.map PV.int/\Ap c A B G/\TB H c ts bs A B G Q
 | _=>False
theorem rE{x:Addr}{l m n:List PV}{H:PHp}{Q:VK'}{E:XK'}:d0 t [.ref x,.tup l,.tup m,.tup n] H Q E=(∃c ts bs,∃A B G:List Int,Dr t H x c ts bs/\OkD c ts bs/\l=A.map PV.int/\m=B.map PV.int/\n=G.map PV.int/\Ap c A B G/\TB H c ts bs A B G Q):=rfl
theorem zt{a b:Int}{n:Nat}(h:0<b)(hb:My.BN n b):My.BN n (a.fmod b):=by
 have:=fm (a:=a) h
 exact hb.of_le (by omega)
structure GL (c i j:Int) (l:List P2):Prop where
 lo:∀p∈l,0≤p.1/\p.1<p.2/\p.2<c/\(p.1<i∨(p.1=i/\p.2<j))
 st:Srt l
theorem GL.nil{c i j:Int}:GL c i j []:=⟨fun p h=>(by cases h),List.Pairwise.nil⟩
theorem GL.up{c i j j':Int}{l:List P2}(h:GL c i j l)(hj:j≤j'):GL c i j' l:=⟨fun p hp=>by have:=h.lo p hp;omega,h.st⟩
theorem GL.nx{c i j:Int}{l:List P2}(h:GL c i j l)(j':Int):GL c (i+1) j' l:=⟨fun p hp=>by have:=h.lo p hp;omega,h.st⟩
theorem GL.app{c i j:Int}{l:List P2}(h:GL c i j l)(h0:0≤i)(hj:i<j)(hc:j<c)(c6:c≤6):GL c i (j+1) (l++[(i,j)]):=by
 refine⟨fun p hp=>?_,List.pairwise_append.mpr ⟨h.st,List.pairwise_singleton _ _,fun p hp q hq=>?_⟩⟩
 ·rcases List.mem_append.mp hp with q | q
  ·have:=h.lo p q;omega
  ·rw[List.mem_singleton]at q;subst q;exact⟨h0,hj,hc,.inr ⟨rfl,by show j<j+1;omega⟩⟩
 ·rw[List.mem_singleton]at hq
  subst hq
  have:=h.lo p hp
  show 6*p.1+p.2<6*i+j
  omega
theorem GL.good{c i j:Int}{l:List P2}(h:GL c i j l):Good c l:=⟨h.st.imp fun {a b} h e=>by subst e;exact absurd h (Int.lt_irrefl _),fun p hp=>by have:=h.lo p hp;omega⟩
def nj:Sp':=fun vs H Q _=>match vs with
 | [.int u,.int k]=>(0≤k/\k<100)/\∀n:Int,Q (.int n) H
 | _=>False
theorem Ds{u k:Int}{H:PHp}{Q:VK'}{E:XK'}:nj [.int u,.int k] H Q E=((0≤k/\k<100)/\∀n:Int,Q (.int n) H):=rfl
def eR:Sp':=fun vs H Q _=>match vs with
 | [.int _]=>Q (.bl true) H
 | _=>False
theorem sy{n:Int}{H:PHp}{Q:VK'}{E:XK'}:eR [.int n] H Q E=Q (.bl true) H:=rfl
def jT:Sp':=fun vs H Q _=>match vs with
 | [.fls l,.int k,.int c]=>(0≤k/\k<60)/\(1≤c/\c≤6)/\∃ns:List Int,l=ns.map PV.int/\∀ts bs,OkD c ts bs->Q (shp c ts bs) H
 | _=>False
theorem zX{l:List PV}{k c:Int}{H:PHp}{Q:VK'}{E:XK'}:jT [.fls l,.int k,.int c] H Q E=((0≤k/\k<60)/\(1≤c/\c≤6)/\∃ns:List Int,l=ns.map PV.int/\∀ts bs,OkD c ts bs->Q (shp c ts bs) H):=rfl
def eW:Sp':=fun vs H Q _=>match vs with
 | [.tup l,.tup m]=>∃c ts bs,∃G:List Int,PV.tup l=shp c ts bs/\m=G.map PV.int/\OkD c ts bs/\Nms c G/\∀r H1,∀F A:List Int,H r=none->U.Sub H H1->H1 r=some (.lst (F.map PV.int))->An ts G A->(∀y,y∈F↔y∈A)->Q (.ref r) H1
 | _=>False
theorem sJ{l m:List PV}{H:PHp}{Q:VK'}{E:XK'}:eW [.tup l,.tup m] H Q E=(∃c ts bs,∃G:List Int,PV.tup l=shp c ts bs/\m=G.map PV.int/\OkD c ts bs/\Nms c G/\∀r H1,∀F A:List Int,H r=none->U.Sub H H1->H1 r=some (.lst (F.map PV.int))->An ts G A->(∀y,y∈F↔y∈A)->Q (.ref r) H1):=rfl
def fH:Sp':=fun vs H Q _=>match vs with
 | [.tup l,.tup [.int n,.bl p],.tup m,.ref a]=>∃c ts bs,∃G F A:List Int,PV.tup l=shp c ts bs/\m=G.map PV.int/\OkD c ts bs/\H a=some (.lst (F.map PV.int))/\(∀y,y∈F↔y∈A)/\∀r H1,∀L:List Sd,H r=none->U.Sub H H1->H1 r=some (.lst (L.map sdV))->(∀z,z∈L↔z∈bes ts bs G A (n,p))->L.length≤60->Q (.ref r) H1
 | _=>False
theorem ux{l m:List PV}{n:Int}{p:Bool}{a:Addr}{H:PHp}{Q:VK'}{E:XK'}:fH [.tup l,.tup [.int n,.bl p],.tup m,.ref a] H Q E=(∃c ts bs,∃G F A:List Int,PV.tup l=shp c ts bs/\m=G.map PV.int/\OkD c ts bs/\H a=some (.lst (F.map PV.int))/\(∀y,y∈F↔y∈A)/\∀r H1,∀L:List Sd,H r=none->U.Sub H H1->H1 r=some (.lst (L.map sdV))->(∀z,z∈L↔z∈bes ts bs G A (n,p))->L.length≤60->Q (.ref r) H1):=rfl
def dF:Sp':=fun vs H Q _=>match vs with
 | [.tup l,.tup m,.tup n]=>∃c ts bs,∃O G:List Int,PV.tup l=shp c ts bs/\m=O.map PV.int/\n=G.map PV.int/\OkD c ts bs/\Nms c O/\Nms c G/\∀r H1 A,∀L:List Sd,U.Sub H H1->An ts G A->H1 r=some (.lst (L.map sdV))->L.length≤12->(∀s:Sd,s∈L↔RSG ts bs G A O s.1 s.2)->Q (.ref r) H1
 | _=>False
theorem n5{l m n:List PV}{H:PHp}{Q:VK'}{E:XK'}:dF [.tup l,.tup m,.tup n] H Q E=(∃c ts bs,∃O G:List Int,PV.tup l=shp c ts bs/\m=O.map PV.int/\n=G.map PV.int/\OkD c ts bs/\Nms c O/\Nms c G/\∀r H1 A,∀L:List Sd,U.Sub H H1->An ts G A->H1 r=some (.lst (L.map sdV))->L.length≤12->(∀s:Sd,s∈L↔RSG ts bs G A O s.1 s.2)->Q (.ref r) H1):=rfl
def fU:Sp':=fun vs H Q _=>match vs with
 | [.tup l,.tup m,.tup k,.tup n]=>∃c ts bs,∃O B G:List Int,PV.tup l=shp c ts bs/\m=O.map PV.int/\k=B.map PV.int/\n=G.map PV.int/\OkD c ts bs/\Nms c O/\Nms c G/\∀b A,An ts G A->(b=true↔∀x p,RSG ts bs G A O x p->x∉B)->Q (.bl b) H
 | _=>False
theorem uM{l m k n:List PV}{H:PHp}{Q:VK'}{E:XK'}:fU [.tup l,.tup m,.tup k,.tup n] H Q E=(∃c ts bs,∃O B G:List Int,PV.tup l=shp c ts bs/\m=O.map PV.int/\k=B.map PV.int/\n=G.map PV.int/\OkD c ts bs/\Nms c O/\Nms c G/\∀b A,An ts G A->(b=true↔∀x p,RSG ts bs G A O x p->x∉B)->Q (.bl b) H):=rfl
def eZ:Sp':=fun vs H Q _=>match vs with
 | [.tup l,.tup m,.tup k,.tup n,.ref a]=>∃c ts bs,∃O B G N:List Int,∃L:List Sd,PV.tup l=shp c ts bs/\m=O.map PV.int/\k=B.map PV.int/\n=G.map PV.int/\OkD c ts bs/\Nms c O/\Nms c G/\H a=some (.lst (L.map sdV))/\Tld ts bs O B G L N/\Q (.bl true) H
 | _=>False
theorem uA{l m k n:List PV}{a:Addr}{H:PHp}{Q:VK'}{E:XK'}:eZ [.tup l,.tup m,.tup k,.tup n,.ref a] H Q E=(∃c ts bs,∃O B G N:List Int,∃L:List Sd,PV.tup l=shp c ts bs/\m=O.map PV.int/\k=B.map PV.int/\n=G.map PV.int/\OkD c ts bs/\Nms c O/\Nms c G/\H a=some (.lst (L.map sdV))/\Tld ts bs O B G L N/\Q (.bl true) H):=rfl
def eV:Sp':=fun vs H Q _=>match vs with
 | [.tup l,.tup [.int a,.str k,.int b]]=>∃c ts bs,PV.tup l=shp c ts bs/\OkD c ts bs/\∀z:Bool,(z=true↔EdG ts bs (a,k,b))->Q (.bl z) H
 | _=>False
theorem rZ{l:List PV}{a b:Int}{k:Str}{H:PHp}{Q:VK'}{E:XK'}:eV [.tup l,.tup [.int a,.str k,.int b]] H Q E=(∃c ts bs,PV.tup l=shp c ts bs/\OkD c ts bs/\∀z:Bool,(z=true↔EdG ts bs (a,k,b))->Q (.bl z) H):=rfl
def gT:Sp':=fun vs H Q _=>match vs with
 | [.tup l,.int m,.ref a,.tup n]=>∃c ts bs,∃G w:List Int,PV.tup l=shp c ts bs/\n=G.map PV.int/\H a=some (.lst (w.map PV.int))/\w.length≤100/\Wy ts G m w/\Q (.bl true) H
 | _=>False
theorem yf{l n:List PV}{m:Int}{a:Addr}{H:PHp}{Q:VK'}{E:XK'}:gT [.tup l,.int m,.ref a,.tup n] H Q E=(∃c ts bs,∃G w:List Int,PV.tup l=shp c ts bs/\n=G.map PV.int/\H a=some (.lst (w.map PV.int))/\w.length≤100/\Wy ts G m w/\Q (.bl true) H):=rfl
def d6:Sp':=fun vs H Q _=>match vs with
 | [.tup [.int a,.str k,.int b],.tup [.int a',.str k',.int b']]=>Q (.bl (mtg (a,k,b) (a',k',b'))) H
 | _=>False
theorem rK{a b a' b':Int}{k k':Str}{H:PHp}{Q:VK'}{E:XK'}:d6 [.tup [.int a,.str k,.int b],.tup [.int a',.str k',.int b']] H Q E=Q (.bl (mtg (a,k,b) (a',k',b'))) H:=rfl
def fy:Sp':=fun vs H Q _=>match vs with
 | [.tup l,.tup m,.tup k,.tup n,.ref a,.ref q]=>∃c ts bs,∃O B G N:List Int,∃road:List Sp3,∃us,∃ws:List (List Int),PV.tup l=shp c ts bs/\m=O.map PV.int/\k=B.map PV.int/\n=G.map PV.int/\OkD c ts bs/\H a=some (.lst (road.map stV))/\H q=some (.lst us)/\aZ H q us (inV ws)/\Rod ts bs O B G road ws N/\Q (.bl true) H
 | _=>False
theorem sF{l m k n:List PV}{a q:Addr}{H:PHp}{Q:VK'}{E:XK'}:fy [.tup l,.tup m,.tup k,.tup n,.ref a,.ref q] H Q E=(∃c ts bs,∃O B G N:List Int,∃road:List Sp3,∃us,∃ws:List (List Int),PV.tup l=shp c ts bs/\m=O.map PV.int/\k=B.map PV.int/\n=G.map PV.int/\OkD c ts bs/\H a=some (.lst (road.map stV))/\H q=some (.lst us)/\aZ H q us (inV ws)/\Rod ts bs O B G road ws N/\Q (.bl true) H):=rfl
inductive Tol (H:PHp) (ts bs:List P2) (O B G:List Int):Bool→PV→Prop where
 | yes {r:Addr} {N:List Int} {L:List Sd} (h:H r=some (.lst (L.map sdV))) (t:Tld ts bs O B G L N):Tol H ts bs O B G true (.tup [.bl true,.ref r])
 | no {r q:Addr} {us:List PV} {N:List Int} {road:List Sp3} {ws:List (List Int)} (n:r≠q) (h:H r=some (.lst (road.map stV))) (g:H q=some (.lst us)) (l:aZ H q us (inV ws)) (t:Rod ts bs O B G road ws N):Tol H ts bs O B G false (.tup [.bl false,.tup [.ref r,.ref q]])
theorem Tol.up{H H1:PHp}{ts bs:List P2}{O B G:List Int}{b:Bool}{v:PV}(h:Tol H ts bs O B G b v)(s:U.Sub H H1):Tol H1 ts bs O B G b v:=by
 cases h with
 | yes h t=>exact .yes (s _ _ h) t
 | no n h g l t=>exact .no n (s _ _ h) (s _ _ g) (l.up s) t
def fI:Sp':=fun vs H Q _=>match vs with
 | [.tup l,.tup m,.tup k,.tup n,v]=>∃c ts bs,∃O B G:List Int,∃b,PV.tup l=shp c ts bs/\m=O.map PV.int/\k=B.map PV.int/\n=G.map PV.int/\OkD c ts bs/\Nms c O/\Nms c G/\Tol H ts bs O B G b v/\Q (.bl true) H
 | _=>False
theorem sV{l m k n:List PV}{v:PV}{H:PHp}{Q:VK'}{E:XK'}:fI [.tup l,.tup m,.tup k,.tup n,v] H Q E=(∃c ts bs,∃O B G:List Int,∃b,PV.tup l=shp c ts bs/\m=O.map PV.int/\k=B.map PV.int/\n=G.map PV.int/\OkD c ts bs/\Nms c O/\Nms c G/\Tol H ts bs O B G b v/\Q (.bl true) H):=rfl
structure Pt (n:Nat) (c:Int) (Ls:List (List Int)):Prop where
 len:Ls.length=n
 up:∀L∈Ls,L.Pairwise (·<·)
 pm:Ls.flatten.Perm (ulN c)
theorem Pt.nms{n:Nat}{c:Int}{Ls:List (List Int)}(h:Pt n c Ls):∀L∈Ls,Nms c L:=fun L hL=>⟨h.up L hL,fun x hx=>fW.mp (h.pm.mem_iff.mp (List.mem_flatten.mpr ⟨L,hL,hx⟩))⟩
def eU:Sp':=fun vs H Q _=>match vs with
 | [.int _,.int c,.int k]=>(1≤c/\c≤6)/\(1≤k/\k≤10)/\∀r H1,∀Ls:List (List Int),H r=none->U.Sub H H1->H1 r=some (.lst (Ls.map tupI))->Pt k.toNat c Ls->Q (.ref r) H1
 | _=>False
theorem sf{n c k:Int}{H:PHp}{Q:VK'}{E:XK'}:eU [.int n,.int c,.int k] H Q E=((1≤c/\c≤6)/\(1≤k/\k≤10)/\∀r H1,∀Ls:List (List Int),H r=none->U.Sub H H1->H1 r=some (.lst (Ls.map tupI))->Pt k.toNat c Ls->Q (.ref r) H1):=rfl
def fe:Sp':=fun vs H Q _=>match vs with
 | [.ref a,.int j]=>∃n c,∃Ls:List (List Int),H a=some (.lst (Ls.map tupI))/\Pt n c Ls/\(1≤c/\c≤6)/\n≤10/\(0≤j/\j<n)/\∀r H1,∀Ms:List (List Int),U.Sub H H1->H1 r=some (.lst (Ms.map tupI))->Pt n c Ms->Ms[j.toNat]?≠some []->Q (.ref r) H1
 | _=>False
theorem tP{a:Addr}{j:Int}{H:PHp}{Q:VK'}{E:XK'}:fe [.ref a,.int j] H Q E=(∃n c,∃Ls:List (List Int),H a=some (.lst (Ls.map tupI))/\Pt n c Ls/\(1≤c/\c≤6)/\n≤10/\(0≤j/\j<n)/\∀r H1,∀Ms:List (List Int),U.Sub H H1->H1 r=some (.lst (Ms.map tupI))->Pt n c Ms->Ms[j.toNat]?≠some []->Q (.ref r) H1):=rfl
def EmP(b:Bool)(v:PV)(H:PHp)(Q:VK'):Prop:=match b,v with
 | true,.ref r=>(∃l,H r=some (.lst l))/\∃H0,U.Sub H0 H/\H0 r=none/\Q .non H0
 | false,.tup [.ref r,.ref q]=>(∃l,H r=some (.lst l))/\r≠q/\∃us,∃ls,H q=some (.lst us)/\aZ H q us ls/\∃H0,U.Sub H0 H/\H0 r=none/\H0 q=none/\Frs H0 us/\Q .non H0
 | _,_=>False
def g5:Sp':=fun vs H Q _=>match vs with
 | [.tup [.bl b,v]]=>EmP b v H Q
 | _=>False
theorem yC{b:Bool}{v:PV}{H:PHp}{Q:VK'}{E:XK'}:g5 [.tup [.bl b,v]] H Q E=EmP b v H Q:=rfl
def bX(F:List Int)(p:P2):List Int:=if p.2∈F/\p.1∉F then F++[p.1]else F
theorem xm{F:List Int}{p:P2}{x:Int}(h:x∈F):x∈bX F p:=by
 unfold bX;split
 ·exact List.mem_append_left _ h
 ·exact h
theorem lW:∀(l:List P2) {F:List Int} {x:Int},x∈F->x∈l.foldl bX F
 | [],_,_,h=>h
 | _::l,_,_,h=>lW l (xm h)
theorem nv:∀(l:List P2) {F:List Int} {x:Int},x∈l.foldl bX F->x∈F∨∃p∈l,p.1=x
 | [],_,_,h=>.inl h
 | p::l,F,x,h=>by
  rcases nv l (F:=bX F p) h with q |⟨z,hz,e⟩
  ·unfold bX at q
   split at q
   ·rcases List.mem_append.mp q with q | q
    ·exact .inl q
    ·exact .inr ⟨p,List.mem_cons_self,(List.mem_singleton.mp q).symm⟩
   ·exact .inl q
  ·exact .inr ⟨z,List.mem_cons_of_mem _ hz,e⟩
theorem lE{E:List P2}{G:List Int}:∀(l:List P2) {F:List Int},(∀p∈l,(p.2,p.1)∈E)->(∀x∈F,My.Reach E G x)->∀x∈l.foldl bX F,My.Reach E G x
 | [],_,_,h,x,hx=>h x hx
 | p::l,F,he,h,x,hx=>by
  refine lE l (F:=bX F p) (fun q hq=>he q (List.mem_cons_of_mem _ hq)) (fun y hy=>?_) x hx
  unfold bX at hy
  split at hy
  ·rename_i c
   rcases List.mem_append.mp hy with q | q
   ·exact h y q
   ·rw[List.mem_singleton.mp q];exact .step (h _ c.1) (he p List.mem_cons_self)
  ·exact h y hy
theorem nK:∀(l:List P2),l.Pairwise (fun x y=>ST.pk y<ST.pk x)->(∀p∈l,0≤p.1/\p.1<p.2/\p.2<6)->∀{F:List Int} {a b:Int},(a,b)∈l->b∈l.foldl bX F->a∈l.foldl bX F
 | [],_,_,_,_,_,h,_=>by cases h
 | p::l,hs,hl,F,a,b,h,hb=>by
  rw[List.pairwise_cons]at hs
  rcases List.mem_cons.mp h with e | h
  ·subst e
   refine lW l (F:=bX F (a,b)) ?_
   have h0:=hl (a,b) List.mem_cons_self
   simp only at h0
   have bF:b∈F:=by
    rcases nv l (F:=bX F (a,b)) hb with q |⟨z,hz,e⟩
    ·unfold bX at q
     split at q
     ·rcases List.mem_append.mp q with q | q
      ·exact q
      ·have:=List.mem_singleton.mp q;simp only at this;omega
     ·exact q
    ·have h1:6*z.1+z.2<6*a+b:=hs.1 z hz
     have h2:=hl z (List.mem_cons_of_mem _ hz)
     omega
   unfold bX
   by_cases ha:a∈F
   ·rw[if_neg (fun c=>c.2 ha)];exact ha
   ·rw[if_pos ⟨bF,ha⟩];simp
  ·exact nK l hs.2 (fun q hq=>hl q (List.mem_cons_of_mem _ hq)) (F:=bX F p) h hb
theorem xA{c:Int}{ts bs:List P2}(ok:OkD c ts bs){G:List Int}(x:Int):x∈ts.reverse.foldl bX G↔My.Reach (ts.map swp) G x:=by
 have c6:=ok.c6
 constructor
 ·exact fun h=>lE ts.reverse (E:=ts.map swp) (G:=G) (fun p hp=>List.mem_map.mpr ⟨p,List.mem_reverse.mp hp,rfl⟩) (fun y hy=>.base hy) x h
 ·intro h
  induction h with
  | base h=>exact lW _ h
  | step _ e ih =>
   obtain⟨p,hp,ep⟩:=List.mem_map.mp e
   unfold swp at ep
   cases ep
   refine nK ts.reverse (List.pairwise_reverse.mpr ok.st) (fun q hq=>?_) (b:=p.2) (List.mem_reverse.mpr hp) ih
   have:=ok.gt.lo q (List.mem_reverse.mp hq)
   omega
theorem zE{c:Int}{ts bs:List P2}(ok:OkD c ts bs){G F:List Int}(hG:Nms c G)(h:∀x,x∈F↔My.Reach (ts.map swp) G x):∃A,An ts G A/\∀y,y∈F↔y∈A:=by
 have lo:∀y∈F,0≤y/\y<c:=fun y hy=>by
  cases (h y).mp hy with
  | base h=>exact hG.lo y h
  | step _ e =>
   obtain⟨p,hp,ep⟩:=List.mem_map.mp e
   have:=ok.gt.lo p hp
   unfold swp at ep
   cases ep
   omega
 have iff:∀y,y∈(ulN c).filter (fun y=>decide (y∈F))↔y∈F:=fun y=>by
  rw[List.mem_filter,decide_eq_true_eq]
  exact⟨fun z=>z.2,fun z=>⟨fW.mpr (lo y z),z⟩⟩
 exact⟨_,⟨(qm c).filter _,fun y=>(iff y).trans (h y)⟩,fun y=>(iff y).symm⟩
theorem me{ts:List P2}{n:Int}{b:Bool}:((ts.map prV).filter (at0 n)).map (fun y=>PV.tup [g1 y,.bl b])=((fol ts n).map fun m=>((m,b):Sd)).map sdV:=by
 have e:(fun y=>PV.tup [g1 y,.bl b])=(fun z=>PV.tup [z,.bl b]) ∘ g1:=rfl
 have fl:((ts.map prV).filter (at0 n)).map g1=(fol ts n).map PV.int:=dS
 rw[e,← List.map_map,fl,List.map_map,List.map_map];rfl
theorem jG{ts:List P2}{n:Int}{b:Bool}:((ts.map prV).filter (at1 n)).map (fun y=>PV.tup [g0 y,.bl b])=((src ts n).map fun m=>((m,b):Sd)).map sdV:=by
 have e:(fun y=>PV.tup [g0 y,.bl b])=(fun z=>PV.tup [z,.bl b]) ∘ g0:=rfl
 have fl:((ts.map prV).filter (at1 n)).map g0=(src ts n).map PV.int:=src_list
 rw[e,← List.map_map,fl,List.map_map,List.map_map];rfl
theorem or4{a b y w:Prop}:(((a∨b)∨y)∨w)↔(a∨(b∨(w∨y))):=⟨by rintro(((h | h) | h) | h)<;>simp[h],by rintro(h | h | h | h)<;>simp[h]⟩
structure RI (ts bs:List P2) (G A O:List Int) (L:List Sd) (k:Nat):Prop where
 nd:L.Nodup
 rl:∀s∈L,RSG ts bs G A O s.1 s.2
 st:∀x∈O,(x,false)∈L
 sh:∀s∈L.take k,∀z∈bes ts bs G A s,z∈L
theorem RI.iff{ts bs:List P2}{G A O:List Int}{L:List Sd}{k:Nat}(h:RI ts bs G A O L k)(hk:L.length≤k)(s:Sd):s∈L↔RSG ts bs G A O s.1 s.2:=by
 refine⟨h.rl s,fun r=>?_⟩
 have e:L.take k=L:=List.take_of_length_le hk
 have sh:=h.sh
 rw[e]at sh
 exact nC h.st sh r
def rY(O:List Int):List Sd:=O.map fun m=>((m,false):Sd)
def inB(B:List Int)(y:PV):Bool:=match y with | .tup [.int n,_]=>decide (n∈B) | _=>false
theorem jU{ts:List P2}{a b:Int}:((ts.map prV).any fun z=>deq z (.tup [.int a,.int b]))=decide ((a,b)∈ts):=by
 rw[Bool.eq_iff_iff,List.any_eq_true,decide_eq_true_eq]
 constructor
 ·rintro⟨z,hz,e⟩
  obtain⟨p,hp,rfl⟩:=List.mem_map.mp hz
  simp only[prV,deq,eL,Bool.and_true,Bool.and_eq_true,beq_iff_eq]at e
  obtain⟨p1,p2⟩:=p
  simp only at e
  rw[←e.1,← e.2];exact hp
 ·intro h
  exact⟨_,List.mem_map.mpr ⟨_,h,rfl⟩,by simp[prV,deq,eL]⟩
theorem gO{ts:List P2}:(ts.map prV).all (flat 8)=true:=by
 rw[List.all_eq_true]
 intro z hz
 obtain⟨p,_,rfl⟩:=List.mem_map.mp hz
 rfl
theorem wJ{c:Int}{bs:List P2}(g:Good c bs){a b:Int}:((if b<a then b else a,if b>a then b else a)∈bs)↔((a,b)∈bs∨(b,a)∈bs):=by
 by_cases h:b<a
 ·rw[if_pos h,if_neg (by omega)]
  refine⟨.inr,fun z=>z.resolve_left fun q=>?_⟩
  have:=g.lo _ q;simp only at this;omega
 ·rw[if_neg h]
  by_cases h2:b>a
  ·rw[if_pos h2]
   refine⟨.inl,fun z=>z.resolve_right fun q=>?_⟩
   have:=g.lo _ q;simp only at this;omega
  ·have e:a=b:=by omega
   subst e
   rw[if_neg h2];simp
theorem BL{n:Nat}{k:Int}:flat n (.int k)=true:=by cases n<;>rfl
theorem CC{n:Nat}{k:Bool}:flat n (.bl k)=true:=by cases n<;>rfl
theorem vp:(("down":Str)="up")=False:=eq_false (by decide)
theorem vg:(("down":Str)="bow")=False:=eq_false (by decide)
theorem vS:(("up":Str)="down")=False:=eq_false (by decide)
theorem vE:(("up":Str)="bow")=False:=eq_false (by decide)
theorem AB:(("bow":Str)="down")=False:=eq_false (by decide)
theorem A0:(("bow":Str)="up")=False:=eq_false (by decide)
theorem wQ{road:List Sp3}{i:Nat}{z:PV}(h:(cT (road.map stV) (road.tail.map stV))[i]?=some z):∃s s',road[i]?=some s/\road[i+1]?=some s'/\z=.tup [stV s,stV s']:=by
 obtain⟨x,y,h1,h2,e⟩:=di h
 rw[List.getElem?_map]at h1 h2
 obtain⟨s,hs,rfl⟩:=Option.map_eq_some_iff.mp h1
 obtain⟨s',hs',rfl⟩:=Option.map_eq_some_iff.mp h2
 rw[List.getElem?_tail]at hs'
 exact⟨s,s',hs,hs',e⟩
theorem rT{road:List Sp3}{i:Nat}{s s':Sp3}(h:road[i]?=some s)(h':road[i+1]?=some s'):mts (road.take (i+2))=if mtg s s' then mts (road.take (i+1))++[s.2.2]else mts (road.take (i+1)):=by
 induction road generalizing i with
 | nil=>simp at h
 | cons a r ih =>
  cases i with
  | zero =>
   cases r with
   | nil=>simp at h'
   | cons b r =>
    simp at h h'
    subst h;subst h'
    simp[mts]
  | succ i =>
   cases r with
   | nil=>simp at h
   | cons b r =>
    have ih:=ih (i:=i) (by simpa using h) (by simpa using h')
    have e1:(a::b::r).take (i+1+2)=a::b::r.take (i+1):=by simp[List.take]
    have e2:(a::b::r).take (i+1+1)=a::b::r.take i:=by simp[List.take]
    have e3:(b::r).take (i+2)=b::r.take (i+1):=rfl
    have e4:(b::r).take (i+1)=b::r.take i:=rfl
    rw[e3,e4]at ih
    rw[e1,e2,mts,mts,ih]
    by_cases q:mtg a b=true
    ·rw[if_pos q,if_pos q]
     by_cases q2:mtg s s'=true
     ·rw[if_pos q2,if_pos q2];rfl
     ·rw[if_neg q2,if_neg q2]
    ·rw[if_neg q,if_neg q]
structure Rl (H:PHp) (q:Addr) (rs:List Addr) (Ls:List (List Int)):Prop where
 nd:rs.Nodup
 at':Paired (fun r (L:List Int)=>r≠q/\H r=some (.lst (L.map PV.int))) rs Ls
theorem Rl.up{H H1:PHp}{q:Addr}{rs:List Addr}{Ls:List (List Int)}(h:Rl H q rs Ls)(s:U.Sub H H1):Rl H1 q rs Ls:=⟨h.nd,Paired.mapP h.at' fun _ _ ⟨a,b⟩=>⟨a,s _ _ b⟩⟩
theorem pL{H:PHp}{q:Addr}{M:List Int}:∀{rs:List Addr} {Ls:List (List Int)} {k:Nat} (hk:k<rs.length),rs.Nodup->Paired (fun r (L:List Int)=>r≠q/\H r=some (.lst (L.map PV.int))) rs Ls->Paired (fun r (L:List Int)=>r≠q/\put H rs[k] (.lst (M.map PV.int)) r=some (.lst (L.map PV.int))) rs (Ls.set k M)
 | r::rs,L::Ls,0,hk,nd,.cons h t=>by
  rw[List.nodup_cons]at nd
  refine .cons ⟨h.1,ak⟩ ?_
  have:∀{rs:List Addr} {Ls:List (List Int)},r∉rs->Paired (fun r (L:List Int)=>r≠q/\H r=some (.lst (L.map PV.int))) rs Ls->Paired (fun z (L:List Int)=>z≠q/\put H r (.lst (M.map PV.int)) z=some (.lst (L.map PV.int))) rs Ls:=fun {rs Ls} hn p=>by
   induction p with
   | nil=>exact .nil
   | cons a _ ih=>exact .cons ⟨a.1,(ar fun e=>hn (by rw[e];exact List.mem_cons_self)).trans a.2⟩ (ih fun z=>hn (List.mem_cons_of_mem _ z))
  exact this nd.1 t
 | r::rs,L::Ls,k+1,hk,nd,.cons h t=>by
  rw[List.nodup_cons]at nd
  have hk':k<rs.length:=by simpa using hk
  exact .cons ⟨h.1,(ar fun e=>nd.1 (by rw[e];exact List.getElem_mem hk')).trans h.2⟩ (pL hk' nd.2 t)
theorem eO{α:Type}:∀{Ls:List (List α)} {k:Nat} (hk:k<Ls.length) (X:List α),((Ls.set k X).flatten++Ls[k]).Perm (Ls.flatten++X)
 | L::Ls,0,_,X=>by
  simp only[List.set_cons_zero,List.flatten_cons,List.getElem_cons_zero]
  refine(List.perm_append_comm (l₁:=X++Ls.flatten) (l₂:=L)).trans ?_
  rw[List.append_assoc]
  exact List.Perm.append_left L List.perm_append_comm
 | L::Ls,k+1,hk,X=>by
  simp only[List.set_cons_succ,List.flatten_cons,List.getElem_cons_succ,List.append_assoc]
  exact List.Perm.append_left L (eO (by simpa using hk) X)
theorem sC{i:Nat}:ulN ((i+1:Nat):Int)=ulN (i:Nat)++[((i:Nat):Int)]:=by
 unfold ulN
 rw[Int.toNat_natCast,Int.toNat_natCast,List.range_succ,List.map_append];rfl
structure PtI (n:Nat) (i:Nat) (Ls:List (List Int)):Prop where
 len:Ls.length=n
 up:∀L∈Ls,L.Pairwise (·<·)
 pm:Ls.flatten.Perm (ulN (i:Nat))
theorem PtI.next{n i k:Nat}{Ls:List (List Int)}(h:PtI n i Ls)(hk:k<Ls.length):PtI n (i+1) (Ls.set k (Ls[k]++[((i:Nat):Int)])):=by
 refine⟨by rw[List.length_set];exact h.len,fun L hL=>?_,?_⟩
 ·rcases List.mem_or_eq_of_mem_set hL with q | q
  ·exact h.up L q
  ·subst q
   refine List.pairwise_append.mpr ⟨h.up _ (List.getElem_mem hk),List.pairwise_singleton _ _,fun x hx y hy=>?_⟩
   rw[List.mem_singleton]at hy
   subst hy
   exact(fW.mp (h.pm.mem_iff.mp (List.mem_flatten.mpr ⟨_,List.getElem_mem hk,hx⟩))).2
 ·have p:=eO hk (Ls[k]++[((i:Nat):Int)])
  rw[sC]
  have p2:((Ls.set k (Ls[k]++[((i:Nat):Int)])).flatten++Ls[k]).Perm ((Ls.flatten++[((i:Nat):Int)])++Ls[k]):=by
   refine p.trans ?_
   rw[List.append_assoc]
   exact List.Perm.append_left _ List.perm_append_comm
  exact((List.perm_append_right_iff _).mp p2).trans (h.pm.append_right _)
theorem nF{H:PHp}{q:Addr}:∀{rs:List Addr} {Ls:List (List Int)},Paired (fun r (L:List Int)=>r≠q/\H r=some (.lst (L.map PV.int))) rs Ls->(rs.map PV.ref).map (kX H)=Ls.map tupI
 | [],[],.nil=>rfl
 | r::rs,L::Ls,.cons h t=>by rw[List.map_cons,List.map_cons,List.map_cons,nF t,de h.2];rfl
theorem tO{α:Type}(f:α->PV)(P:List α)(e:α):cN ((P++[e]).map f) (some (-1)) none=[f e]:=by
 have h:HT.sIx ((P++[e]).map f).length 0 (some (-1))=P.length:=by
  unfold HT.sIx
  rw[List.length_map]
  simp
  omega
 unfold cN
 rw[h,HT.iP,List.length_map,List.map_append,List.drop_append_of_le_length (by simp)]
 have:(P.map f).drop P.length=[]:=List.drop_of_length_le (by simp)
 rw[this];simp
theorem Pt.move{n:Nat}{c:Int}{Ls:List (List Int)}(h:Pt n c Ls){j pl:Nat}(hj:j<Ls.length)(hp:pl<Ls.length){P:List Int}{e:Int}(ej:Ls[j]=[])(ep:Ls[pl]=P++[e]):Pt n c ((Ls.set j [e]).set pl P)/\((Ls.set j [e]).set pl P)[j]?=some [e]:=by
 have ne:pl≠j:=fun z=>by subst z;rw[ej]at ep;simp at ep
 have hp':pl<(Ls.set j [e]).length:=by rw[List.length_set];exact hp
 have eA:(Ls.set j [e])[pl]=P++[e]:=by rw[List.getElem_set_ne ne.symm];exact ep
 refine⟨⟨by rw[List.length_set,List.length_set];exact h.len,fun L hL=>?_,?_⟩,?_⟩
 ·rcases List.mem_or_eq_of_mem_set hL with q | q
  ·rcases List.mem_or_eq_of_mem_set q with q | q
   ·exact h.up L q
   ·subst q;exact List.pairwise_singleton _ _
  ·subst q
   have:=h.up _ (List.getElem_mem hp)
   rw[ep]at this
   exact(List.pairwise_append.mp this).1
 ·have p1:=eO hj [e]
  rw[ej,List.append_nil]at p1
  have p2:=eO hp' P
  rw[eA]at p2
  have p3:(((Ls.set j [e]).set pl P).flatten++(P++[e])).Perm (Ls.flatten++(P++[e])):=by
   refine p2.trans ((p1.append_right P).trans ?_)
   rw[List.append_assoc]
   exact List.Perm.append_left _ List.perm_append_comm
  exact((List.perm_append_right_iff _).mp p3).trans h.pm
 ·rw[List.getElem?_set_ne ne,List.getElem?_set_self hj]
theorem lD{α:Type}{k:Nat}:∀{Ls:List (List α)},(∀L∈Ls,L.length≤k)->Ls.flatten.length≤Ls.length*k
 | [],_=>by simp
 | L::Ls,h=>by
  have:=lD (k:=k) (Ls:=Ls) fun M hM=>h M (List.mem_cons_of_mem _ hM)
  have h1:=h L List.mem_cons_self
  rw[List.flatten_cons,List.length_append,List.length_cons,Nat.add_mul];omega
theorem kS(ns:List Int)(lo hi:Option Int):∃m:List Int,cN (ns.map PV.int) lo hi=m.map PV.int/\m.length≤ns.length:=by
 unfold cN
 refine⟨_,by rw[←List.map_drop,← List.map_take],?_⟩
 rw[List.length_take,List.length_drop];omega
theorem Pt.ap{c:Int}{O B G R:List Int}(h:Pt 4 c [O,B,G,R])(no:O≠[])(nb:B≠[]):Ap c O B G:=by
 have n:=h.nms
 have nd:(O++(B++(G++(R++[])))).Nodup:=h.pm.nodup_iff.mpr ((qm c).imp fun h=>by omega)
 refine⟨n O (by simp),n B (by simp),n G (by simp),nd.sublist ?_,no,nb⟩
 exact List.Sublist.append_left (List.Sublist.append_left (List.Sublist.append_left (List.nil_sublist _) G) B) O
theorem vU{H:PHp}{c:Int}{ts bs:List P2}{A B G:List Int}{Q:VK'}(h:∀b w H1,U.Sub H H1->Tol H1 ts bs A B G b (.tup [.bl b,w])->(∀Q':VK',Q' .non H->EmP b w H1 Q')->(∀N,An ts G N->(b=true↔∀x p,RSG ts bs G N A x p->x∉B))->Q (.tup [.bl b,w]) H1):TB H c ts bs A B G Q:=by
 refine⟨fun r H1 N L hr s1 er tl=>?_,fun r q H1 us N road ws hr hq nrq s1 er eq ls fu rod=>?_⟩
 ·refine h true (.ref r) H1 s1 (.yes er tl) (fun Q' q=>⟨⟨_,er⟩,H,s1,hr,q⟩) fun M an=>⟨fun _ x p hx=>?_,fun _=>rfl⟩
  rw[an.one tl.an]at hx
  exact tl.no (x,p) ((tl.iff (x,p)).mpr hx)
 ·refine h false (.tup [.ref r,.ref q]) H1 s1 (.no nrq er eq ls rod) (fun Q' q'=>⟨⟨_,er⟩,nrq,us,_,eq,ls,H,s1,hr,hq,fu,q'⟩) fun M an=>⟨fun z=>(by cases z),fun z=>?_⟩
  obtain⟨x,p,hx,hb⟩:=rod.ex
  rw[an.one rod.an]at z
  exact absurd hb (z x p hx)
def onP(f:P2->Bool)(y:PV):Bool:=match y with | .tup [.int u,.int v]=>f (u,v) | _=>false
theorem cZ{f:P2->Bool}{p:P2}:onP f (prV p)=f p:=rfl
theorem bR{f:P2->Bool}:∀{ts:List P2},((ts.map prV).filter (onP f)).map (fun y=>y)=(ts.filter f).map prV
 | []=>rfl
 | p::ts=>by
  have ih:=bR (f:=f) (ts:=ts)
  rw[List.map_cons,List.filter_cons,List.filter_cons,cZ]
  by_cases h:f p=true
  ·rw[if_pos h,if_pos h,List.map_cons,List.map_cons,ih]
  ·rw[if_neg h,if_neg h,ih]
theorem cY{q:Int->Bool}:∀{l:List Int},((l.map PV.int).filter (onI q)).map (fun y=>y)=(l.filter q).map PV.int
 | []=>rfl
 | k::l=>by
  have e:onI q (PV.int k)=q k:=rfl
  rw[List.map_cons,List.filter_cons,List.filter_cons,e]
  by_cases h:q k=true
  ·rw[if_pos h,if_pos h,List.map_cons,List.map_cons,cY]
  ·rw[if_neg h,if_neg h,cY]
theorem oQ{α:Type}{l:List α}:l.filter (fun _=>true)=l:=List.filter_eq_self.mpr fun _ _=>rfl
theorem fb2{L:List Int}{bs:List P2}:bs.filter (FB 2 L)=bs:=oQ
def dE:Sp':=fun vs H Q _=>match vs with
 | [.tup l,.tup m]=>∃A B:List Int,l=A.map PV.int/\m=B.map PV.int/\A.length≤1000/\Q (.tup ((A.filter fun y=>!decide (y∈B)).map PV.int)) H
 | _=>False
theorem oN{l m:List PV}{H:PHp}{Q:VK'}{E:XK'}:dE [.tup l,.tup m] H Q E=(∃A B:List Int,l=A.map PV.int/\m=B.map PV.int/\A.length≤1000/\Q (.tup ((A.filter fun y=>!decide (y∈B)).map PV.int)) H):=rfl
def eI:Sp':=fun vs H Q _=>match vs with
 | [.tup l,.tup m]=>∃c,∃S V:List Int,c≤6/\l=S.map PV.int/\m=V.map PV.int/\Nms c S/\Nms c V/\∀G:List Int,Nms c G->(∀x,x∈G↔x∈S∨x∈V)->Q (.tup (G.map PV.int)) H
 | _=>False
theorem zF{l m:List PV}{H:PHp}{Q:VK'}{E:XK'}:eI [.tup l,.tup m] H Q E=(∃c,∃S V:List Int,c≤6/\l=S.map PV.int/\m=V.map PV.int/\Nms c S/\Nms c V/\∀G:List Int,Nms c G->(∀x,x∈G↔x∈S∨x∈V)->Q (.tup (G.map PV.int)) H):=rfl
theorem nI{c:Int}{G M S V:List Int}(h:Nms c G)(g:Nms c M)(hi:∀x,x∈G↔x∈S∨x∈V)(gi:∀x,x∈M↔x∈S∨x∈V):G=M:=My.eH h.up g.up fun y=>(hi y).trans (gi y).symm
def dw:Sp':=fun vs H Q _=>match vs with
 | [.tup [_,.tup l,.tup m]]=>∃c,∃S V:List Int,c≤6/\l=S.map PV.int/\m=V.map PV.int/\Nms c S/\Nms c V/\∀G:List Int,Nms c G->(∀x,x∈G↔x∈S∨x∈V)->Q (.tup (G.map PV.int)) H
 | _=>False
theorem o9{a:PV}{l m:List PV}{H:PHp}{Q:VK'}{E:XK'}:dw [.tup [a,.tup l,.tup m]] H Q E=(∃c,∃S V:List Int,c≤6/\l=S.map PV.int/\m=V.map PV.int/\Nms c S/\Nms c V/\∀G:List Int,Nms c G->(∀x,x∈G↔x∈S∨x∈V)->Q (.tup (G.map PV.int)) H):=rfl
def eK(t:Ad)(k:Nat):Sp':=fun vs H Q _=>match vs with
 | [.ref x,.tup l]=>∃c ts bs,∃L:List Int,Dr t H x c ts bs/\l=L.map PV.int/\OkD c ts bs/\Nms c L/\∀y H1,U.Sub H H1->Dr t H1 y c (ts.filter (FT k L)) (bs.filter (FB k L))->Q (.ref y) H1
 | _=>False
theorem zS{k:Nat}{x:Addr}{l:List PV}{H:PHp}{Q:VK'}{E:XK'}:eK t k [.ref x,.tup l] H Q E=(∃c ts bs,∃L:List Int,Dr t H x c ts bs/\l=L.map PV.int/\OkD c ts bs/\Nms c L/\∀y H1,U.Sub H H1->Dr t H1 y c (ts.filter (FT k L)) (bs.filter (FB k L))->Q (.ref y) H1):=rfl
def fT(t:Ad):Sp':=fun vs H Q _=>match vs with
 | [.ref x,.int c,.ref a,.tup l]=>∃dx ys ps qs,H x=some (.ins t.a_Drawing dx [])/\H a=some (.lst ys)/\l=qs.map prV/\Rows H ys ps/\Good c ps/\Good c qs/\(1≤c/\c≤6/\qs.length≤6) /\
  ∀ts bs,ts.Perm ps->Srt ts->bs.Perm qs->Srt bs->Q .non (put H x (.ins t.a_Drawing dx (DF c ts bs)))
 | _=>False
theorem tx{x a:Addr}{l:List PV}{c:Int}{H:PHp}{Q:VK'}{E:XK'}:fT t [.ref x,.int c,.ref a,.tup l] H Q E=∃dx ys ps qs,H x=some (.ins t.a_Drawing dx [])/\H a=some (.lst ys)/\l=qs.map prV/\Rows H ys ps/\Good c ps/\Good c qs/\(1≤c/\c≤6/\qs.length≤6) /\
  ∀ts bs,ts.Perm ps->Srt ts->bs.Perm qs->Srt bs->Q .non (put H x (.ins t.a_Drawing dx (DF c ts bs))):=rfl
def RDr(k:Int)(ts bs:List P2)(S V N:List Int)(us cs:List P2):Prop :=
 (k=1->us=ts.filter (FT 1 S)/\cs=bs.filter (FB 1 S)) /\
 (k=2->us=(ts.filter (FT 1 S)).filter (FT 2 N)/\cs=bs.filter (FB 1 S)) /\
 (k=3->∃A,An (ts.filter (FT 1 S)) V A/\us=(ts.filter (FT 1 S)).filter (FT 1 (N.filter fun y=>!decide (y∈A)))/\cs=(bs.filter (FB 1 S)).filter (FB 1 (N.filter fun y=>!decide (y∈A))))
theorem RDr.one{k:Int}{ts bs us cs us' cs':List P2}{S V N:List Int}(hk:1≤k/\k≤3)(h:RDr k ts bs S V N us cs)(g:RDr k ts bs S V N us' cs'):us=us'/\cs=cs':=by
 have hk:k=1∨k=2∨k=3:=by omega
 rcases hk with rfl | rfl | rfl
 ·obtain⟨a,b⟩:=h.1 rfl
  obtain⟨c,d⟩:=g.1 rfl
  exact⟨a.trans c.symm,b.trans d.symm⟩
 ·obtain⟨a,b⟩:=h.2.1 rfl
  obtain⟨c,d⟩:=g.2.1 rfl
  exact⟨a.trans c.symm,b.trans d.symm⟩
 ·obtain⟨A,i,a,b⟩:=h.2.2 rfl
  obtain⟨B,j,c,d⟩:=g.2.2 rfl
  have e:=i.one j
  subst e
  exact⟨a.trans c.symm,b.trans d.symm⟩
theorem rd1{ts bs:List P2}{S V N:List Int}:RDr 1 ts bs S V N (ts.filter (FT 1 S)) (bs.filter (FB 1 S)):=⟨fun _=>⟨rfl,rfl⟩,fun h=>(by cases h),fun h=>(by cases h)⟩
theorem rd2{ts bs:List P2}{S V N:List Int}:RDr 2 ts bs S V N ((ts.filter (FT 1 S)).filter (FT 2 N)) (bs.filter (FB 1 S)):=⟨fun h=>(by cases h),fun _=>⟨rfl,rfl⟩,fun h=>(by cases h)⟩
theorem rd3{ts bs:List P2}{S V N A:List Int}(an:An (ts.filter (FT 1 S)) V A):RDr 3 ts bs S V N ((ts.filter (FT 1 S)).filter (FT 1 (N.filter fun y=>!decide (y∈A)))) ((bs.filter (FB 1 S)).filter (FB 1 (N.filter fun y=>!decide (y∈A)))):=⟨fun h=>(by cases h),fun h=>(by cases h),fun _=>⟨A,an,rfl,rfl⟩⟩
def ff(t:Ad):Sp':=fun vs H Q _=>match vs with
 | [.ref x,.int k,.tup [_,.tup l,.tup m],.tup n]=>∃c ts bs,∃S V N:List Int,Dr t H x c ts bs/\OkD c ts bs/\l=S.map PV.int/\m=V.map PV.int/\n=N.map PV.int/\Nms c S/\Nms c V/\Nms c N/\(1≤k/\k≤3)/\∀y H1 us cs,U.Sub H H1->Dr t H1 y c us cs->OkD c us cs->RDr k ts bs S V N us cs->Q (.ref y) H1
 | _=>False
theorem uE{x:Addr}{k:Int}{a:PV}{l m n:List PV}{H:PHp}{Q:VK'}{E:XK'}:ff t [.ref x,.int k,.tup [a,.tup l,.tup m],.tup n] H Q E=(∃c ts bs,∃S V N:List Int,Dr t H x c ts bs/\OkD c ts bs/\l=S.map PV.int/\m=V.map PV.int/\n=N.map PV.int/\Nms c S/\Nms c V/\Nms c N/\(1≤k/\k≤3)/\∀y H1 us cs,U.Sub H H1->Dr t H1 y c us cs->OkD c us cs->RDr k ts bs S V N us cs->Q (.ref y) H1):=rfl
structure Stm (c:Int) (A S V N:List Int):Prop where
 a:Nms c A
 s:Nms c S
 v:Nms c V
 n:Nms c N
 nd:(A++(S++(V++(N++[])))).Nodup
 na:A≠[]
 nn:N≠[]
theorem Stm.ap{c:Int}{A S V N G:List Int}(h:Stm c A S V N)(g:Nms c G)(gi:∀x,x∈G↔x∈S∨x∈V):Ap c A N G:=by
 have n1:=List.nodup_append.mp h.nd
 have n2:=List.nodup_append.mp n1.2.1
 have n3:=List.nodup_append.mp n2.2.1
 refine⟨h.a,h.n,g,?_,h.na,h.nn⟩
 refine List.nodup_append.mpr ⟨h.a.nd,List.nodup_append.mpr ⟨h.n.nd,by rw[List.append_nil];exact g.nd,fun x hx y hy e=>?_⟩,fun x hx y hy e=>?_⟩
 ·subst e
  rw[List.append_nil]at hy
  rcases (gi x).mp hy with q | q
  ·exact n2.2.2 x q x (List.mem_append_right _ (List.mem_append_left _ hx)) rfl
  ·exact n3.2.2 x q x (List.mem_append_left _ hx) rfl
 ·subst e
  rw[List.append_nil]at hy
  rcases List.mem_append.mp hy with q | q
  ·exact n1.2.2 x hx x (List.mem_append_right _ (List.mem_append_right _ (List.mem_append_left _ q))) rfl
  ·rcases (gi x).mp q with z | z
   ·exact n1.2.2 x hx x (List.mem_append_left _ z) rfl
   ·exact n1.2.2 x hx x (List.mem_append_right _ (List.mem_append_left _ z)) rfl
def fo(t:Ad):Sp':=fun vs H Q _=>match vs with
 | [.ref x,.int k,.tup [.tup o,.tup l,.tup m],.tup n]=>∃c ts bs,∃A S V N:List Int,Dr t H x c ts bs/\OkD c ts bs/\o=A.map PV.int/\l=S.map PV.int/\m=V.map PV.int/\n=N.map PV.int/\Stm c A S V N/\(1≤k/\k≤3)/\∀H1 us cs,∀G:List Int,U.Sub H H1->OkD c us cs->RDr k ts bs S V N us cs->Nms c G->(∀x,x∈G↔x∈S∨x∈V)->Ap c A N G->TB H1 c us cs A N G Q
 | _=>False
theorem sW{x:Addr}{k:Int}{o l m n:List PV}{H:PHp}{Q:VK'}{E:XK'}:fo t [.ref x,.int k,.tup [.tup o,.tup l,.tup m],.tup n] H Q E=(∃c ts bs,∃A S V N:List Int,Dr t H x c ts bs/\OkD c ts bs/\o=A.map PV.int/\l=S.map PV.int/\m=V.map PV.int/\n=N.map PV.int/\Stm c A S V N/\(1≤k/\k≤3)/\∀H1 us cs,∀G:List Int,U.Sub H H1->OkD c us cs->RDr k ts bs S V N us cs->Nms c G->(∀x,x∈G↔x∈S∨x∈V)->Ap c A N G->TB H1 c us cs A N G Q):=rfl
def CT(I O:List Int)(p:P2):Bool:=!decide (p.2∈I)&&!decide (p.1∈O)
theorem ct1{I:List Int}:CT I []=FT 1 I:=by funext p;simp[CT,FT]
theorem ct2{O:List Int}:CT [] O=FT 2 O:=by funext p;simp[CT,FT]
theorem fb0{bs:List P2}:bs.filter (FB 1 [])=bs:=List.filter_eq_self.mpr fun p _=>by simp[FB]
def fA:Sp':=fun vs H Q _=>match vs with
 | [.tup l,.tup m,.tup n]=>∃c ts bs,∃I O:List Int,PV.tup l=shp c ts bs/\m=I.map PV.int/\n=O.map PV.int/\OkD c ts bs/\Q (shp c (ts.filter (CT I O)) (bs.filter (FB 1 I))) H
 | [.tup l,.ref a,.tup n]=>∃c ts bs,∃I O:List Int,PV.tup l=shp c ts bs/\H a=some (.lst (I.map PV.int))/\n=O.map PV.int/\OkD c ts bs/\Q (shp c (ts.filter (CT I O)) (bs.filter (FB 1 I))) H
 | _=>False
theorem xI{l m n:List PV}{H:PHp}{Q:VK'}{E:XK'}:fA [.tup l,.tup m,.tup n] H Q E=(∃c ts bs,∃I O:List Int,PV.tup l=shp c ts bs/\m=I.map PV.int/\n=O.map PV.int/\OkD c ts bs/\Q (shp c (ts.filter (CT I O)) (bs.filter (FB 1 I))) H):=rfl
theorem sZ{l n:List PV}{a:Addr}{H:PHp}{Q:VK'}{E:XK'}:fA [.tup l,.ref a,.tup n] H Q E=(∃c ts bs,∃I O:List Int,PV.tup l=shp c ts bs/\H a=some (.lst (I.map PV.int))/\n=O.map PV.int/\OkD c ts bs/\Q (shp c (ts.filter (CT I O)) (bs.filter (FB 1 I))) H):=rfl
def fx:Sp':=fun vs H Q _=>match vs with
 | [.tup d,.int k,.tup [.tup o,.tup l,.tup m],.tup n]=>∃c ts bs,∃S V N:List Int,PV.tup d=shp c ts bs/\OkD c ts bs/\l=S.map PV.int/\m=V.map PV.int/\n=N.map PV.int/\Nms c S/\Nms c V/\Nms c N/\(1≤k/\k≤3)/\∀us cs,OkD c us cs->RDr k ts bs S V N us cs->Q (shp c us cs) H
 | _=>False
theorem sY{d:List PV}{k:Int}{o l m n:List PV}{H:PHp}{Q:VK'}{E:XK'}:fx [.tup d,.int k,.tup [.tup o,.tup l,.tup m],.tup n] H Q E=(∃c ts bs,∃S V N:List Int,PV.tup d=shp c ts bs/\OkD c ts bs/\l=S.map PV.int/\m=V.map PV.int/\n=N.map PV.int/\Nms c S/\Nms c V/\Nms c N/\(1≤k/\k≤3)/\∀us cs,OkD c us cs->RDr k ts bs S V N us cs->Q (shp c us cs) H):=rfl
theorem Pt.stm{c:Int}{A N S V W:List Int}(h:Pt 5 c [A,N,S,V,W])(na:A≠[])(nn:N≠[]):Stm c A S V N:=by
 have n:=h.nms
 have nd:(A++(N++(S++(V++(W++[]))))).Nodup:=h.pm.nodup_iff.mpr ((qm c).imp fun h=>by omega)
 have nd2:(A++(N++(S++V))).Nodup:=nd.sublist (List.Sublist.append_left (List.Sublist.append_left (List.Sublist.append_left (List.sublist_append_left V _) S) N) A)
 have p:(A++(S++(V++(N++[])))).Perm (A++(N++(S++V))):=by
  refine List.Perm.append_left A ?_
  rw[List.append_nil,← List.append_assoc]
  exact List.perm_append_comm
 exact⟨n A (by simp),n S (by simp),n V (by simp),n N (by simp),p.nodup_iff.mpr nd2,na,nn⟩
end
section
variable {P:Program}{w:World}{K:PySem.W.Frag}{mg:Str->Option Value}{base:Heap}{t:Ad}
local macro_rules | `(tactic| walk_at "r") => `(tactic| simp only [Au, zG, uOp, uI, uI0, uIx, k9, uC, sv, rm, ju, Af, vK, vn, jj, yq, yU, uOr, A9, vF, Dc, vP, uIf, uUn, A4, vI, Ai, AK, uCB, zf, DH, Eb, vM, rS, pq, nz, ve,
 qc,iX,AN,nO,zh,BP,rO,BA,qV,Cc,vG,D5,Ee,Ce,mR,DS,DG,Cw,qe,DT,Ec,ku,D9,Cz,vm,Cg,zi,vx,Bd,B8,mL,CS,kO,D1,Cq,k6,Cf,uEn,Df,BC,Aa,DL,Aw,AZ,Di,Dw,A3,C6,iG,jm,Bq,CA,yO,vc,Br,uo,BT.sub,BT.nm,DX,BI,Bf,ends,w8,zg,gh,flat,deq,eL,w_V,w_B,w_I,w_O,DP,Dv,C5,Ca,BM,DU,BX,CL,DW,Dd,De,D6,Dt,Dp,B5,Ck,BZ,D8,BD,Cy,CW,Dh,Dg,DA,CY,w_1,zw,D4,B7,DK,Dj,Ef,BS,Bz,Dy,Cv,AS,Cm,AF,Cj,BV,BJ,Aj,Bk,
 List.map_cons,List.map_nil,List.length_cons,List.length_nil,Nat.reduceAdd,Nat.reduceSub,Nat.add_sub_cancel,Nat.sub_self,Nat.zero_add,List.replicate_succ,List.replicate_zero,List.cons_append,List.nil_append,List.append_nil,List.getElem?_cons_zero,List.getElem?_cons_succ,List.set_cons_zero,List.set_cons_succ,
 w4,wx,List.all_cons,List.all_nil,Bool.and_self,Bool.and_true,Bool.true_and,Bool.not_true,Bool.not_false,true_and,and_true,ak,Option.some.injEq,PO.lst.injEq,exists_eq_left',Int.zero_add ,pR,mj,yd,mF,n0,kL,wK,uj,nW,zM,tD,Al,AG,zp,CD,md,ky,kI,j3,oU,zT,AX,yy,qk,tL,u0,sm,rC,uc,uf,pG,tu,AH,yi,rE,Ds,sy,zX,sJ,ux,n5,uM,uA,rZ,yf,rK,sF,sV,sf,tP,yC,BL,CC,oN,zF,o9,zS,tx,uE,sW,xI,sZ,sY])
local macro_rules | `(tactic| walk_at "o") => `(tactic| first | exact Or.inl rfl | exact Or.inr rfl)
theorem DC(T:Tx K mg t):aN P w K mg base CX0 1 t.a_zY t.d_zY ["count","pair"] d5:=by
 refine okU (k:=0) T.F_zY zk (fun vs H Q E h=>by
  unfold d5 at h
  split at h
  ·rfl
  ·exact h.elim) (fun cdv A outer s H E B hr=>⟨_,(aq (aB (gu (b4 (bh hr.units) aX (aA aD ba rfl T.b_len PySem.boot_len (aa (qv 1) ae)) ah (aI _)) (gc (oz vB vz fg fh fg fh ah (aw (qv 1) ah (fun _ _=>rfl)) (aw (qv 1) ah (fun _ _=>rfl)) (qv 0)))))),?_⟩)
 intro vs H Q E h
 unfold d5 at h
 split at h
 ·rename_i c u v
  obtain⟨⟨h1,h2,h3⟩,h⟩:=h
  walk_at "r"
  exact aJ rfl (aJ (by simpa using h1) (aJ (by simpa using h2) ⟨H,Sub.refl _,by rw[decide_eq_true h3];exact h⟩))
 ·exact h.elim
theorem sj(T:Tx K mg t):aN P w K mg base CX0 2 t.a_zN t.d_zN ["count","pairs"] cV:=by
 refine okU (k:=1) T.F_zN A8 (fun vs H Q E h=>by
  unfold cV at h
  split at h
  ·rfl
  ·exact h.elim) (fun cdv A outer s H E B hr=>⟨_,(aq (aB (gu (aA (ia rfl) ma rfl T.b_all boot_all (aa (bf (N2:=["pair","count"]) (nt:=1) (js:=[0]) (ck (sc:=ao sR)) rfl (aM (qv 1)) (fun s0 H0 fp ps=>⟨(av (i:=0) (show List.Nodup (["pair","count"]:List Str) by decide +kernel) rfl (by walk_at "o")),bg,(az (DC T) (hr.mono (by decide)) rfl T.g_zY T.F_zY.kp T.B_zY (aa (qv 1) (aa (qv 0) ae)))⟩)) ae)) (gc (b4 (bh hr.units) aX (lM rfl hr.units rfl T.b_len rfl T.b_set boot_set (qv 1)) (aA aD ba rfl T.b_len PySem.boot_len (aa (qv 1) ae)) (aI _)))))),?_⟩)
 intro vs H Q E h
 unfold cV at h
 split at h
 ·rename_i c a
  obtain⟨ps,ha,gd,hc,h⟩:=h
  have h15:=gd.len hc
  walk_at "r"
  refine⟨_,ha,fun acc hacc=>?_⟩
  have hna:=ay ha hacc
  refine aC (fun _=>.bl true) (fun _=>true) (fun σ=>∃x,σ=[x,some (.int c)]) (by rw[List.length_map];omega) (fun l=>(ar hna).trans ha) ?step ?fin ⟨_,rfl⟩
  case step =>
   rintro y hy l σ R ⟨x,rfl⟩ hl kT kF
   obtain⟨p,hp,rfl⟩:=List.mem_map.mp hy
   have b:=gd.lo p hp
   unfold prV
   walk_at "r"
   exact⟨b,hl,by rw[aG];exact kT rfl _ ⟨_,rfl⟩⟩
  case fin =>
   walk_at "r"
   refine⟨ps.map fun _=>true,by rw[List.filter_eq_self.mpr (fun _ _=>rfl),List.map_map,List.map_map];rfl,aJ (by simp) ⟨ps,(ar hna).trans ha,gd.nd,gd.prs hc,h15,_,(ar hna).trans ha,H,Sub.put (Sub.refl _) hacc,?_⟩⟩
   rw[List.length_map,beq_self_eq_true]
   exact h
 ·exact h.elim
theorem Aq(T:Tx K mg t):aN P w K mg base CX0 3 t.a_zw t.d_zw ["self","count","ties","bows"] (gX t):=by
 refine okU (k:=2) T.F_zw jc (fun vs H Q E h=>by
  unfold gX at h
  split at h
  ·rfl
  ·exact h.elim) (fun cdv A outer s H E B hr=>⟨_,(af (aO (aU (bJ (ax fg fh (qv 1) ah (aI _)) (bK (ax gF gz (qv 1) (bW (v':=.int 6) rfl T.c_MOST_NAMES (fun _=>by simp[RP])) (aI _)))))
  bC
  aF)
  (af (bx (i:=4) jc.nd rfl (by walk_at "o") (N2:=["tie"]) (nt:=1) (js:=[]) (ck (sc:=ao l9)) rfl (aM (qv 2)) (fun s0 H0 fp ps=>⟨(av (i:=0) (show List.Nodup (["tie"]:List Str) by decide +kernel) rfl (by walk_at "o")),bg,(aP aL a9 rfl T.b_tuple boot_tuple (aa (qv 0) ae))⟩))
  (af (aO (bz (aW (az (sj T) (hr.mono (by decide)) rfl T.g_zN T.F_zN.kp T.B_zN (aa (qv 1) (aa (qv 4) ae)))))
  bC
  aF)
  (af (bx (i:=5) jc.nd rfl (by walk_at "o") (N2:=["bow"]) (nt:=1) (js:=[]) (ck (sc:=ao l9)) rfl (aM (qv 3)) (fun s0 H0 fp ps=>⟨(av (i:=0) (show List.Nodup (["bow"]:List Str) by decide +kernel) rfl (by walk_at "o")),bg,(aP aL a9 rfl T.b_tuple boot_tuple (aa (qv 0) ae))⟩))
  (af (aO (bz (aW (az (sj T) (hr.mono (by decide)) rfl T.g_zN T.F_zN.kp T.B_zN (aa (qv 1) (aa (qv 5) ae)))))
  bC
  aF)
  (af (aO (ax gF gz (aA aD ba rfl T.b_len PySem.boot_len (aa (qv 5) ae)) (bW (v':=.int 6) rfl T.c_MOST_BOWS (fun _=>by simp[RP])) (aI _))
  bC
  aF)
  (af (fY (qv 0) (qv 1) T.cl_Drawing T.nf_Drawing_count rfl)
  (af (fY (qv 0) (aP aL a9 rfl T.b_tuple boot_tuple (aa (aA dz eP rfl T.b_sorted boot_sorted (aa (qv 4) ae)) ae)) T.cl_Drawing T.nf_Drawing_ties rfl)
  (aq (fY (qv 0) (aP aL a9 rfl T.b_tuple boot_tuple (aa (aA dz eP rfl T.b_sorted boot_sorted (aa (qv 5) ae)) ae)) T.cl_Drawing T.nf_Drawing_bows rfl)))))))))),?_⟩)
 intro vs H Q E h
 unfold gX at h
 split at h
 ·rename_i x c a b
  obtain⟨dx,ys,zs,ps,qs,hx,ha,hb,ry,rz,gp,gq,⟨c1,c6,q6⟩,h⟩:=h
  have hp15:=gp.len c6
  have hq15:=gq.len c6
  refine ai fun R hR=>?_
  walk_at "r"
  refine au (by simp;omega) (au (by simp;omega) ?_)
  subst hR
  refine ai fun R hR=>?_
  walk_at "r"
  refine⟨_,ha,fun p1 hp1=>?_⟩
  refine aC (kX H) (fun _=>true) (fun σ=>∃z,σ=[z]) (by rw[ry.length];omega) (fun l=>(ar (ay ha hp1)).trans ha) ?_ ?_ ⟨_,rfl⟩
  ·rintro y hy l σ R' ⟨z,rfl⟩ hl kT kF
   obtain⟨p,hp,row⟩:=gk ry hy
   rcases row with rfl |⟨r,rfl,hr⟩
   ·unfold prV
    walk_at "r"
    exact⟨hl,by rw[aG];exact kT rfl _ ⟨_,rfl⟩⟩
   ·rw[de hr]at kT
    walk_at "r"
    exact⟨_,(ar (ay hr hp1)).trans hr,hl,by rw[aG];exact kT rfl _ ⟨_,rfl⟩⟩
  rw[List.filter_eq_self.mpr (fun _ _=>rfl),eY ry]
  subst hR
  have sb1:U.Sub H (put H p1 (.lst (ps.map prV))):=Sub.put (Sub.refl _) hp1
  refine ai fun R hR=>?_
  walk_at "r"
  refine⟨ps,rfl,gp,c6,?_⟩
  try walk_at "r"
  subst hR
  have hp1s:put H p1 (.lst (ps.map prV)) p1=some (.lst (ps.map prV)):=ak
  have hx1:=sb1 _ _ hx
  have hb1:=sb1 _ _ hb
  have rz1:=rz.up sb1
  generalize put H p1 (.lst (ps.map prV))=H1 at *
  refine ai fun R hR=>?_
  walk_at "r"
  refine⟨_,hb1,fun p2 hp2=>?_⟩
  refine aC (kX H1) (fun _=>true) (fun σ=>∃z,σ=[z]) (by rw[rz1.length];omega) (fun l=>(ar (ay hb1 hp2)).trans hb1) ?_ ?_ ⟨_,rfl⟩
  ·rintro y hy l σ R' ⟨z,rfl⟩ hl kT kF
   obtain⟨p,hp,row⟩:=gk rz1 hy
   rcases row with rfl |⟨r,rfl,hr⟩
   ·unfold prV
    walk_at "r"
    exact⟨hl,by rw[aG];exact kT rfl _ ⟨_,rfl⟩⟩
   ·rw[de hr]at kT
    walk_at "r"
    exact⟨_,(ar (ay hr hp2)).trans hr,hl,by rw[aG];exact kT rfl _ ⟨_,rfl⟩⟩
  rw[List.filter_eq_self.mpr (fun _ _=>rfl),eY rz1]
  subst hR
  have sb2:U.Sub H1 (put H1 p2 (.lst (qs.map prV))):=Sub.put (Sub.refl _) hp2
  have hp1t:=sb2 _ _ hp1s
  have hx2:=sb2 _ _ hx1
  have hp2s:put H1 p2 (.lst (qs.map prV)) p2=some (.lst (qs.map prV)):=ak
  refine ai fun R hR=>?_
  walk_at "r"
  refine⟨qs,rfl,gq,c6,?_⟩
  try walk_at "r"
  subst hR
  have sb3:=sb1.trans sb2
  generalize put H1 p2 (.lst (qs.map prV))=H2 at *
  refine ai fun R hR=>?_
  walk_at "r"
  refine⟨_,hp2s,au (by rw[List.length_map];simp;omega) ?_⟩
  subst hR
  refine ai fun R hR=>?_
  walk_at "r"
  refine⟨_,_,hx2,by simp,?_⟩
  subst hR
  have n1:p1≠x:=fun e=>by subst e;rw[hx2]at hp1t;cases hp1t
  have n2:p2≠x:=fun e=>by subst e;rw[hx2]at hp2s;cases hp2s
  refine ai fun R hR=>?_
  walk_at "r"
  refine⟨ps,(ar n1).trans hp1t,gp.nd,fun p hp=>?_,by omega,fun r1 ts hr1 pt st=>?_⟩
  ·have:=gp.lo p hp;omega
  try walk_at "r"
  have nx1:x≠r1:=fun e=>by subst e;rw[ak]at hr1;cases hr1
  refine⟨_,_,(ar nx1).trans ak,Nat.lt_of_le_of_lt dQ (by decide),?_⟩
  subst hR
  have n3:p2≠r1:=fun e=>by subst e;rw[ar n2,hp2s]at hr1;cases hr1
  walk_at "r"
  refine⟨qs,(ar n2).trans ((ar n3).trans ((ar n2).trans hp2s)),gq.nd,fun p hp=>?_,by omega,fun r2 bs hr2 pb sb=>?_⟩
  ·have:=gq.lo p hp;omega
  try walk_at "r"
  have nx2:x≠r2:=fun e=>by subst e;rw[ak]at hr2;cases hr2
  have ul:=fun f v fs=>@dQ f v fs
  refine⟨_,_,(ar nx2).trans ak,?_,put H x (.ins t.a_Drawing dx (DF c ts bs)),kB ?_ ak,h ts bs pt st pb sb⟩
  ·have l1:=ul "ties" (.tup (ts.map prV)) (h7 "count" (.int c) [])
   have l2:=ul "count" (.int c) []
   simp only[List.length_nil]at l2
   omega
  ·intro z o hzx hz
   have hz2:=sb3 _ _ hz
   have z1:z≠r1:=fun e=>by subst e;rw[ar hzx,hz2]at hr1;cases hr1
   have z2:z≠r2:=fun e=>by subst e;rw[ar hzx,ar z1,ar hzx,hz2]at hr2;cases hr2
   rw[ar hzx,ar z2,ar hzx,ar z1,ar hzx]
   exact hz2
 ·exact h.elim
theorem yD(T:Tx K mg t):aN P w K mg base CX0 1 t.a_zb t.d_zb ["self","name"] (cW t):=by
 refine okU (k:=0) T.F_zb Bb (fun vs H Q E h=>by
  unfold cW at h
  split at h
  ·rfl
  ·exact h.elim) (fun cdv A outer s H E B hr=>⟨_,(aq (aO (aU (bJ (ax fg fh (qv 1) ah (aI _)) (bK (ax m9 nP (qv 1) (cg (qv 0) T.cl_Drawing T.nf_Drawing_count rfl) (aI _)))))
  bC
  aF)),?_⟩)
 intro vs H Q E h
 unfold cW at h
 split at h
 ·rename_i x n
  obtain⟨dx,c,ts,bs,hx,⟨h0,h1⟩,h⟩:=h
  walk_at "r"
  exact au (by simpa using h0) ⟨_,_,_,hx,rfl,au (by simpa using h1) ⟨H,Sub.refl _,h⟩⟩
 ·exact h.elim
theorem yI(T:Tx K mg t):aN P w K mg base CX0 2 t.a_ze t.d_ze ["self","name"] (du t):=by
 refine okU (k:=1) T.F_ze zP (fun vs H Q E h=>by
  unfold du at h
  split at h
  ·rfl
  ·exact h.elim) (fun cdv A outer s H E B hr=>⟨_,(af (aT (bu (qv 0) T.cl_Drawing T.m_zb (yD T) (hr.mono (by decide)) T.B_zb (aa (qv 1) ae)))
  (aq (aB (aP aL a9 rfl T.b_tuple boot_tuple (aa (bf (N2:=["tie","name"]) (nt:=1) (js:=[1]) (ck (sc:=ao sX)) rfl (aM (cg (qv 0) T.cl_Drawing T.nf_Drawing_ties rfl)) (fun s0 H0 fp ps=>⟨(av (i:=0) (show List.Nodup (["tie","name"]:List Str) by decide +kernel) rfl (by walk_at "o")),(bj (ax (bh hr.units) aX (aw (qv 0) ah (fun _ _=>rfl)) (qv 1) (aI _))),(aw (qv 0) ah (fun _ _=>rfl))⟩)) ae))))),?_⟩)
 intro vs H Q E h
 unfold du at h
 split at h
 ·rename_i x n
  obtain⟨dx,c,ts,bs,hx,⟨h0,h1⟩,h15,h⟩:=h
  walk_at "r"
  refine⟨⟨_,_,hx,rfl⟩,_,_,_,_,hx,⟨h0,h1⟩,_,_,_,hx,rfl,?_⟩
  show ∀acc,H acc=none->_
  intro acc hacc
  refine aC g0 (at1 n) (fun σ=>∃z,σ=[z,some (.int n)]) (by rw[List.length_map];omega) (fun _=>trivial) ?step ?fin ⟨_,rfl⟩
  case step =>
   rintro y hy l σ R ⟨z,rfl⟩ hl kT kF
   obtain⟨p,hp,rfl⟩:=List.mem_map.mp hy
   have e:at1 n (prV p)=decide (p.2=n):=rfl
   rw[e]at kT kF
   unfold prV at *
   walk_at "r"
   refine bA (fun q=>?_) (fun q=>?_)
   ·exact⟨hl,by rw[aG];exact kT (by simpa using q) _ ⟨_,rfl⟩⟩
   ·exact kF (by simpa using q) _ ⟨_,rfl⟩
  case fin =>
   refine⟨_,ak,H,Sub.put (Sub.refl _) hacc,?_⟩
   rw[src_list]
   exact h
 ·exact h.elim
theorem yF(T:Tx K mg t):aN P w K mg base CX0 2 t.a_za t.d_za ["self","name"] (cG t):=by
 refine okU (k:=1) T.F_za AI (fun vs H Q E h=>by
  unfold cG at h
  split at h
  ·rfl
  ·exact h.elim) (fun cdv A outer s H E B hr=>⟨_,(af (aT (bu (qv 0) T.cl_Drawing T.m_zb (yD T) (hr.mono (by decide)) T.B_zb (aa (qv 1) ae)))
  (aq (aB (aP aL a9 rfl T.b_tuple boot_tuple (aa (bf (N2:=["tie","name"]) (nt:=1) (js:=[1]) (ck (sc:=ao su)) rfl (aM (cg (qv 0) T.cl_Drawing T.nf_Drawing_ties rfl)) (fun s0 H0 fp ps=>⟨(av (i:=0) (show List.Nodup (["tie","name"]:List Str) by decide +kernel) rfl (by walk_at "o")),(bj (ax (bh hr.units) aX (aw (qv 0) ah (fun _ _=>rfl)) (qv 1) (aI _))),(aw (qv 0) ah (fun _ _=>rfl))⟩)) ae))))),?_⟩)
 intro vs H Q E h
 unfold cG at h
 split at h
 ·rename_i x n
  obtain⟨dx,c,ts,bs,hx,⟨h0,h1⟩,h15,h⟩:=h
  walk_at "r"
  refine⟨⟨_,_,hx,rfl⟩,_,_,_,_,hx,⟨h0,h1⟩,_,_,_,hx,rfl,?_⟩
  show ∀acc,H acc=none->_
  intro acc hacc
  refine aC g1 (at0 n) (fun σ=>∃z,σ=[z,some (.int n)]) (by rw[List.length_map];omega) (fun _=>trivial) ?step ?fin ⟨_,rfl⟩
  case step =>
   rintro y hy l σ R ⟨z,rfl⟩ hl kT kF
   obtain⟨p,hp,rfl⟩:=List.mem_map.mp hy
   have e:at0 n (prV p)=decide (p.1=n):=rfl
   rw[e]at kT kF
   unfold prV at *
   walk_at "r"
   refine bA (fun q=>?_) (fun q=>?_)
   ·exact⟨hl,by rw[aG];exact kT (by simpa using q) _ ⟨_,rfl⟩⟩
   ·exact kF (by simpa using q) _ ⟨_,rfl⟩
  case fin =>
   refine⟨_,ak,H,Sub.put (Sub.refl _) hacc,?_⟩
   rw[dS]
   exact h
 ·exact h.elim
theorem zK(T:Tx K mg t):aN P w K mg base CX0 1 t.a_zz t.d_zz ["_law_script","_law_k"] gW:=by
 refine okU (k:=0) T.F_zz Bj (fun vs H Q E h=>by
  unfold gW at h
  split at h
  ·rfl
  ·exact h.elim) (fun cdv A outer s H E B hr=>⟨_,(af (aO (ax fg fh (qv 1) (aA aD ba rfl T.b_len PySem.boot_len (aa (qv 0) ae)) (aI _))
  (aq (aB (aw (qv 0) (qv 1) (fun _ _=>rfl))))
  aF)
  (aq (aB ah))),?_⟩)
 intro vs H Q E h
 unfold gW at h
 split at h
 ·rename_i l k
  obtain⟨⟨h0,h1⟩,ns,rfl,h⟩:=h
  walk_at "r"
  by_cases hk:k<ns.length
  ·refine aJ (by rw[List.length_map];simpa using hk) ?_
   rw[uB h0 hk]
   exact⟨H,Sub.refl _,h⟩
  ·refine au (by rw[List.length_map];simpa using hk) ⟨H,Sub.refl _,?_⟩
   rw[List.getD_eq_getElem?_getD,List.getElem?_eq_none (by omega)]at h
   exact h
 ·exact h.elim
theorem B0(T:Tx K mg t):aN P w K mg base CX0 1 t.a_yb t.d_yb ["count","names"] fO:=by
 refine okU (k:=0) T.F_yb mI (fun vs H Q E h=>by
  unfold fO at h
  split at h
  ·rfl
  ·exact h.elim) (fun cdv A outer s H E B hr=>⟨_,(af (aK (i:=2) mI.nd rfl (by walk_at "o") (b7 ah))
  (af (bL PassesOwn.never rfl (aM (qv 1)) (av (i:=3) mI.nd rfl (by walk_at "o"))
  (af (aO (aU (bJ (ax vB vz (qv 3) (qv 2) (aI _)) (bK (ax m9 nP (qv 3) (qv 0) (aI _)))))
   (aq (aB bw))
   aF)
   (aq (aK (i:=2) mI.nd rfl (by walk_at "o") (qv 3)))))
  (aq (aB bw)))),?_⟩)
 intro vs H Q E h
 unfold fO at h
 split at h
 ·rename_i c l
  obtain⟨L,rfl,hL,h⟩:=h
  walk_at "r"
  refine bN (fun i σ H2=>∃z k,σ=[some (.int c),some (.tup (L.map PV.int)),some (.int z),k]/\H2=H/\∀j (hj:j<L.length),i≤j->z<L[j]) ?_ ?_ ⟨-1,none,rfl,rfl,fun j hj _=>by have:=(hL.lo _ (List.getElem_mem hj)).1;omega⟩
  ·rintro σ H2 ⟨z,k,rfl,rfl,hz⟩
   exact⟨trivial,H2,Sub.refl _,h⟩
  ·rintro G i y σ H2 hy ⟨z,k,rfl,rfl,hz⟩ kk
   refine⟨trivial,?_⟩
   obtain⟨hi,e⟩:=List.getElem?_eq_some_iff.mp hy
   rw[List.length_map]at hi
   rw[List.getElem_map]at e
   subst e
   walk_at "r"
   have h1:=hz i hi (Nat.le_refl _)
   have h2:=hL.lo _ (List.getElem_mem hi)
   exact au (by simp;omega) (au (by simp;omega) (kk _ _ ⟨_,_,rfl,rfl,fun j hj hij=>List.pairwise_iff_getElem.mp hL.up i j hi hj hij⟩))
 ·exact h.elim
theorem uv(T:Tx K mg t):aN P w K mg base CX0 2 t.a_zd t.d_zd ["self","names"] (dG t):=by
 refine okU (k:=1) T.F_zd zr (fun vs H Q E h=>by
  unfold dG at h
  split at h
  ·rfl
  ·exact h.elim) (fun cdv A outer s H E B hr=>⟨_,(aq (aO (bz (aW (az (B0 T) (hr.mono (by decide)) rfl T.g_yb T.F_yb.kp T.B_yb (aa (cg (qv 0) T.cl_Drawing T.nf_Drawing_count rfl) (aa (qv 1) ae)))))
  bC
  aF)),?_⟩)
 intro vs H Q E h
 unfold dG at h
 split at h
 ·rename_i x l
  obtain⟨c,ts,L,⟨dx,bs,hx⟩,rfl,hL,h⟩:=h
  walk_at "r"
  exact⟨_,_,_,hx,rfl,L,rfl,hL,H,Sub.refl _,h⟩
 ·exact h.elim
theorem yj(T:Tx K mg t):aN P w K mg base CX0 3 t.a_zc t.d_zc ["self","names"] (jC t swp):=by
 refine okU (k:=2) T.F_zc pE (fun vs H Q E h=>by
  unfold jC at h
  split at h
  ·rfl
  ·exact h.elim) (fun cdv A outer s H E B hr=>⟨_,(af (aT (bu (qv 0) T.cl_Drawing T.m_zd (uv T) (hr.mono (by decide)) T.B_zd (aa (qv 1) ae)))
  (af (aK (i:=2) pE.nd rfl (by walk_at "o") (aP b9 fS rfl T.b_list boot_list (aa (qv 1) ae)))
  (af (bL PassesOwn.never rfl (oR rfl T.b_range (aa (rV (cg (qv 0) T.cl_Drawing T.nf_Drawing_count rfl) ah) (aa (b7 ah) (aa (b7 ah) ae)))) (av (i:=3) pE.nd rfl (by walk_at "o"))
  (aq (aO (ax (bS hr.units) a0 (qv 3) (qv 2) (by with_unfolding_all rfl))
   (aq (aT (cz PySem.F.slot_list_extend PySem.F.type_list_extend iw m8 (qv 2) (aa (bu (qv 0) T.cl_Drawing T.m_ze (yI T) (hr.mono (by decide)) T.B_ze (aa (qv 3) ae)) ae))))
   aF)))
  (aq (aB (aP aL a9 rfl T.b_tuple boot_tuple (aa (iU rfl hr.units rfl T.b_sorted rfl T.b_set boot_set (qv 2)) ae))))))),?_⟩)
 intro vs H Q E h
 unfold jC at h
 split at h
 ·rename_i x l
  obtain⟨c,ts,L,⟨dx,bs,hx⟩,rfl,hL,hc,gt,h⟩:=h
  have t15:=gt.len hc.2
  have l6:=hL.len hc.2
  walk_at "r"
  refine⟨⟨_,_,hx,rfl⟩,c,ts,L,⟨_,_,hx⟩,rfl,hL,fun p hp=>?_⟩
  have nxp:=ay hx hp
  refine⟨_,_,_,(ar nxp).trans hx,rfl,?_⟩
  show -1≤c - 1/\c - 1<1000/\_
  refine⟨by omega,by omega,?_⟩
  have ei:kx (c - 1) (c - 1+1).toNat=(dlN c).map PV.int:=by
   unfold kx dlN
   rw[List.map_map,show c - 1+1=c by omega]
   rfl
  rw[ei]
  refine bN (fun i σ H2=>∃k F,σ=[some (.ref x),some (.tup (L.map PV.int)),some (.ref p),k]/\H2=put H p (.lst (F.map PV.int))/\F=((dlN c).take i).foldl (My.bU (ts.map swp)) L/\F.length≤6+15*i) ?_ ?_ ⟨none,L,rfl,rfl,rfl,by omega⟩
  ·rintro σ H2 ⟨k,F,rfl,rfl,hF,hlen⟩
   rw[List.length_map,List.take_length]at hF
   refine⟨trivial,?_⟩
   walk_at "r"
   have iff:∀y,y∈F↔My.Reach (ts.map swp) L y:=fun y=>by rw[hF];exact ql gt y
   have lo:∀y∈F,0≤y/\y<c:=fun y hy=>qM (fun a b e=>pI gt true a b e) hL.lo ((iff y).mp hy)
   refine⟨F.map Int.toNat,by rw[d8 fun y hy=>(by have:=lo y hy;omega)],fun n hn=>?_,fun r ms hr hs hm=>?_⟩
   ·obtain⟨z,hz,rfl⟩:=List.mem_map.mp hn
    have:=lo z hz;omega
   ·obtain⟨q1,q2⟩:=oH hc.2 lo iff hs hm
    try walk_at "r"
    refine⟨H,((Sub.refl H).put hp).put (((Sub.refl H).put hp).free hr),?_⟩
    have:=h _ q1 q2
    rw[List.map_map]at this
    exact this
  ·rintro G i y σ H2 hy ⟨k,F,rfl,rfl,hF,hlen⟩ kk
   refine⟨trivial,?_⟩
   rw[List.getElem?_map]at hy
   cases hn:(dlN c)[i]? with
   | none=>rw[hn]at hy;cases hy
   | some n =>
    rw[hn]at hy
    cases hy
    have hnm:=jK.mp (List.mem_of_getElem? hn)
    have hil:i<(dlN c).length:=(List.getElem?_eq_some_iff.mp hn).1
    have hi6:i<6:=by unfold dlN at hil;rw[List.length_map,List.length_range]at hil;omega
    have hnx:((dlN c).take (i+1)).foldl (My.bU (ts.map swp)) L=My.bU (ts.map swp) F n:=by rw[ji hn,← hF]
    have hpl:=ox (E:=ts.map swp) (f:=F) (n:=n)
    rw[List.length_map]at hpl
    walk_at "r"
    refine⟨aH,?_⟩
    rw[aR]
    refine sH (fun hm=>?_) (fun hm=>?_)
    ·have e:My.bU (ts.map swp) F n=F++(ts.filter (fun p=>decide (p.2=n))).map (·.1):=by
      unfold My.bU;rw[if_pos hm,lq]
     rw[e]at hnx hpl
     refine⟨⟨_,rfl⟩,⟨_,_,(ar nxp).trans hx,rfl⟩,_,_,_,_,(ar nxp).trans hx,hnm,t15,?_⟩
     try walk_at "r"
     rw[List.length_append]at hpl
     unfold src
     refine⟨aj (by rw[List.length_map,List.length_map];omega),kk _ _ ⟨_,F++(ts.filter (fun p=>decide (p.2=n))).map (·.1),rfl,?_,hnx.symm,?_⟩⟩
     ·rw[aG,List.map_append]
     ·rw[List.length_append];omega
    ·have e:My.bU (ts.map swp) F n=F:=by
      unfold My.bU;rw[if_neg hm]
     rw[e]at hnx
     exact kk _ _ ⟨_,F,rfl,rfl,hnx.symm,by omega⟩
 ·exact h.elim
theorem zb(T:Tx K mg t):aN P w K mg base CX0 2 t.a_zk t.d_zk ["self","name"] (fR t):=by
 refine okU (k:=1) T.F_zk pM (fun vs H Q E h=>by
  unfold fR at h
  split at h
  ·rfl
  ·exact h.elim) (fun cdv A outer s H E B hr=>⟨_,(af (aT (bu (qv 0) T.cl_Drawing T.m_zb (yD T) (hr.mono (by decide)) T.B_zb (aa (qv 1) ae)))
  (af (bx (i:=2) pM.nd rfl (by walk_at "o") (N2:=["bow","name"]) (nt:=1) (js:=[1]) (ck (sc:=ao rb)) rfl (aM (cg (qv 0) T.cl_Drawing T.nf_Drawing_bows rfl)) (fun s0 H0 fp ps=>⟨(av (i:=0) (show List.Nodup (["bow","name"]:List Str) by decide +kernel) rfl (by walk_at "o")),(bj (ax (bh hr.units) aX (aw (qv 0) ah (fun _ _=>rfl)) (qv 1) (aI _))),(aw (qv 0) ah (fun _ _=>rfl))⟩))
  (af (bx (i:=3) pM.nd rfl (by walk_at "o") (N2:=["bow","name"]) (nt:=1) (js:=[1]) (ck (sc:=ao rb)) rfl (aM (cg (qv 0) T.cl_Drawing T.nf_Drawing_bows rfl)) (fun s0 H0 fp ps=>⟨(av (i:=0) (show List.Nodup (["bow","name"]:List Str) by decide +kernel) rfl (by walk_at "o")),(bj (ax (bh hr.units) aX (aw (qv 0) ah (fun _ _=>rfl)) (qv 1) (aI _))),(aw (qv 0) ah (fun _ _=>rfl))⟩))
  (aq (aB (aP aL a9 rfl T.b_tuple boot_tuple (aa (cK (qv 2) (qv 3)) ae))))))),?_⟩)
 intro vs H Q E h
 unfold fR at h
 split at h
 ·rename_i x n
  obtain⟨dx,c,ts,bs,hx,⟨h0,h1⟩,h15,h⟩:=h
  have lf:∀(q:DM.P2->Bool) (g:DM.P2->Int),(((bs.filter q).map g).map PV.int).length≤15:=fun q g=>by
   rw[List.length_map,List.length_map];exact Nat.le_trans (List.length_filter_le _ _) h15
  walk_at "r"
  refine⟨⟨_,_,hx,rfl⟩,_,_,_,_,hx,⟨h0,h1⟩,_,_,_,hx,rfl,?_⟩
  show ∀acc,H acc=none->_
  intro p1 hp1
  refine aC g0 (at1 n) (fun σ=>∃z,σ=[z,some (.int n)]) (by rw[List.length_map];omega) (fun _=>trivial) ?_ ?_ ⟨_,rfl⟩
  ·rintro y hy l σ R ⟨z,rfl⟩ hl kT kF
   obtain⟨p,hp,rfl⟩:=List.mem_map.mp hy
   have e:at1 n (prV p)=decide (p.2=n):=rfl
   rw[e]at kT kF
   unfold prV at *
   walk_at "r"
   refine bA (fun q=>?_) (fun q=>?_)
   ·exact⟨hl,by rw[aG];exact kT (by simpa using q) _ ⟨_,rfl⟩⟩
   ·exact kF (by simpa using q) _ ⟨_,rfl⟩
  rw[src_list]
  refine⟨_,_,_,(ar (ay hx hp1)).trans hx,rfl,?_⟩
  show ∀acc,put H p1 _ acc=none->_
  intro p2 hp2
  have n12:p1≠p2:=fun e=>by subst e;rw[ak]at hp2;cases hp2
  have sa:=(Sub.refl H).put (o:=.lst (((bs.filter (fun p=>decide (p.2=n))).map (·.1)).map PV.int)) hp1
  refine aC g1 (at0 n) (fun σ=>∃z,σ=[z,some (.int n)]) (by rw[List.length_map];omega) (fun _=>trivial) ?_ ?_ ⟨_,rfl⟩
  ·rintro y hy l σ R ⟨z,rfl⟩ hl kT kF
   obtain⟨p,hp,rfl⟩:=List.mem_map.mp hy
   have e:at0 n (prV p)=decide (p.1=n):=rfl
   rw[e]at kT kF
   unfold prV at *
   walk_at "r"
   refine bA (fun q=>?_) (fun q=>?_)
   ·exact⟨hl,by rw[aG];exact kT (by simpa using q) _ ⟨_,rfl⟩⟩
   ·exact kF (by simpa using q) _ ⟨_,rfl⟩
  rw[dS]
  have sb:=sa.put (o:=.lst (((bs.filter (fun p=>decide (p.1=n))).map (·.2)).map PV.int)) (sa.free hp2)
  refine⟨_,_,(ar n12).trans ak,ak,aj (by have a1:=lf (fun p=>decide (p.2=n)) (·.1);have a2:=lf (fun p=>decide (p.1=n)) (·.2);omega),fun p3 hp3=>?_⟩
  try walk_at "r"
  refine⟨H,sb.put (sb.free hp3),?_⟩
  rw[←List.map_append]
  exact h
 ·exact h.elim
theorem CB(T:Tx K mg t):aN P w K mg base CX0 3 t.a_zw t.d_zw ["self","count","ties","bows"] (fT t):=by
 refine okU (k:=2) T.F_zw jc (fun vs H Q E h=>by
  unfold fT at h
  split at h
  ·rfl
  ·exact h.elim) (fun cdv A outer s H E B hr=>⟨_,(af (aO (aU (bJ (ax fg fh (qv 1) ah (aI _)) (bK (ax gF gz (qv 1) (bW (v':=.int 6) rfl T.c_MOST_NAMES (fun _=>by simp[RP])) (aI _)))))
  bC
  aF)
  (af (bx (i:=4) jc.nd rfl (by walk_at "o") (N2:=["tie"]) (nt:=1) (js:=[]) (ck (sc:=ao l9)) rfl (aM (qv 2)) (fun s0 H0 fp ps=>⟨(av (i:=0) (show List.Nodup (["tie"]:List Str) by decide +kernel) rfl (by walk_at "o")),bg,(aP aL a9 rfl T.b_tuple boot_tuple (aa (qv 0) ae))⟩))
  (af (aO (bz (aW (az (sj T) (hr.mono (by decide)) rfl T.g_zN T.F_zN.kp T.B_zN (aa (qv 1) (aa (qv 4) ae)))))
  bC
  aF)
  (af (bx (i:=5) jc.nd rfl (by walk_at "o") (N2:=["bow"]) (nt:=1) (js:=[]) (ck (sc:=ao l9)) rfl (aM (qv 3)) (fun s0 H0 fp ps=>⟨(av (i:=0) (show List.Nodup (["bow"]:List Str) by decide +kernel) rfl (by walk_at "o")),bg,(aP aL a9 rfl T.b_tuple boot_tuple (aa (qv 0) ae))⟩))
  (af (aO (bz (aW (az (sj T) (hr.mono (by decide)) rfl T.g_zN T.F_zN.kp T.B_zN (aa (qv 1) (aa (qv 5) ae)))))
  bC
  aF)
  (af (aO (ax gF gz (aA aD ba rfl T.b_len PySem.boot_len (aa (qv 5) ae)) (bW (v':=.int 6) rfl T.c_MOST_BOWS (fun _=>by simp[RP])) (aI _))
  bC
  aF)
  (af (fY (qv 0) (qv 1) T.cl_Drawing T.nf_Drawing_count rfl)
  (af (fY (qv 0) (aP aL a9 rfl T.b_tuple boot_tuple (aa (aA dz eP rfl T.b_sorted boot_sorted (aa (qv 4) ae)) ae)) T.cl_Drawing T.nf_Drawing_ties rfl)
  (aq (fY (qv 0) (aP aL a9 rfl T.b_tuple boot_tuple (aa (aA dz eP rfl T.b_sorted boot_sorted (aa (qv 5) ae)) ae)) T.cl_Drawing T.nf_Drawing_bows rfl)))))))))),?_⟩)
 intro vs H Q E h
 unfold fT at h
 split at h
 ·rename_i x c a l
  obtain⟨dx,ys,ps,qs,hx,ha,rfl,ry,gp,gq,⟨c1,c6,q6⟩,h⟩:=h
  have hp15:=gp.len c6
  have hq15:=gq.len c6
  refine ai fun R hR=>?_
  walk_at "r"
  refine au (by simp;omega) (au (by simp;omega) ?_)
  subst hR
  refine ai fun R hR=>?_
  walk_at "r"
  refine⟨_,ha,fun p1 hp1=>?_⟩
  refine aC (kX H) (fun _=>true) (fun σ=>∃z,σ=[z]) (by rw[ry.length];omega) (fun l=>(ar (ay ha hp1)).trans ha) ?_ ?_ ⟨_,rfl⟩
  ·rintro y hy l σ R' ⟨z,rfl⟩ hl kT kF
   obtain⟨p,hp,row⟩:=gk ry hy
   rcases row with rfl |⟨r,rfl,hr⟩
   ·unfold prV
    walk_at "r"
    exact⟨hl,by rw[aG];exact kT rfl _ ⟨_,rfl⟩⟩
   ·rw[de hr]at kT
    walk_at "r"
    exact⟨_,(ar (ay hr hp1)).trans hr,hl,by rw[aG];exact kT rfl _ ⟨_,rfl⟩⟩
  rw[List.filter_eq_self.mpr (fun _ _=>rfl),eY ry]
  subst hR
  have sb1:U.Sub H (put H p1 (.lst (ps.map prV))):=Sub.put (Sub.refl _) hp1
  refine ai fun R hR=>?_
  walk_at "r"
  refine⟨ps,rfl,gp,c6,?_⟩
  try walk_at "r"
  subst hR
  have hp1s:put H p1 (.lst (ps.map prV)) p1=some (.lst (ps.map prV)):=ak
  have hx1:=sb1 _ _ hx
  generalize put H p1 (.lst (ps.map prV))=H1 at *
  refine ai fun R hR=>?_
  walk_at "r"
  show ∀acc,H1 acc=none->_
  intro p2 hp2
  refine aC (fun y=>y) (fun _=>true) (fun σ=>∃z,σ=[z]) (by rw[List.length_map];omega) (fun l=>trivial) ?_ ?_ ⟨_,rfl⟩
  ·rintro y hy l σ R' ⟨z,rfl⟩ hl kT kF
   obtain⟨p,hp,rfl⟩:=List.mem_map.mp hy
   unfold prV
   walk_at "r"
   exact⟨hl,by rw[aG];exact kT rfl _ ⟨_,rfl⟩⟩
  rw[List.filter_eq_self.mpr (fun _ _=>rfl),List.map_id'' (fun _=>rfl)]
  subst hR
  have sb2:U.Sub H1 (put H1 p2 (.lst (qs.map prV))):=Sub.put (Sub.refl _) hp2
  have hp1t:=sb2 _ _ hp1s
  have hx2:=sb2 _ _ hx1
  have hp2s:put H1 p2 (.lst (qs.map prV)) p2=some (.lst (qs.map prV)):=ak
  refine ai fun R hR=>?_
  walk_at "r"
  refine⟨qs,rfl,gq,c6,?_⟩
  try walk_at "r"
  subst hR
  have sb3:=sb1.trans sb2
  generalize put H1 p2 (.lst (qs.map prV))=H2 at *
  refine ai fun R hR=>?_
  walk_at "r"
  refine⟨_,hp2s,au (by rw[List.length_map];simp;omega) ?_⟩
  subst hR
  refine ai fun R hR=>?_
  walk_at "r"
  refine⟨_,_,hx2,by simp,?_⟩
  subst hR
  have n1:p1≠x:=fun e=>by subst e;rw[hx2]at hp1t;cases hp1t
  have n2:p2≠x:=fun e=>by subst e;rw[hx2]at hp2s;cases hp2s
  refine ai fun R hR=>?_
  walk_at "r"
  refine⟨ps,(ar n1).trans hp1t,gp.nd,fun p hp=>?_,by omega,fun r1 ts hr1 pt st=>?_⟩
  ·have:=gp.lo p hp;omega
  try walk_at "r"
  have nx1:x≠r1:=fun e=>by subst e;rw[ak]at hr1;cases hr1
  refine⟨_,_,(ar nx1).trans ak,Nat.lt_of_le_of_lt dQ (by decide),?_⟩
  subst hR
  have n3:p2≠r1:=fun e=>by subst e;rw[ar n2,hp2s]at hr1;cases hr1
  walk_at "r"
  refine⟨qs,(ar n2).trans ((ar n3).trans ((ar n2).trans hp2s)),gq.nd,fun p hp=>?_,by omega,fun r2 bs hr2 pb sb=>?_⟩
  ·have:=gq.lo p hp;omega
  try walk_at "r"
  have nx2:x≠r2:=fun e=>by subst e;rw[ak]at hr2;cases hr2
  have ul:=fun f v fs=>@dQ f v fs
  refine⟨_,_,(ar nx2).trans ak,?_,put H x (.ins t.a_Drawing dx (DF c ts bs)),kB ?_ ak,h ts bs pt st pb sb⟩
  ·have l1:=ul "ties" (.tup (ts.map prV)) (h7 "count" (.int c) [])
   have l2:=ul "count" (.int c) []
   simp only[List.length_nil]at l2
   omega
  ·intro z o hzx hz
   have hz2:=sb3 _ _ hz
   have z1:z≠r1:=fun e=>by subst e;rw[ar hzx,hz2]at hr1;cases hr1
   have z2:z≠r2:=fun e=>by subst e;rw[ar hzx,ar z1,ar hzx,hz2]at hr2;cases hr2
   rw[ar hzx,ar z2,ar hzx,ar z1,ar hzx]
   exact hz2
 ·exact h.elim
theorem Bt(T:Tx K mg t):aN P w K mg base CX0 3 t.a_zM t.d_zM ["drawing","sets"] (cw t):=by
 refine okU (k:=2) T.F_zM vk (fun vs H Q E h=>by
  unfold cw at h
  split at h
  ·rfl
  ·rfl
  ·exact h.elim) (fun cdv A outer s H E B hr=>⟨_,(aq (bL PassesOwn.never rfl (aM (qv 1)) (av (i:=2) vk.nd rfl (by walk_at "o"))
  (aq (aT (bu (qv 0) T.cl_Drawing T.m_zd (uv T) (hr.mono (by decide)) T.B_zd (aa (qv 2) ae)))))),?_⟩)
 intro vs H Q E h
 unfold cw at h
 split at h
 ·rename_i x a
  obtain⟨c,ts,bs,Ls,⟨dx,hx⟩,ha,hL,h⟩:=h
  walk_at "r"
  refine⟨_,ha,?_⟩
  refine bN (fun i σ H2=>∃z,σ=[some (.ref x),some (.ref a),z]/\H2=H) ?_ ?_ ⟨none,rfl,rfl⟩
  ·rintro σ H2 ⟨z,rfl,rfl⟩
   exact⟨ha,H2,Sub.refl _,h⟩
  ·rintro G i y σ H2 hy ⟨z,rfl,rfl⟩ kk
   refine⟨ha,?_⟩
   obtain⟨M,hM,rfl⟩:=List.mem_map.mp (List.mem_of_getElem? hy)
   unfold tupI
   walk_at "r"
   exact⟨⟨_,_,hx,rfl⟩,c,ts,M,⟨_,_,hx⟩,rfl,hL M hM,kk _ _ ⟨_,rfl,rfl⟩⟩
 ·rename_i x l
  obtain⟨c,ts,bs,Ls,⟨dx,hx⟩,rfl,hL,h⟩:=h
  walk_at "r"
  refine bN (fun i σ H2=>∃z,σ=[some (.ref x),some (.tup (Ls.map tupI)),z]/\H2=H) ?_ ?_ ⟨none,rfl,rfl⟩
  ·rintro σ H2 ⟨z,rfl,rfl⟩
   exact⟨trivial,H2,Sub.refl _,h⟩
  ·rintro G i y σ H2 hy ⟨z,rfl,rfl⟩ kk
   refine⟨trivial,?_⟩
   obtain⟨M,hM,rfl⟩:=List.mem_map.mp (List.mem_of_getElem? hy)
   unfold tupI
   walk_at "r"
   exact⟨⟨_,_,hx,rfl⟩,c,ts,M,⟨_,_,hx⟩,rfl,hL M hM,kk _ _ ⟨_,rfl,rfl⟩⟩
 ·exact h.elim
theorem AO(T:Tx K mg t):aN P w K mg base CX0 1 t.a_zG t.d_zG ["sets"] cc:=by
 refine okU (k:=0) T.F_zG qj (fun vs H Q E h=>by
  unfold cc at h
  split at h
  ·rfl
  ·rfl
  ·exact h.elim) (fun cdv A outer s H E B hr=>⟨_,(af (aK (i:=1) qj.nd rfl (by walk_at "o") (bG ae))
  (af (bL PassesOwn.never rfl (aM (qv 0)) (av (i:=2) qj.nd rfl (by walk_at "o"))
  (aq (aT (cz PySem.F.slot_list_extend PySem.F.type_list_extend iw m8 (qv 1) (aa (qv 2) ae)))))
  (aq (aO (ax (bZ hr.units) aX (gC rfl rfl T.b_len rfl T.b_set boot_set (qv 1)) (aA aD ba rfl T.b_len PySem.boot_len (aa (qv 1) ae)) (aI _))
  bC
  aF)))),?_⟩)
 intro vs H Q E h
 unfold cc at h
 split at h
 ·rename_i a
  obtain⟨Ls,ha,hl,nd,h⟩:=h
  have f6:=My.bI 6 _ nd (fun x hx=>by obtain⟨L,hL,hx⟩:=List.mem_flatten.mp hx;exact hl L hL x hx)
  walk_at "r"
  refine⟨aj (by decide),fun p hp=>⟨_,(ar (ay ha hp)).trans ha,?_⟩⟩
  have nap:=ay ha hp
  have hpa:∀o,put H p o a=some (.lst (Ls.map tupI)):=fun o=>(ar nap).trans ha
  refine bN (fun i σ H2=>∃z,σ=[some (.ref a),some (.ref p),z]/\H2=put H p (.lst (((Ls.take i).flatten).map PV.int))) ?_ ?_ ⟨none,rfl,by simp⟩
  ·rintro σ H2 ⟨z,rfl,rfl⟩
   refine⟨hpa _,?_⟩
   rw[List.length_map,List.take_length]
   walk_at "r"
   have ng:∀y∈Ls.flatten,0≤y/\y<6:=fun x hx=>by obtain⟨L,hL,hx⟩:=List.mem_flatten.mp hx;exact hl L hL x hx
   refine⟨Ls.flatten.map Int.toNat,by rw[d8 ng],fun n hn=>?_,?_,?_⟩
   ·obtain⟨z,hz,rfl⟩:=List.mem_map.mp hn
    have:=ng z hz;omega
   ·rw[List.nodup_iff_pairwise_ne,List.pairwise_map]
    refine List.Pairwise.imp_of_mem (fun {x y} hx hy hxy=>?_) (List.nodup_iff_pairwise_ne.mp nd)
    have h1:=ng x hx
    have h2:=ng y hy
    omega
   ·exact au (by rw[List.length_map,List.length_map];simp) ⟨H,Sub.put (Sub.refl _) hp,h⟩
  ·rintro G i y σ H2 hy ⟨z,rfl,rfl⟩ kk
   refine⟨hpa _,?_⟩
   rw[List.getElem?_map]at hy
   obtain⟨M,hM,rfl⟩:=Option.map_eq_some_iff.mp hy
   have e:(Ls.take (i+1)).flatten=(Ls.take i).flatten++M:=by rw[List.take_succ,hM];simp
   have l1:((Ls.take (i+1)).flatten).length≤Ls.flatten.length:=by
    conv=>rhs;rw[←List.take_append_drop (i+1) Ls,List.flatten_append,List.length_append]
    omega
   rw[e,List.length_append]at l1
   unfold tupI
   walk_at "r"
   exact⟨⟨_,rfl⟩,aj (by rw[List.length_map,List.length_map];omega),kk _ _ ⟨_,rfl,by rw[aG,← List.map_append,e]⟩⟩
 ·rename_i l
  obtain⟨Ls,rfl,hl,nd,h⟩:=h
  have f6:=My.bI 6 _ nd (fun x hx=>by obtain⟨L,hL,hx⟩:=List.mem_flatten.mp hx;exact hl L hL x hx)
  walk_at "r"
  refine⟨aj (by decide),fun p hp=>?_⟩
  refine bN (fun i σ H2=>∃z,σ=[some (.tup (Ls.map tupI)),some (.ref p),z]/\H2=put H p (.lst (((Ls.take i).flatten).map PV.int))) ?_ ?_ ⟨none,rfl,by simp⟩
  ·rintro σ H2 ⟨z,rfl,rfl⟩
   refine⟨trivial,?_⟩
   rw[List.length_map,List.take_length]
   walk_at "r"
   have ng:∀y∈Ls.flatten,0≤y/\y<6:=fun x hx=>by obtain⟨L,hL,hx⟩:=List.mem_flatten.mp hx;exact hl L hL x hx
   refine⟨Ls.flatten.map Int.toNat,by rw[d8 ng],fun n hn=>?_,?_,?_⟩
   ·obtain⟨z,hz,rfl⟩:=List.mem_map.mp hn
    have:=ng z hz;omega
   ·rw[List.nodup_iff_pairwise_ne,List.pairwise_map]
    refine List.Pairwise.imp_of_mem (fun {x y} hx hy hxy=>?_) (List.nodup_iff_pairwise_ne.mp nd)
    have h1:=ng x hx
    have h2:=ng y hy
    omega
   ·exact au (by rw[List.length_map,List.length_map];simp) ⟨H,Sub.put (Sub.refl _) hp,h⟩
  ·rintro G i y σ H2 hy ⟨z,rfl,rfl⟩ kk
   refine⟨trivial,?_⟩
   rw[List.getElem?_map]at hy
   obtain⟨M,hM,rfl⟩:=Option.map_eq_some_iff.mp hy
   have e:(Ls.take (i+1)).flatten=(Ls.take i).flatten++M:=by rw[List.take_succ,hM];simp
   have l1:((Ls.take (i+1)).flatten).length≤Ls.flatten.length:=by
    conv=>rhs;rw[←List.take_append_drop (i+1) Ls,List.flatten_append,List.length_append]
    omega
   rw[e,List.length_append]at l1
   unfold tupI
   walk_at "r"
   exact⟨⟨_,rfl⟩,aj (by rw[List.length_map,List.length_map];omega),kk _ _ ⟨_,rfl,by rw[aG,← List.map_append,e]⟩⟩
 ·exact h.elim
theorem DN(T:Tx K mg t):aN P w K mg base CX0 1 t.a_zZ t.d_zZ ["names","others"] dE:=by
 refine okU (k:=0) T.F_zZ AJ (fun vs H Q E h=>by
  unfold dE at h
  split at h
  ·rfl
  ·exact h.elim) (fun cdv A outer s H E B hr=>⟨_,(aq (aB (aP aL a9 rfl T.b_tuple boot_tuple (aa (bf (N2:=["name","others"]) (nt:=1) (js:=[1]) (ck (sc:=ao uh)) rfl (aM (qv 0)) (fun s0 H0 fp ps=>⟨(av (i:=0) (show List.Nodup (["name","others"]:List Str) by decide +kernel) rfl (by walk_at "o")),(bj (ax (aQ hr.units) a0 (qv 0) (qv 1) (by with_unfolding_all rfl))),(qv 0)⟩)) ae)))),?_⟩)
 intro vs H Q E h
 unfold dE at h
 split at h
 ·rename_i l m
  obtain⟨A,B,rfl,rfl,hl,h⟩:=h
  walk_at "r"
  show ∀acc,H acc=none->_
  intro acc hacc
  refine aC (fun y=>y) (onI fun y=>!decide (y∈B)) (fun σ=>∃z,σ=[z,some (.tup (B.map PV.int))]) (by rw[List.length_map];exact hl) (fun _=>trivial) ?_ ?_ ⟨_,rfl⟩
  ·rintro y hy l σ R ⟨z,rfl⟩ hl kT kF
   obtain⟨k,hk,rfl⟩:=List.mem_map.mp hy
   have e:onI (fun y=>!decide (y∈B)) (PV.int k)=!decide (k∈B):=rfl
   rw[e]at kT kF
   walk_at "r"
   refine⟨aH,?_⟩
   simp only[aR]
   by_cases m:k∈B
   ·exact au (by simp[m]) (kF (by simp[m]) _ ⟨_,rfl⟩)
   ·exact aJ (by simp[m]) ⟨hl,by rw[aG];exact kT (by simp[m]) _ ⟨_,rfl⟩⟩
  rw[cY]
  exact⟨_,ak,H,Sub.put (Sub.refl _) hacc,h⟩
 ·exact h.elim
theorem Cd(T:Tx K mg t):aN P w K mg base CX0 1 t.a_zU t.d_zU ["names","others"] eI:=by
 refine okU (k:=0) T.F_zU Bh (fun vs H Q E h=>by
  unfold eI at h
  split at h
  ·rfl
  ·exact h.elim) (fun cdv A outer s H E B hr=>⟨_,(aq (aB (aP aL a9 rfl T.b_tuple boot_tuple (aa (dI rfl hr.units rfl T.b_sorted rfl T.b_set boot_set (gU (qv 0) (qv 1))) ae)))),?_⟩)
 intro vs H Q E h
 unfold eI at h
 split at h
 ·rename_i l m
  obtain⟨c,S,V,c6,rfl,rfl,hS,hV,h⟩:=h
  have s6:=hS.len c6
  have v6:=hV.len c6
  walk_at "r"
  have ng:∀y∈S++V,0≤y/\y<6:=fun y hy=>by
   rcases List.mem_append.mp hy with q | q
   ·have:=hS.lo y q;omega
   ·have:=hV.lo y q;omega
  have nc:∀y∈S++V,0≤y/\y<c:=fun y hy=>by
   rcases List.mem_append.mp hy with q | q
   ·exact hS.lo y q
   ·exact hV.lo y q
  refine⟨aj (by simp only[List.length_append,List.length_map];omega),(S++V).map Int.toNat,by rw[←List.map_append,d8 ng],fun n hn=>?_,fun r ks hr up iff=>?_⟩
  ·obtain⟨z,hz,rfl⟩:=List.mem_map.mp hn
   have:=ng z hz;omega
  have ek:ks.map dg=(ks.map fun n=>((n:Nat):Int)).map PV.int:=by rw[List.map_map];rfl
  rw[ek]
  refine⟨H,Sub.put (Sub.refl _) hr,h _ ⟨?_,fun x hx=>?_⟩ fun x=>?_⟩
  ·rw[List.pairwise_map]
   exact up.imp fun h=>by omega
  ·obtain⟨n,hn,rfl⟩:=List.mem_map.mp hx
   obtain⟨z,hz,e⟩:=List.mem_map.mp ((iff n).mp hn)
   have:=nc z hz
   omega
  ·rw[←List.mem_append]
   constructor
   ·intro hx
    obtain⟨n,hn,rfl⟩:=List.mem_map.mp hx
    obtain⟨z,hz,e⟩:=List.mem_map.mp ((iff n).mp hn)
    have:=ng z hz
    have e2:((n:Nat):Int)=z:=by omega
    rw[e2];exact hz
   ·intro hx
    have:=ng x hx
    exact List.mem_map.mpr ⟨x.toNat,(iff _).mpr (List.mem_map.mpr ⟨x,hx,rfl⟩),by omega⟩
 ·exact h.elim
theorem Bx(T:Tx K mg t):aN P w K mg base CX0 5 t.a_zi t.d_zi ["self","names"] (eK t 1):=by
 refine okU (k:=4) T.F_zi qF (fun vs H Q E h=>by
  unfold eK at h
  split at h
  ·rfl
  ·exact h.elim) (fun cdv A outer s H E B hr=>⟨_,(af (aT (bu (qv 0) T.cl_Drawing T.m_zd (uv T) (hr.mono (by decide)) T.B_zd (aa (qv 1) ae)))
  (af (bx (i:=2) qF.nd rfl (by walk_at "o") (N2:=["tie","names"]) (nt:=1) (js:=[1]) (ck (sc:=ao p8)) rfl (aM (cg (qv 0) T.cl_Drawing T.nf_Drawing_ties rfl)) (fun s0 H0 fp ps=>⟨(av (i:=0) (show List.Nodup (["tie","names"]:List Str) by decide +kernel) rfl (by walk_at "o")),(bj (ax (aQ hr.units) a0 (aw (qv 0) ah (fun _ _=>rfl)) (qv 1) (by with_unfolding_all rfl))),(qv 0)⟩))
  (af (bx (i:=3) qF.nd rfl (by walk_at "o") (N2:=["bow","names"]) (nt:=1) (js:=[1]) (ck (sc:=ao p8)) rfl (aM (cg (qv 0) T.cl_Drawing T.nf_Drawing_bows rfl)) (fun s0 H0 fp ps=>⟨(av (i:=0) (show List.Nodup (["bow","names"]:List Str) by decide +kernel) rfl (by walk_at "o")),(bj (aU (c8 (ax (aQ hr.units) a0 (aw (qv 0) ah (fun _ _=>rfl)) (qv 1) (by with_unfolding_all rfl)) (cu (ax (aQ hr.units) a0 (aw (qv 0) ah (fun _ _=>rfl)) (qv 1) (by with_unfolding_all rfl)))))),(qv 0)⟩))
  (aq (aB (jE T.mk_Drawing (Aq T) (hr.mono (by decide)) rfl T.g_Drawing T.B_zw (aa (cg (qv 0) T.cl_Drawing T.nf_Drawing_count rfl) (aa (qv 2) (aa (qv 3) ae))))))))),?_⟩)
 intro vs H Q E h
 unfold eK at h
 split at h
 ·rename_i x l
  obtain⟨c,ts,bs,L,⟨dx,hx⟩,rfl,ok,nL,hY⟩:=h
  have t15:=ok.gt.len ok.c6
  have b6:=ok.b6
  have ok2:=ok.filter (FT 1 L) (FB 1 L)
  refine ai fun R hR=>?_
  walk_at "r"
  refine⟨⟨_,_,hx,rfl⟩,c,ts,L,⟨_,_,hx⟩,rfl,nL,?_⟩
  subst hR
  refine ai fun R hR=>?_
  walk_at "r"
  refine⟨_,_,_,hx,rfl,?_⟩
  show ∀acc,H acc=none->_
  intro p1 hp1
  refine aC (fun y=>y) (onP (FT 1 L)) (fun σ=>∃z,σ=[z,some (.tup (L.map PV.int))]) (by rw[List.length_map];omega) (fun _=>trivial) ?_ ?_ ⟨_,rfl⟩
  ·rintro y hy l σ R' ⟨z,rfl⟩ hl kT kF
   obtain⟨p,hp,rfl⟩:=List.mem_map.mp hy
   rw[cZ]at kT kF
   unfold prV at *
   walk_at "r"
   refine⟨aH,?_⟩
   simp only[aR]
   by_cases m:p.2∈L
   ·exact au (by simp[m]) (kF (by simp[FT,m]) _ ⟨_,rfl⟩)
   ·exact aJ (by simp[m]) ⟨hl,by rw[aG];exact kT (by simp[FT,m]) _ ⟨_,rfl⟩⟩
  rw[bR]
  subst hR
  have s1:U.Sub H (put H p1 (.lst ((ts.filter (FT 1 L)).map prV))):=(Sub.refl H).put hp1
  have i1:put H p1 (.lst ((ts.filter (FT 1 L)).map prV)) p1=some (.lst ((ts.filter (FT 1 L)).map prV)):=ak
  generalize put H p1 (.lst ((ts.filter (FT 1 L)).map prV))=H1 at *
  have hx1:=s1 _ _ hx
  refine ai fun R hR=>?_
  walk_at "r"
  refine⟨_,_,_,hx1,rfl,?_⟩
  show ∀acc,H1 acc=none->_
  intro p2 hp2
  refine aC (fun y=>y) (onP (FB 1 L)) (fun σ=>∃z,σ=[z,some (.tup (L.map PV.int))]) (by rw[List.length_map];omega) (fun _=>trivial) ?_ ?_ ⟨_,rfl⟩
  ·rintro y hy l σ R' ⟨z,rfl⟩ hl kT kF
   obtain⟨p,hp,rfl⟩:=List.mem_map.mp hy
   rw[cZ]at kT kF
   unfold prV at *
   walk_at "r"
   refine⟨aH,?_⟩
   simp only[aR]
   by_cases m1:p.1∈L
   ·exact au (by simp[m1]) (kF (by simp[FB,m1]) _ ⟨_,rfl⟩)
   ·refine aJ (by simp[m1]) ⟨aH,?_⟩
    by_cases m2:p.2∈L
    ·exact au (by simp[m2]) (kF (by simp[FB,m1,m2]) _ ⟨_,rfl⟩)
    ·exact aJ (by simp[m2]) ⟨hl,by rw[aG];exact kT (by simp[FB,m1,m2]) _ ⟨_,rfl⟩⟩
  rw[bR]
  subst hR
  have s2:U.Sub H1 (put H1 p2 (.lst ((bs.filter (FB 1 L)).map prV))):=(Sub.refl H1).put hp2
  have i2:put H1 p2 (.lst ((bs.filter (FB 1 L)).map prV)) p2=some (.lst ((bs.filter (FB 1 L)).map prV)):=ak
  generalize put H1 p2 (.lst ((bs.filter (FB 1 L)).map prV))=H2 at *
  have hx2:=s2 _ _ hx1
  have j1:=s2 _ _ i1
  have s12:=s1.trans s2
  walk_at "r"
  refine⟨_,_,_,hx2,rfl,?_⟩
  show ∀y dy,H2 y=none->H2 dy=none->dy≠y->_
  intro y dy hy hdy nd
  have sc:=(Sub.refl H2).put (o:=.ins t.a_Drawing dy []) hy
  refine⟨dy,_,_,_,_,ak,sc _ _ j1,sc _ _ i2,df,df,ok2.gt,ok2.gb,⟨ok.c1,ok.c6,ok2.b6⟩,fun T1 B1 pT sT pB sB=>?_⟩
  have eT:=DM.eo (List.Perm.refl _) ok2.st pT sT
  have eB:=DM.eo (List.Perm.refl _) ok2.sb pB sB
  subst eT;subst eB
  rw[aG]
  exact⟨rfl,_,Sub.refl _,hY y _ (s12.put (s12.free hy)) ⟨dy,ak⟩⟩
 ·exact h.elim
theorem BO(T:Tx K mg t):aN P w K mg base CX0 5 t.a_zg t.d_zg ["self","names"] (eK t 2):=by
 refine okU (k:=4) T.F_zg vq (fun vs H Q E h=>by
  unfold eK at h
  split at h
  ·rfl
  ·exact h.elim) (fun cdv A outer s H E B hr=>⟨_,(af (aT (bu (qv 0) T.cl_Drawing T.m_zd (uv T) (hr.mono (by decide)) T.B_zd (aa (qv 1) ae)))
  (af (bx (i:=2) vq.nd rfl (by walk_at "o") (N2:=["tie","names"]) (nt:=1) (js:=[1]) (ck (sc:=ao sM)) rfl (aM (cg (qv 0) T.cl_Drawing T.nf_Drawing_ties rfl)) (fun s0 H0 fp ps=>⟨(av (i:=0) (show List.Nodup (["tie","names"]:List Str) by decide +kernel) rfl (by walk_at "o")),(bj (ax (aQ hr.units) a0 (aw (qv 0) ah (fun _ _=>rfl)) (qv 1) (by with_unfolding_all rfl))),(qv 0)⟩))
  (aq (aB (jE T.mk_Drawing (CB T) (hr.mono (by decide)) rfl T.g_Drawing T.B_zw (aa (cg (qv 0) T.cl_Drawing T.nf_Drawing_count rfl) (aa (qv 2) (aa (cg (qv 0) T.cl_Drawing T.nf_Drawing_bows rfl) ae)))))))),?_⟩)
 intro vs H Q E h
 unfold eK at h
 split at h
 ·rename_i x l
  obtain⟨c,ts,bs,L,⟨dx,hx⟩,rfl,ok,nL,hY⟩:=h
  have t15:=ok.gt.len ok.c6
  have b6:=ok.b6
  have ok2:=ok.filter (FT 2 L) (FB 2 L)
  refine ai fun R hR=>?_
  walk_at "r"
  refine⟨⟨_,_,hx,rfl⟩,c,ts,L,⟨_,_,hx⟩,rfl,nL,?_⟩
  subst hR
  refine ai fun R hR=>?_
  walk_at "r"
  refine⟨_,_,_,hx,rfl,?_⟩
  show ∀acc,H acc=none->_
  intro p1 hp1
  refine aC (fun y=>y) (onP (FT 2 L)) (fun σ=>∃z,σ=[z,some (.tup (L.map PV.int))]) (by rw[List.length_map];omega) (fun _=>trivial) ?_ ?_ ⟨_,rfl⟩
  ·rintro y hy l σ R' ⟨z,rfl⟩ hl kT kF
   obtain⟨p,hp,rfl⟩:=List.mem_map.mp hy
   rw[cZ]at kT kF
   unfold prV at *
   walk_at "r"
   refine⟨aH,?_⟩
   simp only[aR]
   by_cases m:p.1∈L
   ·exact au (by simp[m]) (kF (by simp[FT,m]) _ ⟨_,rfl⟩)
   ·exact aJ (by simp[m]) ⟨hl,by rw[aG];exact kT (by simp[FT,m]) _ ⟨_,rfl⟩⟩
  rw[bR]
  subst hR
  have s1:U.Sub H (put H p1 (.lst ((ts.filter (FT 2 L)).map prV))):=(Sub.refl H).put hp1
  have i1:put H p1 (.lst ((ts.filter (FT 2 L)).map prV)) p1=some (.lst ((ts.filter (FT 2 L)).map prV)):=ak
  generalize put H p1 (.lst ((ts.filter (FT 2 L)).map prV))=H1 at *
  have hx1:=s1 _ _ hx
  walk_at "r"
  refine⟨_,_,_,hx1,rfl,_,_,_,hx1,rfl,?_⟩
  show ∀y dy,H1 y=none->H1 dy=none->dy≠y->_
  intro y dy hy hdy nd
  have s12:=s1
  have sc:=(Sub.refl H1).put (o:=.ins t.a_Drawing dy []) hy
  refine⟨dy,_,_,_,ak,sc _ _ i1,rfl,df,ok2.gt,ok.gb,⟨ok.c1,ok.c6,ok.b6⟩,fun T1 B1 pT sT pB sB=>?_⟩
  have eT:=DM.eo (List.Perm.refl _) ok2.st pT sT
  have eB:=DM.eo (List.Perm.refl _) ok.sb pB sB
  subst eT;subst eB
  rw[fb2]at hY
  rw[aG]
  exact⟨rfl,_,Sub.refl _,hY y _ (s12.put (s12.free hy)) ⟨dy,ak⟩⟩
 ·exact h.elim
theorem CN(T:Tx K mg t):aN P w K mg base CX0 2 t.a_zS t.d_zS ["statement"] dw:=by
 refine okU (k:=1) T.F_zS zx (fun vs H Q E h=>by
  unfold dw at h
  split at h
  ·rfl
  ·exact h.elim) (fun cdv A outer s H E B hr=>⟨_,(aq (aB (az (Cd T) (hr.mono (by decide)) rfl T.g_zU T.F_zU.kp T.B_zU (aa (aw (qv 0) (bW (v':=.int 1) rfl T.c_SET (fun _=>by simp[RP])) (fun _ _=>rfl)) (aa (aw (qv 0) (bW (v':=.int 2) rfl T.c_SEEN (fun _=>by simp[RP])) (fun _ _=>rfl)) ae))))),?_⟩)
 intro vs H Q E h
 unfold dw at h
 split at h
 ·rename_i a l m
  obtain⟨c,S,V,c6,rfl,rfl,hS,hV,h⟩:=h
  walk_at "r"
  exact⟨c,S,V,c6,rfl,rfl,hS,hV,fun G hG iff=>⟨H,Sub.refl _,h G hG iff⟩⟩
 ·exact h.elim
theorem BW(T:Tx K mg t):aN P w K mg base CX0 6 t.a_zv t.d_zv ["drawing","number","statement","names"] (ff t):=by
 refine okU (k:=5) T.F_zv vJ (fun vs H Q E h=>by
  unfold ff at h
  split at h
  ·rfl
  ·exact h.elim) (fun cdv A outer s H E B hr=>⟨_,(af (aK (i:=4) vJ.nd rfl (by walk_at "o") (bu (qv 0) T.cl_Drawing T.m_zi (Bx T) (hr.mono (by decide)) T.B_zi (aa (aw (qv 2) (bW (v':=.int 1) rfl T.c_SET (fun _=>by simp[RP])) (fun _ _=>rfl)) ae)))
  (af (aO (ax (bh hr.units) aX (qv 1) ah (aI _))
  (aq (aB (qv 4)))
  aF)
  (af (aO (ax (bh hr.units) aX (qv 1) ah (aI _))
  (aq (aB (bu (qv 4) T.cl_Drawing T.m_zg (BO T) (hr.mono (by decide)) T.B_zg (aa (qv 3) ae))))
  aF)
  (aq (aB (bu (qv 4) T.cl_Drawing T.m_zi (Bx T) (hr.mono (by decide)) T.B_zi (aa (az (DN T) (hr.mono (by decide)) rfl T.g_zZ T.F_zZ.kp T.B_zZ (aa (qv 3) (aa (bu (qv 4) T.cl_Drawing T.m_zc (yj T) (hr.mono (by decide)) T.B_zc (aa (aw (qv 2) (bW (v':=.int 2) rfl T.c_SEEN (fun _=>by simp[RP])) (fun _ _=>rfl)) ae)) ae))) ae))))))),?_⟩)
 intro vs H Q E h
 unfold ff at h
 split at h
 ·rename_i x k a l m n
  obtain⟨c,ts,bs,S,V,N,dr,ok,rfl,rfl,rfl,hS,hV,hN,hk,h⟩:=h
  have ok1:=ok.filter (FT 1 S) (FB 1 S)
  refine ai fun R hR=>?_
  walk_at "r"
  obtain⟨dx0,hx0⟩:=dr
  refine⟨⟨_,_,hx0,rfl⟩,c,ts,bs,S,⟨_,hx0⟩,rfl,ok,hS,fun y H1 s1 d1=>?_⟩
  obtain⟨dx1,hx1⟩:=d1
  subst hR
  have hk:k=1∨k=2∨k=3:=by omega
  rcases hk with rfl | rfl | rfl
  ·refine ai fun R hR=>?_
   walk_at "r"
   exact aJ rfl ⟨H1,Sub.refl _,h y H1 _ _ s1 ⟨_,hx1⟩ ok1 rd1⟩
  ·refine ai fun R hR=>?_
   walk_at "r"
   refine au rfl ?_
   subst hR
   refine ai fun R hR=>?_
   walk_at "r"
   refine aJ rfl ⟨⟨_,_,hx1,rfl⟩,c,_,_,N,⟨_,hx1⟩,rfl,ok1,hN,fun y2 H2 s2 d2=>⟨H2,Sub.refl _,h y2 H2 _ _ (s1.trans s2) (by rw[fb2]at d2;exact d2) (by have:=ok1.filter (FT 2 N) (FB 2 N);rw[fb2]at this;exact this) rd2⟩⟩
  ·refine ai fun R hR=>?_
   walk_at "r"
   refine au rfl ?_
   subst hR
   refine ai fun R hR=>?_
   walk_at "r"
   refine au rfl ?_
   subst hR
   walk_at "r"
   have n6:=hN.len ok.c6
   refine⟨⟨_,_,hx1,rfl⟩,⟨_,_,hx1,rfl⟩,c,_,V,⟨_,_,hx1⟩,rfl,hV,⟨ok.c1,ok.c6⟩,ok1.gt,fun A up iff=>?_⟩
   have hI:Nms c (N.filter fun y=>!decide (y∈A)):=⟨hN.up.sublist List.filter_sublist,fun x hx=>hN.lo x (List.mem_filter.mp hx).1⟩
   refine⟨N,A,rfl,rfl,by omega,c,_,_,_,⟨_,hx1⟩,rfl,ok1,hI,fun y2 H2 s2 d2=>⟨H2,Sub.refl _,h y2 H2 _ _ (s1.trans s2) d2 (ok1.filter _ _) (rd3 ⟨up,iff⟩)⟩⟩
 ·exact h.elim
theorem C2(T:Tx K mg t):aN P w K mg base CX0 4 t.a_zu t.d_zu ["drawing","ones","others","given"] (dH t):=by
 refine okU (k:=3) T.F_zu zU (fun vs H Q E h=>by
  unfold dH at h
  split at h
  ·rfl
  ·exact h.elim) (fun cdv A outer s H E B hr=>⟨_,(af (aT (az (Bt T) (hr.mono (by decide)) rfl T.g_zM T.F_zM.kp T.B_zM (aa (qv 0) (aa (bG (aa (qv 1) (aa (qv 2) (aa (qv 3) ae)))) ae))))
  (af (aT (az (AO T) (hr.mono (by decide)) rfl T.g_zG T.F_zG.kp T.B_zG (aa (bG (aa (qv 1) (aa (qv 2) (aa (qv 3) ae)))) ae)))
  (aq (aO (aU (bJ (ax (bh hr.units) aX (aA aD ba rfl T.b_len PySem.boot_len (aa (qv 1) ae)) ah (aI _)) (bK (ax (bh hr.units) aX (aA aD ba rfl T.b_len PySem.boot_len (aa (qv 2) ae)) ah (aI _)))))
  bC
  aF)))),?_⟩)
 intro vs H Q E h
 unfold dH at h
 split at h
 ·rename_i x l m n
  obtain⟨c,ts,bs,A,B,G,dr,c6,rfl,rfl,rfl,ap,h⟩:=h
  refine ai fun R hR=>?_
  walk_at "r"
  refine⟨aj (by decide),fun p hp=>⟨c,ts,bs,[A,B,G],dr.up ((Sub.refl H).put hp),rfl,?_,?_⟩⟩
  ·intro L hL
   simp only[List.mem_cons,List.not_mem_nil,or_false]at hL
   rcases hL with rfl | rfl | rfl
   ·exact ap.a
   ·exact ap.b
   ·exact ap.g
  have s1:=(Sub.refl H).put (o:=.lst [PV.tup (A.map PV.int),.tup (B.map PV.int),.tup (G.map PV.int)]) hp
  generalize put H p (.lst [PV.tup (A.map PV.int),.tup (B.map PV.int),.tup (G.map PV.int)])=H1 at *
  subst hR
  refine ai fun R hR=>?_
  walk_at "r"
  refine⟨aj (by decide),fun p2 hp2=>⟨[A,B,G],rfl,?_,ap.nd,?_⟩⟩
  ·intro L hL x hx
   simp only[List.mem_cons,List.not_mem_nil,or_false]at hL
   rcases hL with rfl | rfl | rfl
   ·have:=ap.a.lo x hx;omega
   ·have:=ap.b.lo x hx;omega
   ·have:=ap.g.lo x hx;omega
  have s2:=s1.put (o:=.lst [PV.tup (A.map PV.int),.tup (B.map PV.int),.tup (G.map PV.int)]) (s1.free hp2)
  subst hR
  walk_at "r"
  have na:=ap.na
  have nb:=ap.nb
  exact au (by rw[List.length_map];simpa using na) (au (by rw[List.length_map];simpa using nb) ⟨H,s2,h⟩)
 ·exact h.elim
theorem Dm(T:Tx K mg t):aN P w K mg base CX0 1 t.a_zo t.d_zo ["step"] jO:=by
 refine okU (k:=0) T.F_zo zL (fun vs H Q E h=>by
  unfold jO at h
  split at h
  ·rfl
  ·exact h.elim) (fun cdv A outer s H E B hr=>⟨_,(aq (aB (b4 (bZ hr.units) aX (aw (qv 0) ah (fun _ _=>rfl)) c9 (aI _)))),?_⟩)
 intro vs H Q E h
 unfold jO at h
 split at h
 ·rename_i x k y
  walk_at "r"
  exact⟨H,Sub.refl _,h⟩
 ·exact h.elim
theorem C1(T:Tx K mg t):aN P w K mg base CX0 1 t.a_zj t.d_zj ["step"] jD:=by
 refine okU (k:=0) T.F_zj Bn (fun vs H Q E h=>by
  unfold jD at h
  split at h
  ·rfl
  ·exact h.elim) (fun cdv A outer s H E B hr=>⟨_,(aq (aB (b4 (bZ hr.units) aX (aw (qv 0) ah (fun _ _=>rfl)) c9 (aI _)))),?_⟩)
 intro vs H Q E h
 unfold jD at h
 split at h
 ·rename_i x k y
  walk_at "r"
  exact⟨H,Sub.refl _,h⟩
 ·exact h.elim
theorem Az(T:Tx K mg t):aN P w K mg base CX0 2 t.a_zH t.d_zH ["step","behind"] gR:=by
 refine okU (k:=1) T.F_zH zW (fun vs H Q E h=>by
  unfold gR at h
  split at h
  ·rfl
  ·exact h.elim) (fun cdv A outer s H E B hr=>⟨_,(aq (aB (gu (az (Dm T) (hr.mono (by decide)) rfl T.g_zo T.F_zo.kp T.B_zo (aa (qv 0) ae)) (gc (az (C1 T) (hr.mono (by decide)) rfl T.g_zj T.F_zj.kp T.B_zj (aa (qv 1) ae)))))),?_⟩)
 intro vs H Q E h
 unfold gR at h
 split at h
 ·rename_i a k b a' k' b'
  walk_at "r"
  unfold mtg at h
  refine bA (fun q=>⟨H,Sub.refl _,?_⟩) (fun q=>⟨H,Sub.refl _,?_⟩)
  ·simp only[q,Bool.true_and]at h;exact h
  ·simp only[q,Bool.false_and]at h;exact h
 ·exact h.elim
theorem C4(T:Tx K mg t):aN P w K mg base CX0 3 t.a_zQ t.d_zQ ["step","behind","given","above"] dY:=by
 refine okU (k:=2) T.F_zQ Bu (fun vs H Q E h=>by
  unfold dY at h
  split at h
  ·rfl
  ·exact h.elim) (fun cdv A outer s H E B hr=>⟨_,(af (aO (aW (az (Az T) (hr.mono (by decide)) rfl T.g_zH T.F_zH.kp T.B_zH (aa (qv 0) (aa (qv 1) ae))))
  (aq (aB (b4 (bS hr.units) a0 (aw (qv 0) ah (fun _ _=>rfl)) (qv 3) (by with_unfolding_all rfl))))
  aF)
  (aq (aB (b4 (aQ hr.units) a0 (aw (qv 0) ah (fun _ _=>rfl)) (qv 2) (by with_unfolding_all rfl))))),?_⟩)
 intro vs H Q E h
 unfold dY at h
 split at h
 ·rename_i a k b a' k' b' l m
  obtain⟨G,A,rfl,rfl,h⟩:=h
  unfold psd at h
  walk_at "r"
  refine bA (fun q=>?_) (fun q=>?_)
  ·rw[if_pos q]at h
   exact⟨aH,H,Sub.refl _,by rw[aR];exact h⟩
  ·rw[if_neg (by rw[q];decide)]at h
   exact⟨aH,H,Sub.refl _,by rw[aR];exact h⟩
 ·exact h.elim
theorem Bv(T:Tx K mg t):aN P w K mg base CX0 3 t.a_zI t.d_zI ["drawing","name"] (fq t):=by
 refine okU (k:=2) T.F_zI mS (fun vs H Q E h=>by
  unfold fq at h
  split at h
  ·rfl
  ·exact h.elim) (fun cdv A outer s H E B hr=>⟨_,(af (bx (i:=2) mS.nd rfl (by walk_at "o") (N2:=["other","name"]) (nt:=1) (js:=[1]) (ck (sc:=ao oK)) rfl (aM (bu (qv 0) T.cl_Drawing T.m_za (yF T) (hr.mono (by decide)) T.B_za (aa (qv 1) ae))) (fun s0 H0 fp ps=>⟨(av (i:=0) (show List.Nodup (["other","name"]:List Str) by decide +kernel) rfl (by walk_at "o")),bg,(aY (aa (qv 1) (aa c9 (aa (qv 0) ae))))⟩))
  (af (bx (i:=3) mS.nd rfl (by walk_at "o") (N2:=["other","name"]) (nt:=1) (js:=[1]) (ck (sc:=ao oK)) rfl (aM (bu (qv 0) T.cl_Drawing T.m_ze (yI T) (hr.mono (by decide)) T.B_ze (aa (qv 1) ae))) (fun s0 H0 fp ps=>⟨(av (i:=0) (show List.Nodup (["other","name"]:List Str) by decide +kernel) rfl (by walk_at "o")),bg,(aY (aa (qv 1) (aa c9 (aa (qv 0) ae))))⟩))
  (af (bx (i:=4) mS.nd rfl (by walk_at "o") (N2:=["other","name"]) (nt:=1) (js:=[1]) (ck (sc:=ao oK)) rfl (aM (bu (qv 0) T.cl_Drawing T.m_zk (zb T) (hr.mono (by decide)) T.B_zk (aa (qv 1) ae))) (fun s0 H0 fp ps=>⟨(av (i:=0) (show List.Nodup (["other","name"]:List Str) by decide +kernel) rfl (by walk_at "o")),bg,(aY (aa (qv 1) (aa c9 (aa (qv 0) ae))))⟩))
  (aq (aB (cK (cK (qv 2) (qv 3)) (qv 4))))))),?_⟩)
 intro vs H Q E h
 unfold fq at h
 split at h
 ·rename_i x n
  obtain⟨c,ts,bs,⟨dx,hx⟩,ok,hn,h⟩:=h
  have t15:=ok.gt.len ok.c6
  have b15:=ok.gb.len ok.c6
  have lf:=cv ok.gt ok.c6 n
  have lu:=cE ok.gt ok.c6 n
  have lb:=dt ok.gb ok.c6 n
  have s0:=Sub.refl H
  refine ai fun R hR=>?_
  walk_at "r"
  refine⟨⟨_,_,hx,rfl⟩,dx,c,ts,bs,hx,hn,t15,?_⟩
  show ∀acc,H acc=none->_
  intro p1 hp1
  refine aC (fun y=>PV.tup [.int n,.str "down",y]) (fun _=>true) (fun σ=>∃z,σ=[z,some (.int n)]) (by rw[List.length_map];exact Nat.le_trans (cv ok.gt ok.c6 n) (by decide)) (fun _=>trivial) ?_ ?_ ⟨_,rfl⟩
  ·rintro y hy l σ R' ⟨z,rfl⟩ hl kT kF
   obtain⟨k,hk,rfl⟩:=List.mem_map.mp hy
   walk_at "r"
   exact⟨aj (by decide),hl,by rw[aG];exact kT rfl _ ⟨_,rfl⟩⟩
  rw[mD]
  subst hR
  have s1:=s0.put (o:=.lst (((fol ts n).map fun m=>((n,"down",m):Sp3)).map stV)) (s0.free hp1)
  have e1:put H p1 (.lst (((fol ts n).map fun m=>((n,"down",m):Sp3)).map stV)) p1=some (.lst (((fol ts n).map fun m=>((n,"down",m):Sp3)).map stV)):=ak
  generalize put H p1 (.lst (((fol ts n).map fun m=>((n,"down",m):Sp3)).map stV))=H1 at *
  refine ai fun R hR=>?_
  walk_at "r"
  refine⟨⟨_,_,s1 _ _ hx,rfl⟩,dx,c,ts,bs,s1 _ _ hx,hn,t15,?_⟩
  show ∀acc,H1 acc=none->_
  intro p2 hp2
  refine aC (fun y=>PV.tup [.int n,.str "up",y]) (fun _=>true) (fun σ=>∃z,σ=[z,some (.int n)]) (by rw[List.length_map];exact Nat.le_trans (cE ok.gt ok.c6 n) (by decide)) (fun _=>trivial) ?_ ?_ ⟨_,rfl⟩
  ·rintro y hy l σ R' ⟨z,rfl⟩ hl kT kF
   obtain⟨k,hk,rfl⟩:=List.mem_map.mp hy
   walk_at "r"
   exact⟨aj (by decide),hl,by rw[aG];exact kT rfl _ ⟨_,rfl⟩⟩
  rw[mD]
  subst hR
  have s2:=s1.put (o:=.lst (((src ts n).map fun m=>((n,"up",m):Sp3)).map stV)) (s1.free hp2)
  have e2:put H1 p2 (.lst (((src ts n).map fun m=>((n,"up",m):Sp3)).map stV)) p2=some (.lst (((src ts n).map fun m=>((n,"up",m):Sp3)).map stV)):=ak
  have e1:put H1 p2 (.lst (((src ts n).map fun m=>((n,"up",m):Sp3)).map stV)) p1=some (.lst (((fol ts n).map fun m=>((n,"down",m):Sp3)).map stV)):=(ar (ay e1 hp2)).trans e1
  generalize put H1 p2 (.lst (((src ts n).map fun m=>((n,"up",m):Sp3)).map stV))=H2 at *
  refine ai fun R hR=>?_
  walk_at "r"
  refine⟨⟨_,_,s2 _ _ hx,rfl⟩,dx,c,ts,bs,s2 _ _ hx,hn,b15,?_⟩
  show ∀acc,H2 acc=none->_
  intro p3 hp3
  refine aC (fun y=>PV.tup [.int n,.str "bow",y]) (fun _=>true) (fun σ=>∃z,σ=[z,some (.int n)]) (by rw[List.length_map];exact Nat.le_trans (dt ok.gb ok.c6 n) (by decide)) (fun _=>trivial) ?_ ?_ ⟨_,rfl⟩
  ·rintro y hy l σ R' ⟨z,rfl⟩ hl kT kF
   obtain⟨k,hk,rfl⟩:=List.mem_map.mp hy
   walk_at "r"
   exact⟨aj (by decide),hl,by rw[aG];exact kT rfl _ ⟨_,rfl⟩⟩
  rw[mD]
  subst hR
  have s3:=s2.put (o:=.lst (((bwd bs n).map fun m=>((n,"bow",m):Sp3)).map stV)) (s2.free hp3)
  have e3:put H2 p3 (.lst (((bwd bs n).map fun m=>((n,"bow",m):Sp3)).map stV)) p3=some (.lst (((bwd bs n).map fun m=>((n,"bow",m):Sp3)).map stV)):=ak
  have e1:put H2 p3 (.lst (((bwd bs n).map fun m=>((n,"bow",m):Sp3)).map stV)) p1=some (.lst (((fol ts n).map fun m=>((n,"down",m):Sp3)).map stV)):=(ar (ay e1 hp3)).trans e1
  have e2:put H2 p3 (.lst (((bwd bs n).map fun m=>((n,"bow",m):Sp3)).map stV)) p2=some (.lst (((src ts n).map fun m=>((n,"up",m):Sp3)).map stV)):=(ar (ay e2 hp3)).trans e2
  generalize put H2 p3 (.lst (((bwd bs n).map fun m=>((n,"bow",m):Sp3)).map stV))=H3 at *
  walk_at "r"
  refine⟨_,_,e1,e2,aj (by simp only[List.length_map];omega),fun p4 hp4=>⟨_,_,rfl,(ar (ay e3 hp4)).trans e3,aj (by simp only[List.length_map,List.length_append];omega),fun p5 hp5=>?_⟩⟩
  have s4:=s3.put (o:=.lst ((((fol ts n).map fun m=>((n,"down",m):Sp3)).map stV)++(((src ts n).map fun m=>((n,"up",m):Sp3)).map stV))) (s3.free hp4)
  refine⟨_,Sub.refl _,h p5 _ (s4.free hp5) (s4.put (s4.free hp5)) ?_⟩
  rw[ak,stp,List.map_append,List.map_append]
 ·exact h.elim
theorem BH(T:Tx K mg t):aN P w K mg base CX0 1 t.a_zV t.d_zV ["road"] eS:=by
 refine okU (k:=0) T.F_zV y6 (fun vs H Q E h=>by
  unfold eS at h
  split at h
  ·rfl
  ·exact h.elim) (fun cdv A outer s H E B hr=>⟨_,(aq (aB (cK (bG (aa (aw (aw (qv 0) ah (fun _ _=>rfl)) ah (fun _ _=>rfl)) ae)) (bf (N2:=["step"]) (nt:=1) (js:=[]) (ck (sc:=ao uZ)) rfl (aM (qv 0)) (fun s0 H0 fp ps=>⟨(av (i:=0) (show List.Nodup (["step"]:List Str) by decide +kernel) rfl (by walk_at "o")),bg,(aw (qv 0) ah (fun _ _=>rfl))⟩))))),?_⟩)
 intro vs H Q E h
 unfold eS at h
 split at h
 ·rename_i a
  obtain⟨road,ha,ne,hl,h⟩:=h
  cases road with
  | nil=>exact absurd rfl ne
  | cons s0 r0 =>
  walk_at "r"
  refine⟨_,ha,?_⟩
  have e0:atI (stV s0::r0.map stV) 0=some (stV s0):=by
   have:=cP (l:=stV s0::r0.map stV) (i:=0) (by simp)
   exact this
  rw[List.map_cons,e0]
  unfold stV
  walk_at "r"
  refine⟨aj (by decide),fun p1 hp1=>?_⟩
  have e1:put H p1 (.lst [PV.int s0.1]) p1=some (.lst [PV.int s0.1]):=ak
  have a1:put H p1 (.lst [PV.int s0.1]) a=some (.lst ((s0::r0).map stV)):=(ar (ay ha hp1)).trans ha
  have s1:=(Sub.refl H).put (o:=.lst [PV.int s0.1]) hp1
  generalize put H p1 (.lst [PV.int s0.1])=H1 at *
  refine⟨_,a1,fun acc hacc=>?_⟩
  have na:=ay a1 hacc
  refine aC g32 (fun _=>true) (fun σ=>∃z,σ=[z]) (by rw[List.length_map];omega) (fun _=>(ar na).trans a1) ?_ ?_ ⟨_,rfl⟩
  ·rintro y hy l σ R' ⟨z,rfl⟩ hl' kT kF
   obtain⟨s,hs,rfl⟩:=List.mem_map.mp hy
   unfold stV at *
   walk_at "r"
   exact⟨hl',by rw[aG];exact kT rfl _ ⟨_,rfl⟩⟩
  rw[vH]
  walk_at "r"
  refine⟨_,_,(ar (ay e1 hacc)).trans e1,rfl,aj (by simp at hl ⊢;omega),fun p3 hp3=>⟨_,Sub.refl _,h p3 _ ?_ ?_ ?_⟩⟩
  ·exact(s1.put (s1.free hacc)).free hp3
  ·have s2:=s1.put (o:=.lst (((s0::r0).map (·.2.2)).map PV.int)) (s1.free hacc)
   exact s2.put (s2.free hp3)
  ·rw[ak];rfl
 ·exact h.elim
theorem CU(T:Tx K mg t):aN P w K mg base CX0 3 t.a_zW t.d_zW ["road"] fC:=by
 refine okU (k:=2) T.F_zW As (fun vs H Q E h=>by
  unfold fC at h
  split at h
  ·rfl
  ·exact h.elim) (fun cdv A outer s H E B hr=>⟨_,(aq (aB (kg (N2:=["step","behind"]) (nt:=2) (js:=[]) (ck (sc:=ao uz)) rfl (l0 rfl T.b_zip (aa (fc (qv 0) fN (dD (b7 ah))) (aa (fc (qv 0) (dD ah) fN) ae))) (fun s0 H0 fp ps=>⟨(cJ (n:=2) rfl (aS (av (i:=0) (show List.Nodup (["step","behind"]:List Str) by decide +kernel) rfl (by walk_at "o")) (aS (av (i:=1) (show List.Nodup (["step","behind"]:List Str) by decide +kernel) rfl (by walk_at "o")) bY))),(bj (aW (az (Az T) (hr.mono (by decide)) rfl T.g_zH T.F_zH.kp T.B_zH (aa (qv 0) (aa (qv 1) ae))))),(aw (qv 0) ah (fun _ _=>rfl))⟩)))),?_⟩)
 intro vs H Q E h
 unfold fC at h
 split at h
 ·rename_i a
  obtain⟨road,ha,hl,h⟩:=h
  walk_at "r"
  refine⟨_,ha,fun p1 hp1=>⟨_,(ar (ay ha hp1)).trans ha,fun p2 hp2=>?_⟩⟩
  rw[ka,kN]at *
  have s1:=(Sub.refl H).put (o:=.lst (road.dropLast.map stV)) hp1
  have s2:=s1.put (o:=.lst (road.tail.map stV)) (s1.free hp2)
  have n12:p1≠p2:=fun e=>by subst e;rw[ak]at hp2;cases hp2
  have e1:put (put H p1 (.lst (road.dropLast.map stV))) p2 (.lst (road.tail.map stV)) p1=some (.lst (road.dropLast.map stV)):=(ar n12).trans ak
  have e2:put (put H p1 (.lst (road.dropLast.map stV))) p2 (.lst (road.tail.map stV)) p2=some (.lst (road.tail.map stV)):=ak
  generalize put (put H p1 (.lst (road.dropLast.map stV))) p2 (.lst (road.tail.map stV))=H2 at *
  refine⟨_,_,e1,rfl,fun acc hacc=>?_⟩
  have f1:=ay e1 hacc
  have f2:=ay e2 hacc
  refine aC mtN mtF (fun σ=>∃z y,σ=[z,y]) (by rw[dO,List.length_map,List.length_map,List.length_dropLast];omega) (fun _=>⟨(ar f1).trans e1,(ar f2).trans e2⟩) ?_ ?_ ⟨_,_,rfl⟩
  ·rintro y hy l σ R' ⟨z,z2,rfl⟩ hl' kT kF
   obtain⟨u,hu,v,hv,rfl⟩:=va hy
   obtain⟨s,hs,rfl⟩:=List.mem_map.mp hu
   obtain⟨s',hs',rfl⟩:=List.mem_map.mp hv
   have e:mtF (.tup [stV s,stV s'])=mtg s s':=rfl
   rw[e]at kT kF
   unfold stV at *
   walk_at "r"
   exact bA (fun q=>⟨hl',by rw[aG];exact kT q _ ⟨_,_,rfl⟩⟩) (fun q=>kF q _ ⟨_,_,rfl⟩)
  rw[mM]
  exact⟨_,Sub.refl _,h acc _ (s2.free hacc) (s2.put (s2.free hacc)) ak⟩
 ·exact h.elim
theorem DE(T:Tx K mg t):aN P w K mg base CX0 3 t.a_zp t.d_zp ["drawing","standing","given","above"] (d9 t):=by
 refine okU (k:=2) T.F_zp m5 (fun vs H Q E h=>by
  unfold d9 at h
  split at h
  ·rfl
  ·exact h.elim) (fun cdv A outer s H E B hr=>⟨_,(af (aK (i:=4) m5.nd rfl (by walk_at "o") (aw (qv 1) ah (fun _ _=>rfl)))
  (af (aK (i:=5) m5.nd rfl (by walk_at "o") (aw (qv 1) ah (fun _ _=>rfl)))
  (af (aK (i:=6) m5.nd rfl (by walk_at "o") (bG ae))
  (af (aO (ax (aQ hr.units) a0 (qv 4) (qv 2) (by with_unfolding_all rfl))
  (aq (aT (cz PySem.F.slot_list_extend PySem.F.type_list_extend cH cI (qv 6) (aa (bf (N2:=["other"]) (nt:=1) (js:=[]) (ck (sc:=ao nY)) rfl (aM (bu (qv 0) T.cl_Drawing T.m_za (yF T) (hr.mono (by decide)) T.B_za (aa (qv 4) ae))) (fun s0 H0 fp ps=>⟨(av (i:=0) (show List.Nodup (["other"]:List Str) by decide +kernel) rfl (by walk_at "o")),bg,(aY (aa (qv 0) (aa bw ae)))⟩)) ae))))
  aF)
  (af (aO (aU (bJ (aU (c8 (aW (qv 5)) (cu (ax (bS hr.units) a0 (qv 4) (qv 3) (by with_unfolding_all rfl))))) (bK (aU (c8 (bz (aW (qv 5))) (cu (ax (aQ hr.units) a0 (qv 4) (qv 2) (by with_unfolding_all rfl))))))))
  (af (aT (cz PySem.F.slot_list_extend PySem.F.type_list_extend cH cI (qv 6) (aa (bf (N2:=["other"]) (nt:=1) (js:=[]) (ck (sc:=ao nY)) rfl (aM (bu (qv 0) T.cl_Drawing T.m_ze (yI T) (hr.mono (by decide)) T.B_ze (aa (qv 4) ae))) (fun s0 H0 fp ps=>⟨(av (i:=0) (show List.Nodup (["other"]:List Str) by decide +kernel) rfl (by walk_at "o")),bg,(aY (aa (qv 0) (aa bw ae)))⟩)) ae)))
   (aq (aT (cz PySem.F.slot_list_extend PySem.F.type_list_extend cH cI (qv 6) (aa (bf (N2:=["other"]) (nt:=1) (js:=[]) (ck (sc:=ao nY)) rfl (aM (bu (qv 0) T.cl_Drawing T.m_zk (zb T) (hr.mono (by decide)) T.B_zk (aa (qv 4) ae))) (fun s0 H0 fp ps=>⟨(av (i:=0) (show List.Nodup (["other"]:List Str) by decide +kernel) rfl (by walk_at "o")),bg,(aY (aa (qv 0) (aa bw ae)))⟩)) ae)))))
  aF)
  (aq (aB (qv 6)))))))),?_⟩)
 intro vs H Q E h
 unfold d9 at h
 split at h
 ·rename_i x n b l m
  obtain⟨c,ts,bs,G,A,⟨dx,hx⟩,ok,hn,rfl,rfl,h⟩:=h
  have t15:=ok.gt.len ok.c6
  have b15:=ok.gb.len ok.c6
  have lf:=cv ok.gt ok.c6 n
  have lu:=cE ok.gt ok.c6 n
  have lb:=dt ok.gb ok.c6 n
  refine ai fun R hR=>?_
  walk_at "r"
  subst hR
  refine ai fun R hR=>?_
  walk_at "r"
  subst hR
  refine ai fun R hR=>?_
  walk_at "r"
  refine⟨aj (by decide),fun p hp=>?_⟩
  have s0:=(Sub.refl H).put (o:=.lst []) hp
  have e0:put H p (.lst []) p=some (.lst (([]:List Sd).map sdV)):=ak
  generalize put H p (.lst [])=H0 at *
  subst hR
  refine ai fun R hR=>?_
  have key:∀(L1:List Sd) (H1:PHp),U.Sub H H1->H1 p=some (.lst (L1.map sdV))->L1=(if n∈G then []else(fol ts n).map fun m=>((m,true):Sd))->R { nx:=fun _ H=>∃H3,U.Sub H3 H/\Q .non H3,rt:=fun v H=>∃H3,U.Sub H3 H/\Q v H3 } [some (.ref x),some (.tup [.int n,.bl b]),some (.tup (G.map PV.int)),some (.tup (A.map PV.int)),some (.int n),some (.bl b),some (.ref p)] H1:=fun L1 H1 s1 e1 hL=>by
   have l1:L1.length≤6:=by rw[hL];split<;>simp<;>omega
   subst hR
   refine ai fun R hR=>?_
   have key2:∀(L2:List Sd) (H2:PHp),U.Sub H H2->H2 p=some (.lst ((L1++L2).map sdV))->L2=(if (b=true/\n∈A)∨(b=false/\n∉G)then(src ts n).map (fun m=>((m,false):Sd))++(bwd bs n).map (fun m=>((m,true):Sd))else [])->R { nx:=fun _ H=>∃H3,U.Sub H3 H/\Q .non H3,rt:=fun v H=>∃H3,U.Sub H3 H/\Q v H3 } [some (.ref x),some (.tup [.int n,.bl b]),some (.tup (G.map PV.int)),some (.tup (A.map PV.int)),some (.int n),some (.bl b),some (.ref p)] H2:=fun L2 H2 s2 e2 hL2=>by
    subst hR
    walk_at "r"
    refine⟨H2,Sub.refl _,h p H2 hp s2 ?_⟩
    rw[e2,hL,hL2];rfl
   walk_at "r"
   cases b with
   | true =>
    refine aJ rfl ⟨aH,?_⟩
    simp only[aR]
    by_cases ha:n∈A
    ·refine aJ (by simp[ha]) ?_
     have cd:((true:Bool)=true/\n∈A)∨((true:Bool)=false/\n∉G):=.inl ⟨rfl,ha⟩
     refine⟨⟨_,e1⟩,⟨_,_,s1 _ _ hx,rfl⟩,dx,c,ts,bs,s1 _ _ hx,hn,t15,?_⟩
     show ∀acc,H1 acc=none->_
     intro q1 hq1
     refine aC (fun y=>PV.tup [y,.bl false]) (fun _=>true) (fun σ=>∃z,σ=[z]) (by rw[List.length_map];exact Nat.le_trans (cE ok.gt ok.c6 n) (by decide)) (fun _=>trivial) ?_ ?_ ⟨_,rfl⟩
     ·rintro y hy l σ R' ⟨z,rfl⟩ hl kT kF
      obtain⟨k,hk,rfl⟩:=List.mem_map.mp hy
      walk_at "r"
      exact⟨aj (by decide),hl,by rw[aG];exact kT rfl _ ⟨_,rfl⟩⟩
     rw[eM]
     walk_at "r"
     refine⟨_,_,(ar (ay e1 hq1)).trans e1,rfl,aj (by simp only[List.length_map,List.length_append,List.length_nil];omega),?_⟩
     rw[←List.map_append]
     have s2:=(s1.put (o:=.lst (((src ts n).map fun m=>((m,false):Sd)).map sdV)) (s1.free hq1)).put (o:=.lst ((L1++(src ts n).map fun m=>((m,false):Sd)).map sdV)) hp
     have e2:put (put H1 q1 (.lst (((src ts n).map fun m=>((m,false):Sd)).map sdV))) p (.lst ((L1++(src ts n).map fun m=>((m,false):Sd)).map sdV)) p=some (.lst ((L1++(src ts n).map fun m=>((m,false):Sd)).map sdV)):=ak
     generalize put (put H1 q1 (.lst (((src ts n).map fun m=>((m,false):Sd)).map sdV))) p (.lst ((L1++(src ts n).map fun m=>((m,false):Sd)).map sdV))=H2 at *
     refine⟨⟨_,rfl⟩,⟨_,_,s2 _ _ hx,rfl⟩,dx,c,ts,bs,s2 _ _ hx,hn,b15,?_⟩
     show ∀acc,H2 acc=none->_
     intro q2 hq2
     refine aC (fun y=>PV.tup [y,.bl true]) (fun _=>true) (fun σ=>∃z,σ=[z]) (by rw[List.length_map];exact Nat.le_trans (dt ok.gb ok.c6 n) (by decide)) (fun _=>trivial) ?_ ?_ ⟨_,rfl⟩
     ·rintro y hy l σ R' ⟨z,rfl⟩ hl kT kF
      obtain⟨k,hk,rfl⟩:=List.mem_map.mp hy
      walk_at "r"
      exact⟨aj (by decide),hl,by rw[aG];exact kT rfl _ ⟨_,rfl⟩⟩
     rw[eM]
     walk_at "r"
     refine⟨_,_,(ar (ay e2 hq2)).trans e2,rfl,aj (by simp only[List.length_map,List.length_append,List.length_nil];omega),?_⟩
     rw[←List.map_append]
     have s3:=(s2.put (o:=.lst (((bwd bs n).map fun m=>((m,true):Sd)).map sdV)) (s2.free hq2)).put (o:=.lst (((L1++((src ts n).map fun m=>((m,false):Sd)))++(bwd bs n).map fun m=>((m,true):Sd)).map sdV)) hp
     have e3:put (put H2 q2 (.lst (((bwd bs n).map fun m=>((m,true):Sd)).map sdV))) p (.lst (((L1++((src ts n).map fun m=>((m,false):Sd)))++(bwd bs n).map fun m=>((m,true):Sd)).map sdV)) p=some (.lst (((L1++((src ts n).map fun m=>((m,false):Sd)))++(bwd bs n).map fun m=>((m,true):Sd)).map sdV)):=ak
     generalize put (put H2 q2 (.lst (((bwd bs n).map fun m=>((m,true):Sd)).map sdV))) p (.lst (((L1++((src ts n).map fun m=>((m,false):Sd)))++(bwd bs n).map fun m=>((m,true):Sd)).map sdV))=H3 at *
     exact key2 _ H3 s3 (by rw[e3,List.append_assoc]) (by rw[if_pos cd])
    ·exact au (by simp[ha]) (au rfl (key2 [] H1 s1 (by rw[List.append_nil];exact e1) (by rw[if_neg (by simp[ha])])))
   | false =>
    refine au rfl (aJ rfl ⟨aH,?_⟩)
    simp only[aR]
    by_cases ha:n∈G
    ·exact au (by simp[ha]) (key2 [] H1 s1 (by rw[List.append_nil];exact e1) (by rw[if_neg (by simp[ha])]))
    ·refine aJ (by simp[ha]) ?_
     have cd:((false:Bool)=true/\n∈A)∨((false:Bool)=false/\n∉G):=.inr ⟨rfl,ha⟩
     refine⟨⟨_,e1⟩,⟨_,_,s1 _ _ hx,rfl⟩,dx,c,ts,bs,s1 _ _ hx,hn,t15,?_⟩
     show ∀acc,H1 acc=none->_
     intro q1 hq1
     refine aC (fun y=>PV.tup [y,.bl false]) (fun _=>true) (fun σ=>∃z,σ=[z]) (by rw[List.length_map];exact Nat.le_trans (cE ok.gt ok.c6 n) (by decide)) (fun _=>trivial) ?_ ?_ ⟨_,rfl⟩
     ·rintro y hy l σ R' ⟨z,rfl⟩ hl kT kF
      obtain⟨k,hk,rfl⟩:=List.mem_map.mp hy
      walk_at "r"
      exact⟨aj (by decide),hl,by rw[aG];exact kT rfl _ ⟨_,rfl⟩⟩
     rw[eM]
     walk_at "r"
     refine⟨_,_,(ar (ay e1 hq1)).trans e1,rfl,aj (by simp only[List.length_map,List.length_append,List.length_nil];omega),?_⟩
     rw[←List.map_append]
     have s2:=(s1.put (o:=.lst (((src ts n).map fun m=>((m,false):Sd)).map sdV)) (s1.free hq1)).put (o:=.lst ((L1++(src ts n).map fun m=>((m,false):Sd)).map sdV)) hp
     have e2:put (put H1 q1 (.lst (((src ts n).map fun m=>((m,false):Sd)).map sdV))) p (.lst ((L1++(src ts n).map fun m=>((m,false):Sd)).map sdV)) p=some (.lst ((L1++(src ts n).map fun m=>((m,false):Sd)).map sdV)):=ak
     generalize put (put H1 q1 (.lst (((src ts n).map fun m=>((m,false):Sd)).map sdV))) p (.lst ((L1++(src ts n).map fun m=>((m,false):Sd)).map sdV))=H2 at *
     refine⟨⟨_,rfl⟩,⟨_,_,s2 _ _ hx,rfl⟩,dx,c,ts,bs,s2 _ _ hx,hn,b15,?_⟩
     show ∀acc,H2 acc=none->_
     intro q2 hq2
     refine aC (fun y=>PV.tup [y,.bl true]) (fun _=>true) (fun σ=>∃z,σ=[z]) (by rw[List.length_map];exact Nat.le_trans (dt ok.gb ok.c6 n) (by decide)) (fun _=>trivial) ?_ ?_ ⟨_,rfl⟩
     ·rintro y hy l σ R' ⟨z,rfl⟩ hl kT kF
      obtain⟨k,hk,rfl⟩:=List.mem_map.mp hy
      walk_at "r"
      exact⟨aj (by decide),hl,by rw[aG];exact kT rfl _ ⟨_,rfl⟩⟩
     rw[eM]
     walk_at "r"
     refine⟨_,_,(ar (ay e2 hq2)).trans e2,rfl,aj (by simp only[List.length_map,List.length_append,List.length_nil];omega),?_⟩
     rw[←List.map_append]
     have s3:=(s2.put (o:=.lst (((bwd bs n).map fun m=>((m,true):Sd)).map sdV)) (s2.free hq2)).put (o:=.lst (((L1++((src ts n).map fun m=>((m,false):Sd)))++(bwd bs n).map fun m=>((m,true):Sd)).map sdV)) hp
     have e3:put (put H2 q2 (.lst (((bwd bs n).map fun m=>((m,true):Sd)).map sdV))) p (.lst (((L1++((src ts n).map fun m=>((m,false):Sd)))++(bwd bs n).map fun m=>((m,true):Sd)).map sdV)) p=some (.lst (((L1++((src ts n).map fun m=>((m,false):Sd)))++(bwd bs n).map fun m=>((m,true):Sd)).map sdV)):=ak
     generalize put (put H2 q2 (.lst (((bwd bs n).map fun m=>((m,true):Sd)).map sdV))) p (.lst (((L1++((src ts n).map fun m=>((m,false):Sd)))++(bwd bs n).map fun m=>((m,true):Sd)).map sdV))=H3 at *
     exact key2 _ H3 s3 (by rw[e3,List.append_assoc]) (by rw[if_pos cd])
  walk_at "r"
  refine⟨aH,?_⟩
  simp only[aR]
  by_cases hg:n∈G
  ·exact au (by simp[hg]) (key [] H0 s0 e0 (by rw[if_pos hg]))
  refine aJ (by simp[hg]) ⟨⟨_,e0⟩,⟨_,_,s0 _ _ hx,rfl⟩,dx,c,ts,bs,s0 _ _ hx,hn,t15,?_⟩
  show ∀acc,H0 acc=none->_
  intro q hq
  refine aC (fun y=>PV.tup [y,.bl true]) (fun _=>true) (fun σ=>∃z,σ=[z]) (by rw[List.length_map];exact Nat.le_trans (cv ok.gt ok.c6 n) (by decide)) (fun _=>trivial) ?_ ?_ ⟨_,rfl⟩
  ·rintro y hy l σ R' ⟨z,rfl⟩ hl kT kF
   obtain⟨k,hk,rfl⟩:=List.mem_map.mp hy
   walk_at "r"
   exact⟨aj (by decide),hl,by rw[aG];exact kT rfl _ ⟨_,rfl⟩⟩
  rw[eM]
  walk_at "r"
  refine⟨_,_,(ar (ay e0 hq)).trans e0,rfl,aj (by simp only[List.length_map,List.length_append,List.length_nil];omega),?_⟩
  rw[←List.map_append]
  have s1:=(s0.put (o:=.lst (((fol ts n).map fun m=>((m,true):Sd)).map sdV)) (s0.free hq)).put (o:=.lst (([]++(fol ts n).map fun m=>((m,true):Sd)).map sdV)) hp
  have e1:put (put H0 q (.lst (((fol ts n).map fun m=>((m,true):Sd)).map sdV))) p (.lst (([]++(fol ts n).map fun m=>((m,true):Sd)).map sdV)) p=some (.lst (([]++(fol ts n).map fun m=>((m,true):Sd)).map sdV)):=ak
  generalize put (put H0 q (.lst (((fol ts n).map fun m=>((m,true):Sd)).map sdV))) p (.lst (([]++(fol ts n).map fun m=>((m,true):Sd)).map sdV))=H1 at *
  exact key _ _ s1 e1 (by rw[if_neg hg];rfl)
 ·exact h.elim
theorem BB(T:Tx K mg t):aN P w K mg base CX0 4 t.a_zE t.d_zE ["drawing","ones","given"] (fi t):=by
 refine okU (k:=3) T.F_zE kc (fun vs H Q E h=>by
  unfold fi at h
  split at h
  ·rfl
  ·exact h.elim) (fun cdv A outer s H E B hr=>⟨_,(af (aK (i:=3) kc.nd rfl (by walk_at "o") (bu (qv 0) T.cl_Drawing T.m_zc (yj T) (hr.mono (by decide)) T.B_zc (aa (qv 2) ae)))
  (af (bx (i:=4) kc.nd rfl (by walk_at "o") (N2:=["name"]) (nt:=1) (js:=[]) (ck (sc:=ao uO)) rfl (aM (qv 1)) (fun s0 H0 fp ps=>⟨(av (i:=0) (show List.Nodup (["name"]:List Str) by decide +kernel) rfl (by walk_at "o")),bg,(aY (aa (qv 0) (aa bw ae)))⟩))
  (af (aK (i:=5) kc.nd rfl (by walk_at "o") (bG ae))
  (af (eQ PassesOwn.never (ax gF gz (aA aD ba rfl T.b_len PySem.boot_len (aa (qv 4) ae)) ah (aI _))
  (af (aK (i:=6) kc.nd rfl (by walk_at "o") (ip PySem.F.slot_list_pop PySem.F.type_list_pop xZ yB wH (qv 4)))
   (aq (aO (ax (aQ hr.units) a0 (qv 6) (qv 5) (by with_unfolding_all rfl))
   (af (aT (cz PySem.F.slot_list_append PySem.F.type_list_append bT b8 (qv 5) (aa (qv 6) ae)))
    (aq (aT (cz PySem.F.slot_list_extend PySem.F.type_list_extend cH cI (qv 4) (aa (az (DE T) (hr.mono (by decide)) rfl T.g_zp T.F_zp.kp T.B_zp (aa (qv 0) (aa (qv 6) (aa (qv 2) (aa (qv 3) ae))))) ae)))))
   aF))))
  (aq (aB (qv 5))))))),?_⟩)
 intro vs H Q E h
 unfold fi at h
 split at h
 ·rename_i x l m
  obtain⟨c,ts,bs,O,G,⟨dx,hx⟩,ok,rfl,rfl,hO,hG,h⟩:=h
  have t15:=ok.gt.len ok.c6
  have b15:=ok.gb.len ok.c6
  have o6:=hO.len ok.c6
  refine ai fun R hR=>?_
  walk_at "r"
  refine⟨⟨_,_,hx,rfl⟩,c,ts,G,⟨_,_,hx⟩,rfl,hG,⟨ok.c1,ok.c6⟩,ok.gt,fun A up iff=>?_⟩
  have an:An ts G A:=⟨up,iff⟩
  subst hR
  refine ai fun R hR=>?_
  walk_at "r"
  show ∀acc,H acc=none->_
  intro w hw
  refine aC (fun y=>PV.tup [y,.bl false]) (fun _=>true) (fun σ=>∃z,σ=[z]) (by rw[List.length_map];omega) (fun _=>trivial) ?_ ?_ ⟨_,rfl⟩
  ·rintro y hy l σ R' ⟨z,rfl⟩ hl kT kF
   obtain⟨k,hk,rfl⟩:=List.mem_map.mp hy
   walk_at "r"
   exact⟨aj (by decide),hl,by rw[aG];exact kT rfl _ ⟨_,rfl⟩⟩
  rw[eM]
  subst hR
  refine ai fun R hR=>?_
  walk_at "r"
  refine⟨aj (by decide),fun q hq=>?_⟩
  have nwq:w≠q:=fun e=>by subst e;rw[ak]at hq;cases hq
  have s1:=(Sub.refl H).put (o:=.lst ((O.map fun m=>((m,false):Sd)).map sdV)) hw
  have hqH:=s1.free hq
  have s2:=s1.put (o:=.lst []) hqH
  have e1:put (put H w (.lst ((O.map fun m=>((m,false):Sd)).map sdV))) q (.lst []) w=some (.lst ((O.map fun m=>((m,false):Sd)).map sdV)):=(ar nwq).trans ak
  have e2:put (put H w (.lst ((O.map fun m=>((m,false):Sd)).map sdV))) q (.lst []) q=some (.lst (([]:List Sd).map sdV)):=ak
  generalize put (put H w (.lst ((O.map fun m=>((m,false):Sd)).map sdV))) q (.lst [])=H1 at *
  subst hR
  refine ai fun R hR=>?_
  refine d7 fun Rb hRb=>?_
  refine dM (fun m σ H2=>∃z,∃W L:List Sd,σ=[some (.ref x),some (.tup (O.map PV.int)),some (.tup (G.map PV.int)),some (.tup (A.map PV.int)),some (.ref w),some (.ref q),z]/\U.Sub H H2/\H2 w=some (.lst (W.map sdV))/\H2 q=some (.lst (L.map sdV))/\LI ts bs G A O W L/\W.length≤6+18*L.length/\m=(12 - L.length)*20+W.length) _ ⟨none,_,[],rfl,s2,e1,e2,⟨by simp,fun s hs=>(by cases hs),fun s hs=>?_,fun y hy=>.inr (List.mem_map.mpr ⟨y,hy,rfl⟩),fun s hs=>(by cases hs)⟩,by rw[List.length_map];simp;omega,rfl⟩ ?_
  ·obtain⟨y,hy,rfl⟩:=List.mem_map.mp hs
   exact .base hy
  rintro m σ H2 ⟨z,W,L,rfl,s2,e1,e2,li,lw,rfl⟩
  have l12:=iK ok.c6 li.nd fun s hs=>ig ok.gt ok.gb hO.lo (li.rl s hs)
  walk_at "r"
  refine⟨_,e1,?_⟩
  rcases List.eq_nil_or_concat W with rfl |⟨W',st,rfl⟩
  ·refine au (by simp) ?_
   subst hR
   walk_at "r"
   exact⟨H2,Sub.refl _,h q H2 A L hqH s2 an e2 li.nd li.iff⟩
  rw[List.concat_eq_append]at *
  refine aJ (by simp) (um fun N bk hN=>?_)
  have rst:=ig ok.gt ok.gb hO.lo (li.rw st (by simp))
  subst hRb
  refine ai fun R' hR'=>?_
  walk_at "r"
  have dl:((W'++[st]).map sdV).dropLast=W'.map sdV:=by simp
  refine⟨_,sdV st,e1,by simp,?_⟩
  rw[dl]
  have s3:=s2.put (o:=.lst (W'.map sdV)) hw
  have e3:put H2 w (.lst (W'.map sdV)) w=some (.lst (W'.map sdV)):=ak
  have e4:put H2 w (.lst (W'.map sdV)) q=some (.lst (L.map sdV)):=(ar nwq.symm).trans e2
  generalize put H2 w (.lst (W'.map sdV))=H3 at *
  subst hR'
  unfold sdV at *
  walk_at "r"
  refine⟨_,e4,?_⟩
  refine⟨gZ,?_⟩
  have ea:=jY (L:=L) (n:=st.1) (b:=st.2)
  unfold sdV at ea
  rw[ea]
  rw[List.length_append,List.length_singleton]at lw
  by_cases hm:(st.1,st.2)∈L
  ·refine au (by simp[hm]) (hN _ _ ⟨(12 - L.length)*20+W'.length,by rw[List.length_append,List.length_singleton];omega,_,W',L,rfl,s3,e3,e4,li.old hm,by omega,rfl⟩)
  refine aJ (by simp[hm]) ?_
  refine⟨⟨_,e4⟩,_,e4,bE (by rw[List.length_map];omega),?_⟩
  have s5:=s3.put (o:=.lst (L.map sdV++[sdV st])) hqH
  have e5:put H3 q (.lst (L.map sdV++[sdV st])) w=some (.lst (W'.map sdV)):=(ar nwq).trans e3
  have e6:put H3 q (.lst (L.map sdV++[sdV st])) q=some (.lst ((L++[st]).map sdV)):=by rw[ak,List.map_append];rfl
  unfold sdV at s5 e5 e6
  refine⟨⟨_,e5⟩,c,ts,bs,G,A,⟨dx,s5 _ _ hx⟩,ok,rst,rfl,rfl,fun r H4 _ s6 er=>?_⟩
  have e7:=s6 _ _ e5
  have bl:=uy ok.gt ok.gb ok.c6 (G:=G) (A:=A) st
  have bl2:(bes ts bs G A (st.1,st.2)).length≤18:=bl
  refine⟨_,_,e7,er,aj (by simp only[List.length_map];omega),?_⟩
  show N _ (put H4 w (.lst (List.map sdV W'++List.map sdV (bes ts bs G A st))))
  rw[←List.map_append]
  have li':=li.new hm
  refine hN _ _ ⟨(12 - (L++[st]).length)*20+(W'++bes ts bs G A st).length,?_,_,_,L++[st],rfl,(s5.trans s6).put hw,ak,(ar nwq.symm).trans (s6 _ _ e6),li',?_,rfl⟩
  ·have l13:=iK ok.c6 li'.nd fun s hs=>ig ok.gt ok.gb hO.lo (li'.rl s hs)
   rw[List.length_append,List.length_singleton]at l13 ⊢
   rw[List.length_append,List.length_append,List.length_singleton]
   omega
  ·rw[List.length_append,List.length_append,List.length_singleton];omega
 ·exact h.elim
theorem B9(T:Tx K mg t):aN P w K mg base CX0 4 t.a_zD t.d_zD ["drawing","names"] (eX t):=by
 refine okU (k:=3) T.F_zD qo (fun vs H Q E h=>by
  unfold eX at h
  split at h
  ·rfl
  ·exact h.elim) (fun cdv A outer s H E B hr=>⟨_,(af (aK (i:=2) qo.nd rfl (by walk_at "o") (bG ae))
  (af (bL PassesOwn.never rfl (aM (qv 1)) (av (i:=3) qo.nd rfl (by walk_at "o"))
  (aq (aT (cz PySem.F.slot_list_extend PySem.F.type_list_extend cH cI (qv 2) (aa (bf (N2:=["step"]) (nt:=1) (js:=[]) (ck (sc:=ao tX)) rfl (aM (az (Bv T) (hr.mono (by decide)) rfl T.g_zI T.F_zI.kp T.B_zI (aa (qv 0) (aa (qv 3) ae)))) (fun s0 H0 fp ps=>⟨(av (i:=0) (show List.Nodup (["step"]:List Str) by decide +kernel) rfl (by walk_at "o")),bg,(bG (aa (qv 0) ae))⟩)) ae)))))
  (aq (aB (qv 2))))),?_⟩)
 intro vs H Q E h
 unfold eX at h
 split at h
 ·rename_i x l
  obtain⟨c,ts,bs,O,⟨dx,hx⟩,ok,rfl,hO,h⟩:=h
  have o6:=hO.len ok.c6
  refine ai fun R hR=>?_
  walk_at "r"
  refine⟨aj (by decide),fun q hq=>?_⟩
  have s0:=(Sub.refl H).put (o:=.lst []) hq
  have e0:put H q (.lst []) q=some (.lst []):=ak
  generalize put H q (.lst [])=H0 at *
  subst hR
  refine ai fun R hR=>?_
  walk_at "r"
  refine bN (fun i σ H2=>∃z us,σ=[some (.ref x),some (.tup (O.map PV.int)),some (.ref q),z]/\U.Sub H H2/\H2 q=some (.lst us)/\aZ H2 q us (rdV (iF ts bs (O.take i)))/\Frs H us/\us.length≤18*i) ?_ ?_ ⟨none,[],rfl,s0,e0,by simp[iF,aZ,Paired.nil],Frs.nil,by simp⟩
  ·rintro σ H2 ⟨z,us,rfl,s2,e2,ls,fu,lu⟩
   refine⟨trivial,?_⟩
   rw[List.length_map,List.take_length]at ls
   subst hR
   walk_at "r"
   exact⟨H2,Sub.refl _,h q H2 us hq s2 e2 ls fu⟩
  ·rintro N i y σ H2 hy ⟨z,us,rfl,s2,e2,ls,fu,lu⟩ kk
   refine⟨trivial,?_⟩
   rw[List.getElem?_map]at hy
   obtain⟨n,hn,rfl⟩:=Option.map_eq_some_iff.mp hy
   have hi:i<O.length:=(List.getElem?_eq_some_iff.mp hn).1
   have hno:=hO.lo n (List.mem_of_getElem? hn)
   walk_at "r"
   refine⟨⟨_,e2⟩,c,ts,bs,⟨dx,s2 _ _ hx⟩,ok,hno,fun r H3 _ s3 er=>⟨_,er,?_⟩⟩
   show ∀acc,H3 acc=none->_
   intro acc hacc
   have sl:=gQ ok.gt ok.gb ok.c6 n
   have e3:=s3 _ _ e2
   have nqa:=ay e3 hacc
   have nra:=ay er hacc
   refine fQ (fun j σ H4=>∃z ws,σ=[z]/\U.Sub H3 H4/\H4 acc=some (.lst ws)/\aZ H4 acc ws (rdV (((stp ts bs n).take j).map fun s=>[s]))/\Frs H3 ws) ?_ ?_ ⟨none,[],rfl,(Sub.refl H3).put hacc,ak,by simp[aZ,Paired.nil],Frs.nil⟩
   ·rintro j v σ H4 R' hv ⟨z,ws,rfl,s4,e4,l4,f4⟩ k4
    rw[List.getElem?_map]at hv
    obtain⟨st,hst,rfl⟩:=Option.map_eq_some_iff.mp hv
    refine⟨s4 _ _ er,?_⟩
    walk_at "r"
    refine⟨aj (by decide),fun p hp=>?_⟩
    have np:=ay e4 hp
    have hl4:=l4.len
    have tl:(((stp ts bs n).take j)).length≤18:=by rw[List.length_take];omega
    simp only[rdV,List.length_map]at hl4
    refine⟨_,(ar np).trans e4,bE (by omega),?_⟩
    have l5:aZ (put H4 p (.lst [stV st])) acc ws (rdV (((stp ts bs n).take j).map fun s=>[s])):=l4.up ((Sub.refl H4).put hp)
    have l6:=(l5.snoc (r:=p) (l:=[stV st]) np.symm ak).put (o:=.lst (ws++[.ref p]))
    refine k4 _ _ ⟨_,_,rfl,(s4.put (s4.free hp)).put hacc,ak,?_,f4.app (Frs.one (s4.free hp))⟩
    ·have ej:(stp ts bs n).take (j+1)=(stp ts bs n).take j++[st]:=by rw[List.take_succ,hst];rfl
     rw[ej]
     simpa[rdV]using l6
   ·rintro σ H4 ⟨z,ws,rfl,s4,e4,l4,f4⟩
    refine⟨s4 _ _ er,?_⟩
    rw[List.length_map,List.take_length]at l4
    have e5:=s4 _ _ e3
    have hl4:=l4.len
    simp only[rdV,List.length_map]at hl4
    have hqa:q≠acc:=nqa
    walk_at "r"
    refine⟨_,_,e5,e4,aj (by omega),?_⟩
    refine kk _ _ ⟨_,us++ws,rfl,((s2.trans s3).trans s4).put hq,ak,?_,fu.app (Frs.mono (s2.trans s3) f4),by rw[List.length_append];omega⟩
    have ei:iF ts bs (O.take (i+1))=iF ts bs (O.take i)++(stp ts bs n).map fun s=>[s]:=by
     unfold iF;rw[List.take_succ,hn];simp
    rw[ei]
    unfold rdV
    rw[List.map_append]
    exact lI ((ls.up (s3.trans s4)).put) (aZ.put (aZ.fr e3 l4 f4))
 ·exact h.elim
theorem CH(T:Tx K mg t):aN P w K mg base CX0 4 t.a_zq t.d_zq ["drawing","roads","given"] (d4 t):=by
 refine okU (k:=3) T.F_zq jk (fun vs H Q E h=>by
  unfold d4 at h
  split at h
  ·rfl
  ·exact h.elim) (fun cdv A outer s H E B hr=>⟨_,(af (aK (i:=3) jk.nd rfl (by walk_at "o") (bu (qv 0) T.cl_Drawing T.m_zc (yj T) (hr.mono (by decide)) T.B_zc (aa (qv 2) ae)))
  (af (aK (i:=4) jk.nd rfl (by walk_at "o") (bG ae))
  (af (bL PassesOwn.never rfl (aM (qv 1)) (av (i:=5) jk.nd rfl (by walk_at "o"))
  (af (aK (i:=6) jk.nd rfl (by walk_at "o") (az (BH T) (hr.mono (by decide)) rfl T.g_zV T.F_zV.kp T.B_zV (aa (qv 5) ae)))
   (aq (bL PassesOwn.never rfl (aM (az (Bv T) (hr.mono (by decide)) rfl T.g_zI T.F_zI.kp T.B_zI (aa (qv 0) (aa (aw (qv 6) (b7 ah) (fun _ _=>rfl)) ae)))) (av (i:=7) jk.nd rfl (by walk_at "o"))
   (aq (aO (aU (c8 (ax (aQ hr.units) a0 (aw (qv 7) ah (fun _ _=>rfl)) (qv 6) (by with_unfolding_all rfl)) (cu (aW (az (C4 T) (hr.mono (by decide)) rfl T.g_zQ T.F_zQ.kp T.B_zQ (aa (aw (qv 5) (b7 ah) (fun _ _=>rfl)) (aa (qv 7) (aa (qv 2) (aa (qv 3) ae)))))))))
    (aq (aT (cz PySem.F.slot_list_append PySem.F.type_list_append bT b8 (qv 4) (aa (cK (qv 5) (bG (aa (qv 7) ae))) ae))))
    aF))))))
  (aq (aB (qv 4)))))),?_⟩)
 intro vs H Q E h
 unfold d4 at h
 split at h
 ·rename_i x a l
  obtain⟨c,ts,bs,G,us,rs,⟨dx,hx⟩,ok,rfl,hG,ha,lsts,big,hrs,h⟩:=h
  refine ai fun R hR=>?_
  walk_at "r"
  refine⟨⟨_,_,hx,rfl⟩,c,ts,G,⟨_,_,hx⟩,rfl,hG,⟨ok.c1,ok.c6⟩,ok.gt,fun A up iff=>?_⟩
  have an:An ts G A:=⟨up,iff⟩
  subst hR
  refine ai fun R hR=>?_
  walk_at "r"
  refine⟨aj (by decide),fun q hq=>?_⟩
  have s0:=(Sub.refl H).put (o:=.lst []) hq
  have e0:put H q (.lst []) q=some (.lst []):=ak
  generalize put H q (.lst [])=H0 at *
  subst hR
  refine ai fun R hR=>?_
  walk_at "r"
  refine⟨_,s0 _ _ ha,?_⟩
  have hlen:=lsts.len
  simp only[rdV,List.length_map]at hlen
  have nl:∀rs':List (List Sp3),(rs'.flatMap (gI ts bs G A)).length≤rs'.length*18:=fun rs'=>My.dh fun r _=>mV ok r
  refine bN (fun i σ H2=>∃z1 z2 z3 ws,σ=[some (.ref x),some (.ref a),some (.tup (G.map PV.int)),some (.tup (A.map PV.int)),some (.ref q),z1,z2,z3]/\U.Sub H H2/\H2 q=some (.lst ws)/\aZ H2 q ws (rdV ((rs.take i).flatMap (gI ts bs G A)))/\Frs H ws) ?_ ?_ ⟨none,none,none,[],rfl,s0,e0,by simp[aZ,Paired.nil],Frs.nil⟩
  ·rintro σ H2 ⟨z1,z2,z3,ws,rfl,s2,e2,ls,fw⟩
   refine⟨s2 _ _ ha,?_⟩
   rw[hlen,List.take_length]at ls
   subst hR
   walk_at "r"
   exact⟨H2,Sub.refl _,h q H2 ws A hq s2 an e2 ls fw⟩
  ·rintro N i y σ H2 hy ⟨z1,z2,z3,ws,rfl,s2,e2,ls,fw⟩ kk
   refine⟨s2 _ _ ha,?_⟩
   obtain⟨l,ra,hl,rfl,nra,hra⟩:=lsts.at hy
   have hl:(rs.map fun r=>r.map stV)[i]?=some l:=hl
   rw[List.getElem?_map]at hl
   obtain⟨r,hr,rfl⟩:=Option.map_eq_some_iff.mp hl
   have hi:i<rs.length:=(List.getElem?_eq_some_iff.mp hr).1
   obtain⟨r1,r2,r3⟩:=hrs r (List.mem_of_getElem? hr)
   refine ai fun R' hR'=>?_
   walk_at "r"
   refine⟨r,s2 _ _ hra,r1,r2,fun nr H3 hnr s3 en=>?_⟩
   subst hR'
   walk_at "r"
   refine⟨_,en,?_⟩
   rw[vv r1]
   walk_at "r"
   refine⟨c,ts,bs,⟨dx,s3 _ _ (s2 _ _ hx)⟩,ok,r3,fun sr H4 hsr s4 es=>⟨_,es,?_⟩⟩
   have sl:=gQ ok.gt ok.gb ok.c6 (lsS r).2.2
   have s24:=(s2.trans s3).trans s4
   have nqs:sr≠q:=(ay (s3 _ _ e2) hsr).symm
   have nqn:nr≠q:=(ay e2 hnr).symm
   refine bN (fun j σ H5=>∃z3 vs,σ=[some (.ref x),some (.ref a),some (.tup (G.map PV.int)),some (.tup (A.map PV.int)),some (.ref q),some (.ref ra),some (.ref nr),z3]/\U.Sub H H5/\H5 nr=some (.lst ((My.nm r).map PV.int))/\H5 sr=some (.lst ((stp ts bs (lsS r).2.2).map stV))/\H5 q=some (.lst vs)/\aZ H5 q vs (rdV ((rs.take i).flatMap (gI ts bs G A)++(((stp ts bs (lsS r).2.2).take j).filter fun s=>!decide (s.2.2∈My.nm r)&&psd G A (lsS r) s).map fun s=>r++[s]))/\Frs H vs) ?_ ?_ ⟨_,ws,rfl,s24,s4 _ _ en,es,(s3.trans s4) _ _ e2,by simpa using ls.up (s3.trans s4),fw⟩
   ·rintro σ H5 ⟨z3,vs,rfl,s5,en5,es5,eq5,l5,fv⟩
    refine⟨es5,kk _ _ ⟨_,_,_,vs,rfl,s5,eq5,?_,fv⟩⟩
    rw[List.length_map,List.take_length]at l5
    have ei:(rs.take (i+1)).flatMap (gI ts bs G A)=(rs.take i).flatMap (gI ts bs G A)++gI ts bs G A r:=by rw[List.take_succ,hr];simp
    rw[ei];exact l5
   ·rintro N' j v σ H5 hv ⟨z3,vs,rfl,s5,en5,es5,eq5,l5,fv⟩ kk'
    refine⟨es5,?_⟩
    rw[List.getElem?_map]at hv
    obtain⟨st,hst,rfl⟩:=Option.map_eq_some_iff.mp hv
    have hj:j<(stp ts bs (lsS r).2.2).length:=(List.getElem?_eq_some_iff.mp hst).1
    have ej:(stp ts bs (lsS r).2.2).take (j+1)=(stp ts bs (lsS r).2.2).take j++[st]:=by rw[List.take_succ,hst];rfl
    have no:(!decide (st.2.2∈My.nm r)&&psd G A (lsS r) st)=false->N' [some (.ref x),some (.ref a),some (.tup (G.map PV.int)),some (.tup (A.map PV.int)),some (.ref q),some (.ref ra),some (.ref nr),some (stV st)] H5:=fun z=>kk' _ _ ⟨_,vs,rfl,s5,en5,es5,eq5,by rw[ej,List.filter_append];simp only[List.filter_cons,z];simpa using l5,fv⟩
    have at1:=rM r1
    generalize lsS r=le at *
    unfold stV at *
    walk_at "r"
    refine⟨_,en5,aH,?_⟩
    rw[aR]
    by_cases hm:st.2.2∈My.nm r
    ·exact au (by simp[hm]) (no (by simp[hm]))
    refine aJ (by simp[hm]) ⟨_,s5 _ _ hra,?_⟩
    rw[at1]
    walk_at "r"
    refine⟨G,A,rfl,rfl,?_⟩
    refine bA (fun z=>?_) (fun z=>no (by simp[hm];exact z))
    have ra5:=s5 _ _ hra
    have hl5:=l5.len
    have i2:=nl (rs.take i)
    have f2:=List.length_filter_le (fun s=>!decide (s.2.2∈My.nm r)&&psd G A le s) ((stp ts bs le.2.2).take j)
    simp only[rdV,List.length_map,List.length_append]at hl5
    rw[List.length_take]at i2 f2
    refine⟨⟨_,eq5⟩,aj (by decide),fun p1 hp1=>⟨_,_,(ar (ay ra5 hp1)).trans ra5,rfl,aj (by simp only[List.length_map,List.length_singleton];omega),fun p2 hp2=>?_⟩⟩
    have sa:=(Sub.refl H5).put (o:=.lst [PV.tup [PV.int st.1,PV.str st.2.1,PV.int st.2.2]]) hp1
    have sb:=sa.put (o:=.lst (List.map (fun s=>PV.tup [PV.int s.1,PV.str s.2.1,PV.int s.2.2]) r++[PV.tup [PV.int st.1,PV.str st.2.1,PV.int st.2.2]])) (sa.free hp2)
    have hp2H:=sa.free hp2
    refine⟨_,sb _ _ eq5,by omega,kk' _ _ ⟨_,_,rfl,(s5.trans sb).put hq,(ar nqn).trans (sb _ _ en5),(ar nqs).trans (sb _ _ es5),ak,?_,fv.app (Frs.one (s5.free hp2H))⟩⟩
    have l6:=((l5.up sb).snoc (r:=p2) (ay eq5 hp2H).symm ak).put (o:=.lst (vs++[PV.ref p2]))
    rw[ej,List.filter_append]
    simp only[List.filter_cons,z,hm]
    simp[rdV,hm,z]at l6 ⊢
    exact l6
 ·exact h.elim
theorem DQ(T:Tx K mg t):aN P w K mg base CX0 5 t.a_zm t.d_zm ["drawing","ones","others","given"] (fJ t):=by
 refine okU (k:=4) T.F_zm ll (fun vs H Q E h=>by
  unfold fJ at h
  split at h
  ·rfl
  ·exact h.elim) (fun cdv A outer s H E B hr=>⟨_,(af (aK (i:=4) ll.nd rfl (by walk_at "o") (az (B9 T) (hr.mono (by decide)) rfl T.g_zD T.F_zD.kp T.B_zD (aa (qv 0) (aa (qv 1) ae))))
  (af (bx (i:=5) ll.nd rfl (by walk_at "o") (N2:=["road","others"]) (nt:=1) (js:=[2]) (ck (sc:=ao qB)) rfl (aM (qv 4)) (fun s0 H0 fp ps=>⟨(av (i:=0) (show List.Nodup (["road","others"]:List Str) by decide +kernel) rfl (by walk_at "o")),(bj (ax (bS hr.units) a0 (aw (aw (qv 0) (b7 ah) (fun _ _=>rfl)) ah (fun _ _=>rfl)) (qv 1) (by with_unfolding_all rfl))),(qv 0)⟩))
  (af (eQ PassesOwn.never (ax (bh hr.units) aX (aA aD ba rfl T.b_len PySem.boot_len (aa (qv 5) ae)) ah (aI _))
  (af (aK (i:=4) ll.nd rfl (by walk_at "o") (az (CH T) (hr.mono (by decide)) rfl T.g_zq T.F_zq.kp T.B_zq (aa (qv 0) (aa (qv 4) (aa (qv 3) ae)))))
   (aq (bx (i:=5) ll.nd rfl (by walk_at "o") (N2:=["road","others"]) (nt:=1) (js:=[2]) (ck (sc:=ao qB)) rfl (aM (qv 4)) (fun s0 H0 fp ps=>⟨(av (i:=0) (show List.Nodup (["road","others"]:List Str) by decide +kernel) rfl (by walk_at "o")),(bj (ax (bS hr.units) a0 (aw (aw (qv 0) (b7 ah) (fun _ _=>rfl)) ah (fun _ _=>rfl)) (qv 1) (by with_unfolding_all rfl))),(qv 0)⟩)))))
  (aq (aB (aw (qv 5) ah (fun _ _=>rfl))))))),?_⟩)
 intro vs H Q E h
 unfold fJ at h
 split at h
 ·rename_i x l m n
  obtain⟨c,ts,bs,O,B,G,A,⟨dx,hx⟩,ok,rfl,rfl,rfl,hO,hG,an,⟨tg,ht,hb⟩,h⟩:=h
  have o6:=hO.len ok.c6
  have t5:=ht.len ok
  refine ai fun R hR=>?_
  walk_at "r"
  refine⟨c,ts,bs,O,⟨dx,hx⟩,ok,rfl,hO,fun q H1 us hq s1 e1 l1 f1=>?_⟩
  subst hR
  refine ai fun R hR=>?_
  have scan:∀(q:Addr) (H1:PHp) (us:List PV) (k:Nat) (rs:List (List Sp3)) (K:VK'),RdK ts bs G A O tg k rs->U.Sub H H1->H1 q=some (.lst us)->aZ H1 q us (rdV rs)->Frs H us ->
   (∀f H2,U.Sub H1 H2->H2 f=some (.lst (us.filter (iE H1 B)))->K (.ref f) H2)->∀σ1,σ1=[none,some (.tup (B.map PV.int))]->∀acc,H1 acc=none ->
   cn (fun H=>H q=some (.lst us)) (ju 0) (jj (uOp (uo fun b=>b) (uOp uIx (uOp uIx (k9 0) (uUn (fun x H Q=>bV x fun i=>Q (.int (-i)) H) (uC (PV.int 1)))) (uC (PV.int 2))) (k9 1))) (k9 0) acc K us σ1 (put H1 acc (.lst [])):=fun q H1 us k rs K rk s1 e1 l1 f1 kk σ1 hσ acc hacc=>by
   subst hσ
   have nq:=ay e1 hacc
   have hle:=l1.len
   simp only[rdV,List.length_map]at hle
   have h6:rs.length≤6*18 ^ 5:=Nat.le_trans rk.le (Nat.mul_le_mul_left _ (Nat.pow_le_pow_right (by decide) (by have:=rk.k1;omega)))
   refine j9 (fun y=>y) (iE H1 B) (fun σ=>∃z,σ=[z,some (.tup (B.map PV.int))]) (by rw[sizeLine_eq];omega) (fun _=>(ar nq).trans e1) ?_ ?_ ⟨_,rfl⟩
   ·rintro y hy l σ R' ⟨z,rfl⟩ hl kT kF
    obtain⟨l',r,hl',rfl,nr,hr⟩:=l1.mem hy
    obtain⟨road,hroad,rfl⟩:=List.mem_map.mp hl'
    have ne:=(rk.ok road hroad).ne
    rw[ie hr ne]at kT kF
    walk_at "r"
    refine⟨_,(ar (ay hr hacc)).trans hr,?_⟩
    rw[rM ne]
    unfold stV
    walk_at "r"
    refine⟨aH,?_⟩
    rw[aR]
    exact bA (fun q=>⟨hl,by rw[aG];exact kT q _ ⟨_,rfl⟩⟩) (fun q=>kF q _ ⟨_,rfl⟩)
   ·have em:((us.filter (iE H1 B)).map fun y=>y)=us.filter (iE H1 B):=List.map_id' _
    rw[em]
    exact kk acc _ ((Sub.refl H1).put hacc) ak
  have fnd:∀(q:Addr) (H1:PHp) (us:List PV) (k:Nat) (rs:List (List Sp3)),RdK ts bs G A O tg k rs->aZ H1 q us (rdV rs)->us.filter (iE H1 B)=[]->k<tg.length:=fun q H1 us k rs rk l1 hf=>by
   rcases Nat.lt_or_ge k tg.length with z | z
   ·exact z
   ·have hm:=rk.tg
    rw[List.take_of_length_le z]at hm
    obtain⟨r,h1,h2⟩:=l1.of (List.mem_map.mpr ⟨tg,hm,rfl⟩)
    rw[List.filter_eq_nil_iff]at hf
    exact absurd (by rw[ie h2 ht.ne];exact decide_eq_true hb) (hf _ h1)
  have fst:∀(q:Addr) (H1:PHp) (us:List PV) (k:Nat) (rs:List (List Sp3)) (v:PV) (fs:List PV),RdK ts bs G A O tg k rs->aZ H1 q us (rdV rs)->Frs H us->us.filter (iE H1 B)=v::fs->∃r road,v=.ref r/\H r=none/\H1 r=some (.lst (road.map stV))/\Opn ts bs G A O road/\(lsS road).2.2∈B:=fun q H1 us k rs v fs rk l1 f1 hf=>by
   have hv:v∈us.filter (iE H1 B):=by rw[hf];exact List.mem_cons_self
   obtain⟨hv1,hv2⟩:=List.mem_filter.mp hv
   obtain⟨l',r,hl',rfl,nr,hr⟩:=l1.mem hv1
   obtain⟨road,hroad,rfl⟩:=List.mem_map.mp hl'
   have op:=rk.ok road hroad
   rw[ie hr op.ne]at hv2
   exact⟨r,road,rfl,f1 _ hv1 r rfl,hr,op,of_decide_eq_true hv2⟩
  have rk1:=t8 ok hO ht
  walk_at "r"
  refine⟨_,e1,scan q H1 us 1 _ _ rk1 s1 e1 l1 f1 (fun f H2 s2 ef=>?_) _ rfl⟩
  subst hR
  refine ai fun R hR=>?_
  refine d7 fun Rb hRb=>?_
  refine dM (fun m σ H2=>∃q f us k rs Ha,σ=[some (.ref x),some (.tup (O.map PV.int)),some (.tup (B.map PV.int)),some (.tup (G.map PV.int)),some (.ref q),some (.ref f)]/\RdK ts bs G A O tg k rs/\U.Sub H Ha/\U.Sub Ha H2/\Ha q=some (.lst us)/\aZ Ha q us (rdV rs)/\Frs H us/\H2 f=some (.lst (us.filter (iE Ha B)))/\m=tg.length - k) _ ⟨q,f,us,1,_,H1,rfl,rk1,s1,s2,e1,l1,f1,ef,rfl⟩ ?_
  rintro m σ H2 ⟨q,f,us,k,rs,Ha,rfl,rk,s1,s2,e1,l1,f1,ef,rfl⟩
  walk_at "r"
  refine⟨_,ef,?_⟩
  cases hf:us.filter (iE Ha B)with
  | cons v fs =>
   rw[hf]at ef
   refine au (by simp;omega) ?_
   obtain⟨r,road,rfl,hr,er,op,hlb⟩:=fst q Ha us k rs v fs rk l1 f1 hf
   subst hR
   walk_at "r"
   refine⟨_,ef,?_⟩
   have e0:atI (PV.ref r::fs) 0=some (.ref r):=cP (l:=PV.ref r::fs) (i:=0) (by simp)
   rw[e0]
   exact⟨H2,Sub.refl _,h r H2 road hr (s1.trans s2) (s2 _ _ er) op hlb (op.len ok)⟩
  | nil =>
   have hk:=fnd q Ha us k rs rk l1 hf
   refine aJ (by simp) (um fun N bk hN=>?_)
   subst hRb
   refine ai fun R' hR'=>?_
   walk_at "r"
   have k4:k≤4:=by omega
   have h6:rs.length≤6*18 ^ 4:=Nat.le_trans rk.le (Nat.mul_le_mul_left _ (Nat.pow_le_pow_right (by decide) k4))
   refine⟨c,ts,bs,G,us,rs,⟨dx,s2 _ _ (s1 _ _ hx)⟩,ok,rfl,hG,s2 _ _ e1,l1.up s2,by rw[sizeLine_eq];omega,fun r hr=>?_,fun q2 H3 ws A2 hq2 s3 an2 e3 l3 f3=>?_⟩
   ·have op:=rk.ok r hr
    obtain⟨l,en⟩:=nG op.ne
    have:=op.len ok
    exact⟨op.ne,by omega,pw ok op.rd.ed _ (by rw[en];simp)⟩
   have eA:=an.one an2
   subst eA
   subst hR'
   have rk2:=pZ ok ht rk hk
   have s03:=(s1.trans s2).trans s3
   have f03:=Frs.mono (s1.trans s2) f3
   walk_at "r"
   refine⟨_,e3,scan q2 H3 ws _ _ _ rk2 s03 e3 l3 f03 (fun f2 H4 s4 ef2=>?_) _ rfl⟩
   exact hN _ _ ⟨tg.length - (k+1),by omega,q2,f2,ws,k+1,_,H3,rfl,rk2,s03,s4,e3,l3,f03,ef2,rfl⟩
 ·exact h.elim
theorem DB(T:Tx K mg t):aN P w K mg base CX0 3 t.a_zt t.d_zt ["drawing","meeting","given"] (j8 t):=by
 refine okU (k:=2) T.F_zt ij (fun vs H Q E h=>by
  unfold j8 at h
  split at h
  ·rfl
  ·exact h.elim) (fun cdv A outer s H E B hr=>⟨_,(af (aK (i:=3) ij.nd rfl (by walk_at "o") (bG (aa (bG (aa (qv 1) ae)) ae)))
  (af (bx (i:=4) ij.nd rfl (by walk_at "o") (N2:=["way","given"]) (nt:=1) (js:=[2]) (ck (sc:=ao oW)) rfl (aM (qv 3)) (fun s0 H0 fp ps=>⟨(av (i:=0) (show List.Nodup (["way","given"]:List Str) by decide +kernel) rfl (by walk_at "o")),(bj (ax (bS hr.units) a0 (aw (qv 0) (b7 ah) (fun _ _=>rfl)) (qv 1) (by with_unfolding_all rfl))),(qv 0)⟩))
  (af (eQ PassesOwn.never (ax (bh hr.units) aX (aA aD ba rfl T.b_len PySem.boot_len (aa (qv 4) ae)) ah (aI _))
  (af (aK (i:=5) ij.nd rfl (by walk_at "o") (bG ae))
   (af (bL PassesOwn.never rfl (aM (qv 3)) (av (i:=6) ij.nd rfl (by walk_at "o"))
   (aq (aT (cz PySem.F.slot_list_extend PySem.F.type_list_extend cH cI (qv 5) (aa (bf (N2:=["name","way"]) (nt:=1) (js:=[6]) (ck (sc:=ao oW)) rfl (aM (bu (qv 0) T.cl_Drawing T.m_za (yF T) (hr.mono (by decide)) T.B_za (aa (aw (qv 6) (b7 ah) (fun _ _=>rfl)) ae))) (fun s0 H0 fp ps=>⟨(av (i:=0) (show List.Nodup (["name","way"]:List Str) by decide +kernel) rfl (by walk_at "o")),bg,(cK (qv 1) (bG (aa (qv 0) ae)))⟩)) ae)))))
   (af (aK (i:=3) ij.nd rfl (by walk_at "o") (qv 5))
   (aq (bx (i:=4) ij.nd rfl (by walk_at "o") (N2:=["way","given"]) (nt:=1) (js:=[2]) (ck (sc:=ao oW)) rfl (aM (qv 3)) (fun s0 H0 fp ps=>⟨(av (i:=0) (show List.Nodup (["way","given"]:List Str) by decide +kernel) rfl (by walk_at "o")),(bj (ax (bS hr.units) a0 (aw (qv 0) (b7 ah) (fun _ _=>rfl)) (qv 1) (by with_unfolding_all rfl))),(qv 0)⟩)))))))
  (aq (aB (aw (qv 4) ah (fun _ _=>rfl))))))),?_⟩)
 intro vs H Q E h
 unfold j8 at h
 split at h
 ·rename_i x m l
  obtain⟨c,ts,bs,G,A,⟨dx,hx⟩,ok,rfl,hG,an,hm,h⟩:=h
  have t15:=ok.gt.len ok.c6
  obtain⟨tg,ht0,htc,hte⟩:=My.x5 ((an.iff m).mp hm)
  have t6:=nE ok hG htc hte
  have tne:tg≠[]:=fun e=>by rw[e]at ht0;cases ht0
  have tgG:lsI tg∈G:=by
   obtain⟨e,he,hg⟩:=hte
   rw[(jo tne).1]at he
   rw[Option.some.inj he];exact hg
  refine ai fun R hR=>?_
  walk_at "r"
  refine⟨aj (by decide),fun p1 hp1=>⟨aj (by decide),fun q hq=>?_⟩⟩
  have s0:=(Sub.refl H).put (o:=.lst [PV.int m]) hp1
  have e0:put H p1 (.lst [PV.int m]) p1=some (.lst (([m]:List Int).map PV.int)):=ak
  generalize put H p1 (.lst [PV.int m])=Hb at *
  have npq:=ay e0 hq
  have s1:=s0.put (o:=.lst [PV.ref p1]) (s0.free hq)
  have e1:put Hb q (.lst [PV.ref p1]) q=some (.lst [PV.ref p1]):=ak
  have l1:aZ (put Hb q (.lst [PV.ref p1])) q [PV.ref p1] (inV [[m]]):=.cons ⟨p1,rfl,npq,(ar npq).trans e0⟩ .nil
  have f1:Frs H [PV.ref p1]:=Frs.one hp1
  generalize put Hb q (.lst [PV.ref p1])=H1 at *
  have rk1:WyK ts G m tg 1 [[m]]:=by
   refine⟨fun w hw=>?_,⟨Nat.le_refl _,?_⟩,by simp,?_⟩
   ·rw[List.mem_singleton.mp hw];exact⟨rfl,trivial,fun x hx=>(by cases hx)⟩
   ·cases tg with
    | nil=>exact absurd rfl tne
    | cons _ _=>simp
   ·cases tg with
    | nil=>exact absurd rfl tne
    | cons a t =>
     have:a=m:=by simpa using ht0
     subst this;simp
  subst hR
  refine ai fun R hR=>?_
  have scan:∀(q:Addr) (H1:PHp) (us:List PV) (k:Nat) (ws:List (List Int)) (K:VK'),WyK ts G m tg k ws->U.Sub H H1->H1 q=some (.lst us)->aZ H1 q us (inV ws)->Frs H us ->
   (∀f H2,U.Sub H1 H2->H2 f=some (.lst (us.filter (iC H1 G)))->K (.ref f) H2)->∀σ1,σ1=[none,some (.tup (G.map PV.int))]->∀acc,H1 acc=none ->
   cn (fun H=>H q=some (.lst us)) (ju 0) (jj (uOp (uo fun b=>b) (uOp uIx (k9 0) (uUn (fun x H Q=>bV x fun i=>Q (.int (-i)) H) (uC (PV.int 1)))) (k9 1))) (k9 0) acc K us σ1 (put H1 acc (.lst [])):=fun q H1 us k ws K rk s1 e1 l1 f1 kk σ1 hσ acc hacc=>by
   subst hσ
   have nq:=ay e1 hacc
   have hle:=l1.len
   simp only[inV,List.length_map]at hle
   have h6:ws.length≤6 ^ 6:=Nat.le_trans rk.le (Nat.pow_le_pow_right (by decide) (by have:=rk.k1;omega))
   refine j9 (fun y=>y) (iC H1 G) (fun σ=>∃z,σ=[z,some (.tup (G.map PV.int))]) (by rw[sizeLine_eq];omega) (fun _=>(ar nq).trans e1) ?_ ?_ ⟨_,rfl⟩
   ·rintro y hy l σ R' ⟨z,rfl⟩ hl kT kF
    obtain⟨l',r,hl',rfl,nr,hr⟩:=l1.mem hy
    obtain⟨w,hw,rfl⟩:=List.mem_map.mp hl'
    have ne:=(rk.ok w hw).ne
    rw[iH hr ne]at kT kF
    walk_at "r"
    refine⟨_,(ar (ay hr hacc)).trans hr,?_⟩
    rw[mT ne]
    walk_at "r"
    refine⟨aH,?_⟩
    rw[aR]
    exact bA (fun q=>⟨hl,by rw[aG];exact kT q _ ⟨_,rfl⟩⟩) (fun q=>kF q _ ⟨_,rfl⟩)
   ·have em:((us.filter (iC H1 G)).map fun y=>y)=us.filter (iC H1 G):=List.map_id' _
    rw[em]
    exact kk acc _ ((Sub.refl H1).put hacc) ak
  have fnd:∀(q:Addr) (H1:PHp) (us:List PV) (k:Nat) (ws:List (List Int)),WyK ts G m tg k ws->aZ H1 q us (inV ws)->us.filter (iC H1 G)=[]->k<tg.length/\∀w∈ws,lsI w∉G:=fun q H1 us k ws rk l1 hf=>by
   rw[List.filter_eq_nil_iff]at hf
   have no:∀w∈ws,lsI w∉G:=fun w hw hg=>by
    obtain⟨r,h1,h2⟩:=l1.of (List.mem_map.mpr ⟨w,hw,rfl⟩)
    exact absurd (by rw[iH h2 (rk.ok w hw).ne];exact decide_eq_true hg) (hf _ h1)
   refine⟨?_,no⟩
   rcases Nat.lt_or_ge k tg.length with z | z
   ·exact z
   ·have hm:=rk.tg
    rw[List.take_of_length_le z]at hm
    exact absurd tgG (no _ hm)
  have fst:∀(q:Addr) (H1:PHp) (us:List PV) (k:Nat) (ws:List (List Int)) (v:PV) (fs:List PV),WyK ts G m tg k ws->aZ H1 q us (inV ws)->Frs H us->us.filter (iC H1 G)=v::fs->∃r,∃w:List Int,v=.ref r/\H r=none/\H1 r=some (.lst (w.map PV.int))/\Wy ts G m w:=fun q H1 us k ws v fs rk l1 f1 hf=>by
   have hv:v∈us.filter (iC H1 G):=by rw[hf];exact List.mem_cons_self
   obtain⟨hv1,hv2⟩:=List.mem_filter.mp hv
   obtain⟨l',r,hl',rfl,nr,hr⟩:=l1.mem hv1
   obtain⟨w,hw,rfl⟩:=List.mem_map.mp hl'
   have o:=rk.ok w hw
   rw[iH hr o.ne]at hv2
   exact⟨r,w,rfl,f1 _ hv1 r rfl,hr,o.hd,o.ch,o.lo,_,(jo o.ne).1,of_decide_eq_true hv2⟩
  walk_at "r"
  refine⟨_,e1,scan q H1 _ 1 _ _ rk1 s1 e1 l1 f1 (fun f H2 s2 ef=>?_) _ rfl⟩
  subst hR
  refine ai fun R hR=>?_
  refine d7 fun Rb hRb=>?_
  refine dM (fun n σ H2=>∃q f us k ws Ha z1 z2,σ=[some (.ref x),some (.int m),some (.tup (G.map PV.int)),some (.ref q),some (.ref f),z1,z2]/\WyK ts G m tg k ws/\U.Sub H Ha/\U.Sub Ha H2/\Ha q=some (.lst us)/\aZ Ha q us (inV ws)/\Frs H us/\H2 f=some (.lst (us.filter (iC Ha G)))/\n=tg.length - k) _ ⟨q,f,_,1,_,H1,none,none,rfl,rk1,s1,s2,e1,l1,f1,ef,rfl⟩ ?_
  rintro n σ H2 ⟨q,f,us,k,ws,Ha,z1,z2,rfl,rk,s1,s2,e1,l1,f1,ef,rfl⟩
  walk_at "r"
  refine⟨_,ef,?_⟩
  cases hf:us.filter (iC Ha G)with
  | cons v fs =>
   rw[hf]at ef
   refine au (by simp;omega) ?_
   obtain⟨r,w,rfl,hr,er,wy⟩:=fst q Ha us k ws v fs rk l1 f1 hf
   subst hR
   walk_at "r"
   refine⟨_,ef,?_⟩
   have e0:atI (PV.ref r::fs) 0=some (.ref r):=cP (l:=PV.ref r::fs) (i:=0) (by simp)
   rw[e0]
   exact⟨H2,Sub.refl _,h r H2 w hr (s1.trans s2) (s2 _ _ er) wy (nE ok hG wy.ch wy.la)⟩
  | nil =>
   obtain⟨hk,no⟩:=fnd q Ha us k ws rk l1 hf
   have rk2:=px ok htc rk hk no
   have k5:k≤5:=by omega
   have h6:ws.length≤6 ^ 5:=Nat.le_trans rk.le (Nat.pow_le_pow_right (by decide) k5)
   have hle:=l1.len
   simp only[inV,List.length_map]at hle
   refine aJ (by simp) (um fun N bk hN=>?_)
   subst hRb
   refine ai fun R' hR'=>?_
   walk_at "r"
   refine⟨aj (by decide),fun g hg=>?_⟩
   have s3:=s2.put (o:=.lst []) (s2.free hg)
   have hga:=s2.free hg
   have hgH:=s1.free hga
   have e3:put H2 g (.lst []) g=some (.lst []):=ak
   generalize put H2 g (.lst [])=H3 at *
   subst hR'
   refine ai fun R' hR'=>?_
   walk_at "r"
   refine⟨_,s3 _ _ e1,?_⟩
   refine bN (fun i σ H4=>∃z2 vs,σ=[some (.ref x),some (.int m),some (.tup (G.map PV.int)),some (.ref q),some (.ref f),some (.ref g),z2]/\U.Sub Ha H4/\H4 g=some (.lst vs)/\aZ H4 g vs (inV ((ws.take i).flatMap (mB ts)))/\Frs H vs/\vs.length≤6*i) ?_ ?_ ⟨_,[],rfl,s3,e3,by simp[aZ,Paired.nil],Frs.nil,by simp⟩
   ·rintro σ H4 ⟨z2,vs,rfl,s4,e4,l4,f4,v4⟩
    refine⟨s4 _ _ e1,?_⟩
    rw[hle,List.take_length]at l4
    subst hR'
    refine ai fun R' hR'=>?_
    walk_at "r"
    subst hR'
    walk_at "r"
    refine⟨_,e4,scan g H4 vs _ _ _ rk2 (s1.trans s4) e4 l4 f4 (fun f2 H5 s5 ef2=>?_) _ rfl⟩
    exact hN _ _ ⟨tg.length - (k+1),by omega,g,f2,vs,k+1,_,H4,_,_,rfl,rk2,s1.trans s4,s5,e4,l4,f4,ef2,rfl⟩
   ·rintro N' i y σ H4 hy ⟨z2,vs,rfl,s4,e4,l4,f4,v4⟩ kk
    refine⟨s4 _ _ e1,?_⟩
    obtain⟨l,ra,hl,rfl,nra,hra⟩:=l1.at hy
    have hl:(ws.map fun w=>w.map PV.int)[i]?=some l:=hl
    rw[List.getElem?_map]at hl
    obtain⟨w,hw,rfl⟩:=Option.map_eq_some_iff.mp hl
    have hi:i<ws.length:=(List.getElem?_eq_some_iff.mp hw).1
    have o:=rk.ok w (List.mem_of_getElem? hw)
    have rng:=qN ok.gt o.ch (fun z hz=>by rw[o.hd]at hz;rw[←Option.some.inj hz];exact an.lo ok.gt hG m hm)
    have wl:w.length≤6:=My.bI 6 w ((My.lS (fun a b e=>(ok.gt.lo _ e).2.1) o.ch).imp fun h=>by omega) fun x hx=>by have:=rng x hx;have:=ok.c6;omega
    have nlo:0≤lsI w/\lsI w<c:=rng _ (List.mem_of_getLast? (jo o.ne).1)
    have ra4:=s4 _ _ hra
    walk_at "r"
    refine⟨⟨_,e4⟩,⟨_,_,s4 _ _ (s1 _ _ hx),rfl⟩,_,ra4,?_⟩
    rw[mT o.ne]
    walk_at "r"
    refine⟨dx,c,ts,bs,s4 _ _ (s1 _ _ hx),nlo,t15,?_⟩
    show ∀acc,H4 acc=none->_
    intro acc hacc
    have nga:=ay e4 hacc
    have fl:=cv ok.gt ok.c6 (lsI w)
    refine fQ (fun j σ H5=>∃z us',σ=[z,some (.ref ra)]/\U.Sub H4 H5/\H5 acc=some (.lst us')/\aZ H5 acc us' (inV (((fol ts (lsI w)).take j).map fun n=>w++[n]))/\Frs H4 us') ?_ ?_ ⟨none,[],rfl,(Sub.refl H4).put hacc,ak,by simp[aZ,Paired.nil],Frs.nil⟩
    ·rintro j v σ H5 R2 hv ⟨z,us',rfl,s5,e5,l5,f5⟩ k5'
     rw[List.getElem?_map]at hv
     obtain⟨n,hn,rfl⟩:=Option.map_eq_some_iff.mp hv
     refine⟨trivial,?_⟩
     have ra5:=s5 _ _ ra4
     walk_at "r"
     refine⟨aj (by decide),fun p1 hp1=>⟨_,_,(ar (ay ra5 hp1)).trans ra5,rfl,aj (by simp only[List.length_map,List.length_singleton];omega),fun p2 hp2=>?_⟩⟩
     have sa:=(Sub.refl H5).put (o:=.lst [PV.int n]) hp1
     have hp2H:=sa.free hp2
     have sb:=sa.put (o:=.lst (w.map PV.int++[PV.int n])) hp2H
     have hl5:=l5.len
     simp only[inV,List.length_map]at hl5
     have ltk:((fol ts (lsI w)).take j).length≤6:=by rw[List.length_take];omega
     refine⟨_,sb _ _ e5,bE (by omega),?_⟩
     have l6:=((l5.up sb).snoc (r:=p2) (ay e5 hp2H).symm ak).put (o:=.lst (us'++[PV.ref p2]))
     refine k5' _ _ ⟨_,_,rfl,(s5.trans sb).put hacc,ak,?_,f5.app (Frs.one (s5.free hp2H))⟩
     have ej:(fol ts (lsI w)).take (j+1)=(fol ts (lsI w)).take j++[n]:=by rw[List.take_succ,hn];rfl
     rw[ej]
     simpa[inV]using l6
    ·rintro σ H5 ⟨z,us',rfl,s5,e5,l5,f5⟩
     refine⟨trivial,?_⟩
     rw[List.length_map,List.take_length]at l5
     have hl5:=l5.len
     simp only[inV,List.length_map]at hl5
     walk_at "r"
     refine⟨_,_,s5 _ _ e4,e5,by rw[sizeLine_eq];omega,?_⟩
     refine kk _ _ ⟨_,vs++us',rfl,(s4.trans s5).put hga,ak,?_,f4.app (Frs.mono (s1.trans s4) f5),by rw[List.length_append];omega⟩
     have ei:(ws.take (i+1)).flatMap (mB ts)=(ws.take i).flatMap (mB ts)++mB ts w:=by rw[List.take_succ,hw];simp
     rw[ei]
     unfold inV
     rw[List.map_append]
     exact lI ((l4.up s5).put) (aZ.put (aZ.fr e4 l5 f5))
 ·exact h.elim
theorem C3(T:Tx K mg t):aN P w K mg base CX0 4 t.a_zR t.d_zR ["drawing","road","given"] (gS t):=by
 refine okU (k:=3) T.F_zR zm (fun vs H Q E h=>by
  unfold gS at h
  split at h
  ·rfl
  ·exact h.elim) (fun cdv A outer s H E B hr=>⟨_,(aq (aB (bf (N2:=["meeting","drawing","given"]) (nt:=1) (js:=[0,2]) (ck (sc:=ao sg)) rfl (aM (az (CU T) (hr.mono (by decide)) rfl T.g_zW T.F_zW.kp T.B_zW (aa (qv 1) ae))) (fun s0 H0 fp ps=>⟨(av (i:=0) (show List.Nodup (["meeting","drawing","given"]:List Str) by decide +kernel) rfl (by walk_at "o")),bg,(az (DB T) (hr.mono (by decide)) rfl T.g_zt T.F_zt.kp T.B_zt (aa (qv 1) (aa (qv 0) (aa (qv 2) ae))))⟩)))),?_⟩)
 intro vs H Q E h
 unfold gS at h
 split at h
 ·rename_i x a l
  obtain⟨c,ts,bs,G,A,road,⟨dx,hx⟩,ok,rfl,hG,an,ha,hl,hm,h⟩:=h
  have ml:=g7 road
  walk_at "r"
  refine⟨road,ha,hl,fun mr H1 hmr s1 em=>⟨_,em,fun acc hacc=>?_⟩⟩
  have na:=ay em hacc
  refine fQ (fun j σ H2=>∃z us,∃ws:List (List Int),σ=[z,some (.ref x),some (.tup (G.map PV.int))]/\U.Sub H1 H2/\H2 acc=some (.lst us)/\aZ H2 acc us (inV ws)/\Frs H1 us/\Paired (Wy ts G) ((mts road).take j) ws/\∀w∈ws,w.length≤6) ?_ ?_ ⟨none,[],[],rfl,(Sub.refl H1).put hacc,ak,by simp[aZ,Paired.nil],Frs.nil,by simp[Paired.nil],fun w hw=>(by cases hw)⟩
  ·rintro j v σ H2 R' hv ⟨z,us,ws,rfl,s2,e2,l2,f2,p2,w6⟩ kk
   rw[List.getElem?_map]at hv
   obtain⟨m,hmj,rfl⟩:=Option.map_eq_some_iff.mp hv
   refine⟨s2 _ _ em,?_⟩
   walk_at "r"
   refine⟨c,ts,bs,G,A,⟨dx,s2 _ _ (s1 _ _ hx)⟩,ok,rfl,hG,an,hm m (List.mem_of_getElem? hmj),fun r H3 w hr s3 er wy wl=>?_⟩
   have hl2:=l2.len
   have hp2:=Paired.length p2
   have ltk:((mts road).take j).length≤100:=by rw[List.length_take];omega
   simp only[inV,List.length_map]at hl2
   refine⟨_,s3 _ _ e2,bE (by omega),?_⟩
   have nr:=ay e2 hr
   refine kk _ _ ⟨_,us++[.ref r],ws++[w],rfl,(s2.trans s3).put hacc,ak,?_,f2.app (Frs.one (s2.free hr)),?_,fun w' hw'=>?_⟩
   ·have:=((l2.up s3).snoc (r:=r) nr.symm er).put (o:=.lst (us++[PV.ref r]))
    simpa[inV]using this
   ·have ej:(mts road).take (j+1)=(mts road).take j++[m]:=by rw[List.take_succ,hmj];rfl
    rw[ej];exact g4 wy p2
   ·rcases List.mem_append.mp hw' with q | q
    ·exact w6 w' q
    ·rw[List.mem_singleton.mp q];exact wl
  ·rintro σ H2 ⟨z,us,ws,rfl,s2,e2,l2,f2,p2,w6⟩
   rw[List.length_map,List.take_length]at p2
   exact⟨s2 _ _ em,H2,Sub.refl _,h acc H2 us ws (s1.free hacc) (s1.trans s2) e2 l2 (Frs.mono s1 f2) p2 w6⟩
 ·exact h.elim
theorem DI(T:Tx K mg t):aN P w K mg base CX0 6 t.a_yc t.d_yc ["drawing","ones","others","given"] (d0 t):=by
 refine okU (k:=5) T.F_yc pY (fun vs H Q E h=>by
  unfold d0 at h
  split at h
  ·rfl
  ·exact h.elim) (fun cdv A outer s H E B hr=>⟨_,(af (aT (az (C2 T) (hr.mono (by decide)) rfl T.g_zu T.F_zu.kp T.B_zu (aa (qv 0) (aa (qv 1) (aa (qv 2) (aa (qv 3) ae))))))
  (af (aK (i:=4) pY.nd rfl (by walk_at "o") (az (BB T) (hr.mono (by decide)) rfl T.g_zE T.F_zE.kp T.B_zE (aa (qv 0) (aa (qv 1) (aa (qv 3) ae)))))
  (af (aO (bz (aW (aA (qI rfl) yN rfl T.b_any boot_any (aa (bf (N2:=["standing","others"]) (nt:=1) (js:=[2]) (ck (sc:=ao uP)) rfl (aM (qv 4)) (fun s0 H0 fp ps=>⟨(av (i:=0) (show List.Nodup (["standing","others"]:List Str) by decide +kernel) rfl (by walk_at "o")),bg,(b4 (bS hr.units) a0 (aw (qv 0) ah (fun _ _=>rfl)) (qv 1) (by with_unfolding_all rfl))⟩)) ae))))
  (aq (aB (aY (aa bw (aa (qv 4) ae)))))
  aF)
  (af (aK (i:=5) pY.nd rfl (by walk_at "o") (az (DQ T) (hr.mono (by decide)) rfl T.g_zm T.F_zm.kp T.B_zm (aa (qv 0) (aa (qv 1) (aa (qv 2) (aa (qv 3) ae))))))
  (aq (aB (aY (aa bw (aa (aY (aa (qv 5) (aa (az (C3 T) (hr.mono (by decide)) rfl T.g_zR T.F_zR.kp T.B_zR (aa (qv 0) (aa (qv 5) (aa (qv 3) ae)))) ae))) ae))))))))),?_⟩)
 intro vs H Q E h
 unfold d0 at h
 split at h
 ·rename_i x l m n
  obtain⟨c,ts,bs,A,B,G,dr,ok,rfl,rfl,rfl,ap,h⟩:=h
  refine ai fun R hR=>?_
  walk_at "r"
  refine⟨c,ts,bs,A,B,G,dr,ok.c6,rfl,rfl,rfl,ap,?_⟩
  subst hR
  have t15:=ok.gt.len ok.c6
  refine ai fun R hR=>?_
  walk_at "r"
  refine⟨c,ts,bs,A,G,dr,ok,rfl,rfl,ap.a,ap.g,fun r H1 N L hr s1 an er nd iff=>?_⟩
  have l12:=iK ok.c6 nd fun s hs=>ig ok.gt ok.gb ap.a.lo ((iff s).mp hs)
  subst hR
  refine ai fun R hR=>?_
  walk_at "r"
  refine⟨_,er,?_⟩
  show ∀acc,H1 acc=none->_
  intro acc hacc
  have na:=ay er hacc
  refine aC (z0 B) (fun _=>true) (fun σ=>∃z,σ=[z,some (.tup (B.map PV.int))]) (by rw[List.length_map];omega) (fun _=>(ar na).trans er) ?_ ?_ ⟨_,rfl⟩
  ·rintro y hy l σ R' ⟨z,rfl⟩ hl kT kF
   obtain⟨st,hs,rfl⟩:=List.mem_map.mp hy
   unfold sdV at *
   walk_at "r"
   refine⟨aH,hl,?_⟩
   rw[aG,aR]
   exact kT rfl _ ⟨_,rfl⟩
  have em:((L.map sdV).filter (fun _=>true)).map (z0 B)=(L.map fun s=>decide (s.1∈B)).map PV.bl:=by
   rw[List.filter_eq_self.mpr (fun _ _=>rfl),List.map_map,List.map_map];rfl
  rw[em]
  have s2:=(Sub.refl H1).put (o:=.lst ((L.map fun s=>decide (s.1∈B)).map PV.bl)) hacc
  walk_at "r"
  refine⟨_,rfl,?_⟩
  by_cases ex:∃s∈L,s.1∈B
  ·refine au (by
    obtain⟨s,hs,hb⟩:=ex
    simp only[List.any_map,Bool.not_eq_false']
    rw[List.any_eq_true]
    exact⟨s,hs,by simpa using hb⟩) ?_
   generalize put H1 acc (.lst ((L.map fun s=>decide (s.1∈B)).map PV.bl))=H2 at *
   have s12:=s1.trans s2
   subst hR
   obtain⟨s,hs,hb⟩:=ex
   have rs:=(iff s).mp hs
   refine ai fun R hR=>?_
   walk_at "r"
   refine⟨c,ts,bs,A,B,G,N,dr.up s12,ok,rfl,rfl,rfl,ap.a,ap.g,an,uH ap an rs hb,fun r2 H3 road hr2 s3 er2 op hlb l5=>?_⟩
   subst hR
   walk_at "r"
   refine⟨c,ts,bs,G,N,road,dr.up (s12.trans s3),ok,rfl,ap.g,an,er2,by omega,lU op.rd.ch,fun q H4 us ws hq s4 eq l4 f4 p4 w6=>?_⟩
   have s04:=(s12.trans s3).trans s4
   refine⟨aj (by decide),aj (by decide),H4,Sub.refl _,h.2 r2 q H4 us N road ws (s12.free hr2) ((s12.trans s3).free hq) (ay er2 hq) s04 (s4 _ _ er2) eq l4 (Frs.mono (s12.trans s3) f4) ⟨an,op,hlb,l5,p4,w6,_,_,rs,hb⟩⟩
  ·refine aJ (by
    simp only[List.any_map,Bool.not_eq_true']
    rw[List.any_eq_false]
    intro s hs
    simpa using fun hb=>ex ⟨s,hs,hb⟩) ?_
   refine⟨aj (by decide),H1,s2,h.1 r H1 N L hr s1 er ⟨an,nd,iff,fun s hs hb=>ex ⟨s,hs,hb⟩⟩⟩
 ·exact h.elim
theorem zj(T:Tx K mg t):aN P w K mg base CX0 1 t.a_zK t.d_zK ["_law_cell","_law_place"] nj:=by
 refine okU (k:=0) T.F_zK qZ (fun vs H Q E h=>by
  unfold nj at h
  split at h
  ·rfl
  ·exact h.elim) (fun cdv A outer s H E B hr=>⟨_,(af (aK (i:=2) qZ.nd rfl (by walk_at "o") (cL (cM (cM (gj (cL (qv 0) ah) ah) (gj ah (qv 1))) ah) ah))
  (af (aK (i:=2) qZ.nd rfl (by walk_at "o") (cL (cM (cM (gj (qv 2) (qv 2)) (gj ah (qv 1))) ah) ah))
  (aq (aB (cL (cM (gj (qv 2) (qv 2)) ah) ah))))),?_⟩)
 intro vs H Q E h
 unfold nj at h
 split at h
 ·rename_i u k
  obtain⟨⟨k0,k1⟩,h⟩:=h
  walk_at "r"
  have bk:My.BN 64 k:=show k.natAbs<2 ^ 64 from Nat.lt_of_lt_of_le (m:=100) (by omega) (by decide)
  have bm:∀a:Int,My.BN 64 (a.fmod 2147483629):=fun a=>zt (by decide) (show My.BN 64 _ by unfold My.BN;decide)
  have bc:∀n:Int,n.natAbs<2 ^ 64->My.BN 64 n:=fun n h=>h
  have f:∀{a b:Int},My.BN 64 a->My.BN 64 b->kh a b:=fun x y=>.inr ⟨x.fit (by decide),y.fit (by decide)⟩
  exact⟨by decide,f (bm _) (bc _ (by decide)),f (bc _ (by decide)) bk,by decide,f (bm _) (bm _),f (bc _ (by decide)) bk,by decide,f (bm _) (bm _),by decide,H,Sub.refl _,h _⟩
 ·exact h.elim
theorem xb(T:Tx K mg t):aN P w K mg base CX0 1 t.a_zJ t.d_zJ ["_law_found"] eR:=by
 refine okU (k:=0) T.F_zJ AM (fun vs H Q E h=>by
  unfold eR at h
  split at h
  ·rfl
  ·exact h.elim) (fun cdv A outer s H E B hr=>⟨_,(aq (aB (gu (aA (bD .int) (cp .int) rfl T.b_isinstance boot_isinstance (aa (qv 0) (aa (cj rfl T.b_int boot_int) ae))) (gc (xr (aA (bD .bool) (cp .bool) rfl T.b_isinstance boot_isinstance (aa (qv 0) (aa (cj rfl T.b_bool boot_bool) ae)))))))),?_⟩)
 intro vs H Q E h
 unfold eR at h
 split at h
 ·rename_i n
  walk_at "r"
  exact⟨H,Sub.refl _,h⟩
 ·exact h.elim
theorem Dz(T:Tx K mg t):aN P w K mg base CX0 2 t.a_zs t.d_zs ["_law_script","_law_at","_law_many"] jT:=by
 refine okU (k:=1) T.F_zs dU (fun vs H Q E h=>by
  unfold jT at h
  split at h
  ·rfl
  ·exact h.elim) (fun cdv A outer s H E B hr=>⟨_,(af (aK (i:=3) dU.nd rfl (by walk_at "o") (bG ae))
  (af (aK (i:=4) dU.nd rfl (by walk_at "o") (bG ae))
  (af (aK (i:=5) dU.nd rfl (by walk_at "o") (az (zK T) (hr.mono (by decide)) rfl T.g_zz T.F_zz.kp T.B_zz (aa (qv 0) (aa (qv 1) ae))))
  (af (aK (i:=6) dU.nd rfl (by walk_at "o") (j6 (qv 5) ah))
  (af (aK (i:=7) dU.nd rfl (by walk_at "o") ah)
  (af (bL PassesOwn.never rfl (dm rfl T.b_range (aa (qv 2) ae)) (av (i:=8) dU.nd rfl (by walk_at "o"))
  (aq (bL PassesOwn.never rfl (n9 rfl T.b_range (aa (cM (qv 8) ah) (aa (qv 2) ae))) (av (i:=9) dU.nd rfl (by walk_at "o"))
   (af (aK (i:=10) dU.nd rfl (by walk_at "o") (ui (yb (qv 6) (gj ah (qv 7))) ah))
    (af (aO (ax (bh hr.units) aX (cL (qv 5) ah) ah (aI _))
    (aq (aK (i:=10) dU.nd rfl (by walk_at "o") (cL (az (zj T) (hr.mono (by decide)) rfl T.g_zK T.F_zK.kp T.B_zK (aa (qv 5) (aa (qv 7) ae))) ah)))
    aF)
    (af (aO (ax (bh hr.units) aX (cL (qv 10) ah) ah (aI _))
    (aq (aT (cz PySem.F.slot_list_append PySem.F.type_list_append bT b8 (qv 3) (aa (aY (aa (qv 8) (aa (qv 9) ae))) ae))))
    aF)
    (af (aO (aU (c8 (ax gF gz (qv 10) ah (aI _)) (cu (ax fg fh (aA aD ba rfl T.b_len PySem.boot_len (aa (qv 4) ae)) ah (aI _)))))
    (aq (aT (cz PySem.F.slot_list_append PySem.F.type_list_append bT b8 (qv 4) (aa (aY (aa (qv 8) (aa (qv 9) ae))) ae))))
    aF)
    (aq (aK (i:=7) dU.nd rfl (by walk_at "o") (cM (qv 7) ah))))))))))
  (aq (aB (aY (aa (qv 2) (aa (aP aL a9 rfl T.b_tuple boot_tuple (aa (qv 3) ae)) (aa (aP aL a9 rfl T.b_tuple boot_tuple (aa (qv 4) ae)) ae)))))))))))),?_⟩)
 intro vs H Q E h
 unfold jT at h
 split at h
 ·rename_i l k c
  obtain⟨⟨k0,k1⟩,⟨c1,c6⟩,ns,rfl,h⟩:=h
  refine ai fun R hR=>?_
  walk_at "r"
  refine⟨aj (by decide),fun p hp=>?_⟩
  subst hR
  refine ai fun R hR=>?_
  walk_at "r"
  refine⟨aj (by decide),fun q hq=>?_⟩
  subst hR
  refine ai fun R hR=>?_
  walk_at "r"
  refine⟨⟨k0,by omega⟩,ns,rfl,?_⟩
  generalize ns.getD k.toNat 0=u
  have s0:=(Sub.refl H).put (o:=.lst []) hp
  have hqH:=s0.free hq
  have npq:p≠q:=fun e=>by subst e;rw[ak]at hq;cases hq
  have s1:=s0.put (o:=.lst []) hqH
  have e1:put (put H p (.lst [])) q (.lst []) p=some (.lst (([]:List DM.P2).map prV)):=(ar npq).trans ak
  have e2:put (put H p (.lst [])) q (.lst []) q=some (.lst (([]:List DM.P2).map prV)):=ak
  generalize put (put H p (.lst [])) q (.lst [])=H1 at *
  subst hR
  refine ai fun R hR=>?_
  walk_at "r"
  refine⟨wj (by decide) (by decide),?_⟩
  generalize u.fdiv 2=nu
  subst hR
  refine ai fun R hR=>?_
  walk_at "r"
  subst hR
  refine ai fun R hR=>?_
  walk_at "r"
  refine⟨⟨by omega,by omega⟩,?_⟩
  refine fD (fun i σ H2=>∃pl z1 z2 z3 ts bs,σ=[some (.fls (ns.map PV.int)),some (.int k),some (.int c),some (.ref p),some (.ref q),some (.int u),some (.int nu),some (.int pl),z1,z2,z3]/\(U.Sub H H2/\H2 p=some (.lst (ts.map prV))/\H2 q=some (.lst (bs.map prV)))/\GL c (i:Nat) 0 ts/\GL c (i:Nat) 0 bs/\bs.length≤6/\0≤pl/\pl≤6*(i:Nat)) ?_ ?_ ⟨0,none,none,none,[],[],rfl,⟨s1,e1,e2⟩,GL.nil,GL.nil,by simp,by omega,by omega⟩
  ·rintro σ H2 ⟨pl,z1,z2,z3,ts,bs,rfl,⟨s2,a1,a2⟩,g1,g2,l6,p0,p1⟩
   refine⟨trivial,?_⟩
   subst hR
   walk_at "r"
   exact⟨_,a1,_,a2,aj (by decide),H,s2,h ts bs ⟨c1,c6,g1.good,g2.good,g1.st,g2.st,l6⟩⟩
  ·rintro G i σ H2 hi ⟨pl,z1,z2,z3,ts,bs,rfl,hH,g1,g2,l6,p0,p1⟩ kk
   refine⟨trivial,?_⟩
   walk_at "r"
   refine⟨⟨by omega,by omega,by omega,by omega⟩,?_⟩
   have hn:(c - ((i:Nat)+1:Int)).toNat≤5:=by omega
   refine fD (fun j σ H3=>∃pl z2 z3 ts bs,σ=[some (.fls (ns.map PV.int)),some (.int k),some (.int c),some (.ref p),some (.ref q),some (.int u),some (.int nu),some (.int pl),some (.int (i:Nat)),z2,z3]/\(U.Sub H H3/\H3 p=some (.lst (ts.map prV))/\H3 q=some (.lst (bs.map prV)))/\GL c (i:Nat) ((i:Nat)+1+(j:Nat):Int) ts/\GL c (i:Nat) ((i:Nat)+1+(j:Nat):Int) bs/\bs.length≤6/\0≤pl/\pl≤6*(i:Nat)+(j:Nat)) ?_ ?_ ⟨pl,z2,z3,ts,bs,rfl,hH,g1.up (by omega),g2.up (by omega),l6,p0,by omega⟩
   ·rintro σ H3 ⟨pl,z2,z3,ts,bs,rfl,hH,g1,g2,l6,p0,p1⟩
    exact⟨trivial,kk _ _ ⟨_,_,_,_,ts,bs,rfl,hH,g1.nx 0,g2.nx 0,l6,p0,by omega⟩⟩
   ·rintro G' j σ H3 hj ⟨pl,z2,z3,ts,bs,rfl,⟨s2,a1,a2⟩,g1,g2,l6,p0,p1⟩ kk'
    refine⟨trivial,?_⟩
    have t15:=g1.good.len c6
    refine ai fun R1 hR1=>?_
    walk_at "r"
    refine⟨.inr ⟨vQ (by decide),vQ (by omega)⟩,by omega,?_⟩
    generalize Builtin.bitAnd _ _=kd0
    have fin:∀(kd:Int) (ts' bs':List DM.P2) (H4:PHp),(U.Sub H H4/\H4 p=some (.lst (ts'.map prV))/\H4 q=some (.lst (bs'.map prV)))->GL c (i:Nat) ((i:Nat)+1+(j:Nat)+1:Int) ts'->GL c (i:Nat) ((i:Nat)+1+(j:Nat)+1:Int) bs'->bs'.length≤6->G' [some (.fls (ns.map PV.int)),some (.int k),some (.int c),some (.ref p),some (.ref q),some (.int u),some (.int nu),some (.int (pl+1)),some (.int (i:Nat)),some (.int ((i:Nat)+1+(j:Nat):Int)),some (.int kd)] H4:=fun kd ts' bs' H4 x1 x2 x3 x4=>kk' _ _ ⟨_,_,_,ts',bs',rfl,x1,by rw[show(((i:Nat):Int)+1+((j+1:Nat):Int))=(i:Nat)+1+(j:Nat)+1 by omega];exact x2,by rw[show(((i:Nat):Int)+1+((j+1:Nat):Int))=(i:Nat)+1+(j:Nat)+1 by omega];exact x3,x4,by omega,by omega⟩
    subst hR1
    refine ai fun R1 hR1=>?_
    have on1:∀kd:Int,R1 { nx:=G',rt:=fun v H=>∃H3,U.Sub H3 H/\Q v H3,bk:=G,ct:=G' } [some (.fls (ns.map PV.int)),some (.int k),some (.int c),some (.ref p),some (.ref q),some (.int u),some (.int nu),some (.int pl),some (.int (i:Nat)),some (.int ((i:Nat)+1+(j:Nat):Int)),some (.int kd)] H3:=fun kd=>by
     subst hR1
     refine ai fun R1 hR1=>?_
     have on2:∀(ts':List DM.P2) (H4:PHp),(U.Sub H H4/\H4 p=some (.lst (ts'.map prV))/\H4 q=some (.lst (bs.map prV)))->GL c (i:Nat) ((i:Nat)+1+(j:Nat)+1:Int) ts'->R1 { nx:=G',rt:=fun v H=>∃H3,U.Sub H3 H/\Q v H3,bk:=G,ct:=G' } [some (.fls (ns.map PV.int)),some (.int k),some (.int c),some (.ref p),some (.ref q),some (.int u),some (.int nu),some (.int pl),some (.int (i:Nat)),some (.int ((i:Nat)+1+(j:Nat):Int)),some (.int kd)] H4:=fun ts' H4 hH b1=>by
      subst hR1
      refine ai fun R1 hR1=>?_
      have on3:∀(bs':List DM.P2) (H5:PHp),(U.Sub H H5/\H5 p=some (.lst (ts'.map prV))/\H5 q=some (.lst (bs'.map prV)))->GL c (i:Nat) ((i:Nat)+1+(j:Nat)+1:Int) bs'->bs'.length≤6->R1 { nx:=G',rt:=fun v H=>∃H3,U.Sub H3 H/\Q v H3,bk:=G,ct:=G' } [some (.fls (ns.map PV.int)),some (.int k),some (.int c),some (.ref p),some (.ref q),some (.int u),some (.int nu),some (.int pl),some (.int (i:Nat)),some (.int ((i:Nat)+1+(j:Nat):Int)),some (.int kd)] H5:=fun bs' H5 hH' b2 b6=>by
       subst hR1
       walk_at "r"
       exact fin kd ts' bs' H5 hH' b1 b2 b6
      obtain⟨u1,u3,u4⟩:=id hH
      walk_at "r"
      refine bA (fun _=>?_) (fun _=>on3 bs H4 hH (g2.up (by omega)) l6)
      refine⟨_,u4,?_⟩
      by_cases h6:bs.length<6
      ·refine aJ (by rw[List.length_map];simp;omega) ?_
       refine⟨⟨_,u4⟩,aj (by decide),_,u4,by rw[List.length_map];exact bE (by omega),?_⟩
       refine on3 (bs++[(((i:Nat):Int),((i:Nat):Int)+1+((j:Nat):Int))]) _ ⟨u1.put hqH,(ar npq).trans u3,?_⟩ (g2.app (by omega) (by omega) (by omega) c6) (by rw[List.length_append];simp;omega)
       rw[ak,List.map_append];rfl
      ·exact au (by rw[List.length_map];simp;omega) (on3 bs H4 hH (g2.up (by omega)) l6)
     walk_at "r"
     refine⟨by decide,bA (fun _=>?_) (fun _=>on2 ts H3 ⟨s2,a1,a2⟩ (g1.up (by omega)))⟩
     refine⟨⟨_,a1⟩,aj (by decide),_,a1,by rw[List.length_map];exact bE (by omega),?_⟩
     refine on2 (ts++[(((i:Nat):Int),((i:Nat):Int)+1+((j:Nat):Int))]) _ ⟨s2.put hp,?_,(ar npq.symm).trans a2⟩ (g1.app (by omega) (by omega) (by omega) c6)
     rw[ak,List.map_append];rfl
    walk_at "r"
    refine⟨by decide,bA (fun _=>?_) (fun _=>on1 _)⟩
    exact⟨⟨p0,by omega⟩,fun n=>⟨by decide,on1 _⟩⟩
 ·exact h.elim
theorem Dx(T:Tx K mg t):aN P w K mg base CX0 1 t.a_zL t.d_zL ["_law_step","_law_further"] d6:=by
 refine okU (k:=0) T.F_zL y8 (fun vs H Q E h=>by
  unfold d6 at h
  split at h
  ·rfl
  ·exact h.elim) (fun cdv A outer s H E B hr=>⟨_,(aq (aB (gu (b4 (bZ hr.units) aX (aw (qv 0) ah (fun _ _=>rfl)) c9 (aI _)) (gc (b4 (bZ hr.units) aX (aw (qv 1) ah (fun _ _=>rfl)) c9 (aI _)))))),?_⟩)
 intro vs H Q E h
 unfold d6 at h
 split at h
 ·rename_i a k b a' k' b'
  walk_at "r"
  unfold mtg at h
  refine bA (fun q=>⟨H,Sub.refl _,?_⟩) (fun q=>⟨H,Sub.refl _,?_⟩)
  ·simp only[q,Bool.true_and]at h;exact h
  ·simp only[q,Bool.false_and]at h;exact h
 ·exact h.elim
theorem xk(T:Tx K mg t):aN P w K mg base CX0 1 t.a_zO t.d_zO ["_law_drawn","_law_names"] eW:=by
 refine okU (k:=0) T.F_zO mX (fun vs H Q E h=>by
  unfold eW at h
  split at h
  ·rfl
  ·exact h.elim) (fun cdv A outer s H E B hr=>⟨_,(af (aK (i:=2) mX.nd rfl (by walk_at "o") (aP b9 fS rfl T.b_list boot_list (aa (qv 1) ae)))
  (af (nR PassesOwn.never rfl (A5 rfl T.b_reversed (aa (aw (qv 0) ah (fun _ _=>rfl)) ae)) (cJ (n:=2) rfl (aS (av (i:=3) mX.nd rfl (by walk_at "o")) (aS (av (i:=4) mX.nd rfl (by walk_at "o")) bY)))
  (aq (aO (aU (c8 (ax (bS hr.units) a0 (qv 4) (qv 2) (by with_unfolding_all rfl)) (cu (ax (aQ hr.units) a0 (qv 3) (qv 2) (by with_unfolding_all rfl)))))
   (aq (aT (cz PySem.F.slot_list_append PySem.F.type_list_append bT b8 (qv 2) (aa (qv 3) ae))))
   aF)))
  (aq (aB (qv 2))))),?_⟩)
 intro vs H Q E h
 unfold eW at h
 split at h
 ·rename_i l m
  obtain⟨c,ts,bs,G,e,rfl,ok,hG,h⟩:=h
  unfold shp at e
  injection e with e
  subst e
  have t15:=ok.gt.len ok.c6
  have g6:=hG.len ok.c6
  refine ai fun R hR=>?_
  walk_at "r"
  intro f hf
  have s1:=(Sub.refl H).put (o:=.lst (G.map PV.int)) hf
  have e1:put H f (.lst (G.map PV.int)) f=some (.lst (G.map PV.int)):=ak
  generalize put H f (.lst (G.map PV.int))=H1 at *
  subst hR
  refine ai fun R hR=>?_
  walk_at "r"
  refine⟨by rw[List.length_map];omega,?_⟩
  rw[←List.map_reverse]
  refine bN (fun i σ H2=>∃z1 z2 F,σ=[some (.tup [.int c,.tup (ts.map prV),.tup (bs.map prV)]),some (.tup (G.map PV.int)),some (.ref f),z1,z2]/\U.Sub H H2/\H2 f=some (.lst (F.map PV.int))/\F=(ts.reverse.take i).foldl bX G/\F.length≤6+i) ?_ ?_ ⟨none,none,G,rfl,s1,e1,rfl,by omega⟩
  ·rintro σ H2 ⟨z1,z2,F,rfl,s2,e2,hF,lF⟩
   refine⟨trivial,?_⟩
   rw[List.length_map,List.take_length]at hF
   subst hR
   walk_at "r"
   obtain⟨A,an,iff⟩:=zE ok hG (F:=F) fun x=>by rw[hF];exact xA ok x
   exact⟨H2,Sub.refl _,h f H2 F A hf s2 e2 an iff⟩
  ·rintro N i y σ H2 hy ⟨z1,z2,F,rfl,s2,e2,hF,lF⟩ kk
   refine⟨trivial,?_⟩
   rw[List.getElem?_map]at hy
   obtain⟨p,hp,rfl⟩:=Option.map_eq_some_iff.mp hy
   have hi:i<ts.reverse.length:=(List.getElem?_eq_some_iff.mp hp).1
   rw[List.length_reverse]at hi
   have hnx:(ts.reverse.take (i+1)).foldl bX G=bX F p:=by rw[ji hp,← hF]
   unfold bX at hnx
   have stay:¬(p.2∈F/\p.1∉F)->N [some (.tup [.int c,.tup (ts.map prV),.tup (bs.map prV)]),some (.tup (G.map PV.int)),some (.ref f),some (.int p.1),some (.int p.2)] H2:=fun hn=>by
    rw[if_neg hn]at hnx
    exact kk _ _ ⟨_,_,F,rfl,s2,e2,hnx.symm,by omega⟩
   unfold prV
   walk_at "r"
   refine⟨_,e2,aH,?_⟩
   rw[aR]
   by_cases m1:p.2∈F
   ·refine aJ (by simp[m1]) ⟨_,e2,aH,?_⟩
    rw[aR]
    by_cases m2:p.1∈F
    ·exact au (by simp[m2]) (stay fun h=>h.2 m2)
    ·refine aJ (by simp[m2]) ⟨⟨_,e2⟩,_,e2,bE (by rw[List.length_map];omega),?_⟩
     rw[if_pos ⟨m1,m2⟩]at hnx
     refine kk _ _ ⟨_,_,F++[p.1],rfl,s2.put hf,by rw[ak,List.map_append];rfl,hnx.symm,by rw[List.length_append,List.length_singleton];omega⟩
   ·exact au (by simp[m1]) (stay fun h=>m1 h.1)
 ·exact h.elim
theorem zC(T:Tx K mg t):aN P w K mg base CX0 1 t.a_zn t.d_zn ["_law_drawn","_law_standing","_law_given","_law_above_here"] fH:=by
 refine okU (k:=0) T.F_zn gy (fun vs H Q E h=>by
  unfold fH at h
  split at h
  ·rfl
  ·exact h.elim) (fun cdv A outer s H E B hr=>⟨_,(af (iy (qv 1) (cJ (n:=2) rfl (aS (av (i:=4) gy.nd rfl (by walk_at "o")) (aS (av (i:=5) gy.nd rfl (by walk_at "o")) bY))))
  (af (aK (i:=6) gy.nd rfl (by walk_at "o") (bG ae))
  (af (aO (ax (aQ hr.units) a0 (qv 4) (qv 2) (by with_unfolding_all rfl))
  (aq (bx (i:=6) gy.nd rfl (by walk_at "o") (N2:=["_law_one","_law_two","_law_name"]) (nt:=2) (js:=[4]) (ck (sc:=ao mG)) rfl (aM (aw (qv 0) ah (fun _ _=>rfl))) (fun s0 H0 fp ps=>⟨(cJ (n:=2) rfl (aS (av (i:=0) (show List.Nodup (["_law_one","_law_two","_law_name"]:List Str) by decide +kernel) rfl (by walk_at "o")) (aS (av (i:=1) (show List.Nodup (["_law_one","_law_two","_law_name"]:List Str) by decide +kernel) rfl (by walk_at "o")) bY))),(bj (ax (bh hr.units) aX (qv 0) (qv 2) (aI _))),(aY (aa (qv 1) (aa bw ae)))⟩)))
  aF)
  (af (aO (aU (bJ (aU (c8 (aW (qv 5)) (cu (ax (bS hr.units) a0 (qv 4) (qv 3) (by with_unfolding_all rfl))))) (bK (aU (c8 (bz (aW (qv 5))) (cu (ax (aQ hr.units) a0 (qv 4) (qv 2) (by with_unfolding_all rfl))))))))
  (af (aK (i:=6) gy.nd rfl (by walk_at "o") (cK (qv 6) (bf (N2:=["_law_one","_law_two","_law_name"]) (nt:=2) (js:=[4]) (ck (sc:=ao mG)) rfl (aM (aw (qv 0) ah (fun _ _=>rfl))) (fun s0 H0 fp ps=>⟨(cJ (n:=2) rfl (aS (av (i:=0) (show List.Nodup (["_law_one","_law_two","_law_name"]:List Str) by decide +kernel) rfl (by walk_at "o")) (aS (av (i:=1) (show List.Nodup (["_law_one","_law_two","_law_name"]:List Str) by decide +kernel) rfl (by walk_at "o")) bY))),(bj (ax (bh hr.units) aX (qv 1) (qv 2) (aI _))),(aY (aa (qv 0) (aa bw ae)))⟩))))
   (af (aK (i:=6) gy.nd rfl (by walk_at "o") (cK (qv 6) (bf (N2:=["_law_one","_law_two","_law_name"]) (nt:=2) (js:=[4]) (ck (sc:=ao mG)) rfl (aM (aw (qv 0) ah (fun _ _=>rfl))) (fun s0 H0 fp ps=>⟨(cJ (n:=2) rfl (aS (av (i:=0) (show List.Nodup (["_law_one","_law_two","_law_name"]:List Str) by decide +kernel) rfl (by walk_at "o")) (aS (av (i:=1) (show List.Nodup (["_law_one","_law_two","_law_name"]:List Str) by decide +kernel) rfl (by walk_at "o")) bY))),(bj (ax (bh hr.units) aX (qv 0) (qv 2) (aI _))),(aY (aa (qv 1) (aa bw ae)))⟩))))
   (aq (aK (i:=6) gy.nd rfl (by walk_at "o") (cK (qv 6) (bf (N2:=["_law_one","_law_two","_law_name"]) (nt:=2) (js:=[4]) (ck (sc:=ao mG)) rfl (aM (aw (qv 0) ah (fun _ _=>rfl))) (fun s0 H0 fp ps=>⟨(cJ (n:=2) rfl (aS (av (i:=0) (show List.Nodup (["_law_one","_law_two","_law_name"]:List Str) by decide +kernel) rfl (by walk_at "o")) (aS (av (i:=1) (show List.Nodup (["_law_one","_law_two","_law_name"]:List Str) by decide +kernel) rfl (by walk_at "o")) bY))),(bj (ax (bh hr.units) aX (qv 1) (qv 2) (aI _))),(aY (aa (qv 0) (aa bw ae)))⟩)))))))
  aF)
  (aq (aB (qv 6))))))),?_⟩)
 intro vs H Q E h
 unfold fH at h
 split at h
 ·rename_i l n b m a
  obtain⟨c,ts,bs,G,F,A,e,rfl,ok,ha,iff,h⟩:=h
  unfold shp at e
  injection e with e
  subst e
  have t15:=ok.gt.len ok.c6
  have b15:=ok.gb.len ok.c6
  have l1:=cv ok.gt ok.c6 n
  have l2:=cE ok.gt ok.c6 n
  have l3:=cv ok.gb ok.c6 n
  have l4:=cE ok.gb ok.c6 n
  refine ai fun R hR=>?_
  walk_at "r"
  subst hR
  refine ai fun R hR=>?_
  walk_at "r"
  refine⟨aj (by decide),fun f0 hf0=>?_⟩
  have s0:=(Sub.refl H).put (o:=.lst []) hf0
  have e0:put H f0 (.lst []) f0=some (.lst (([]:List Sd).map sdV)):=ak
  generalize put H f0 (.lst [])=H0 at *
  subst hR
  refine ai fun R hR=>?_
  have key:∀(f:Addr) (L1:List Sd) (H1:PHp),H f=none->U.Sub H H1->H1 f=some (.lst (L1.map sdV))->L1=(if n∈G then []else(fol ts n).map fun m=>((m,true):Sd))->R { nx:=fun _ H=>∃H3,U.Sub H3 H/\Q .non H3,rt:=fun v H=>∃H3,U.Sub H3 H/\Q v H3 } [some (.tup [.int c,.tup (ts.map prV),.tup (bs.map prV)]),some (.tup [.int n,.bl b]),some (.tup (G.map PV.int)),some (.ref a),some (.int n),some (.bl b),some (.ref f)] H1:=fun f L1 H1 hf s1 e1 hL=>by
   have k1:L1.length≤6:=by rw[hL];split<;>simp<;>omega
   subst hR
   refine ai fun R hR=>?_
   have key2:∀(f:Addr) (L:List Sd) (H2:PHp),H f=none->U.Sub H H2->H2 f=some (.lst (L.map sdV))->(∀z,z∈L↔z∈L1++(if (b=true/\n∈A)∨(b=false/\n∉G)then(src ts n).map (fun m=>((m,false):Sd))++(bwd bs n).map (fun m=>((m,true):Sd))else []))->L.length≤60->R { nx:=fun _ H=>∃H3,U.Sub H3 H/\Q .non H3,rt:=fun v H=>∃H3,U.Sub H3 H/\Q v H3 } [some (.tup [.int c,.tup (ts.map prV),.tup (bs.map prV)]),some (.tup [.int n,.bl b]),some (.tup (G.map PV.int)),some (.ref a),some (.int n),some (.bl b),some (.ref f)] H2:=fun f L H2 hf s2 e2 hz hl=>by
    subst hR
    walk_at "r"
    exact⟨H2,Sub.refl _,h f H2 L hf s2 e2 (fun z=>by rw[hz z,hL];rfl) hl⟩
   have no:¬((b=true/\n∈A)∨(b=false/\n∉G))->R { nx:=fun _ H=>∃H3,U.Sub H3 H/\Q .non H3,rt:=fun v H=>∃H3,U.Sub H3 H/\Q v H3 } [some (.tup [.int c,.tup (ts.map prV),.tup (bs.map prV)]),some (.tup [.int n,.bl b]),some (.tup (G.map PV.int)),some (.ref a),some (.int n),some (.bl b),some (.ref f)] H1:=fun q=>key2 f L1 H1 hf s1 e1 (fun z=>by rw[if_neg q,List.append_nil]) (by omega)
   have ha1:=s1 _ _ ha
   walk_at "r"
   cases b with
   | true =>
    refine aJ rfl ⟨_,ha1,aH,?_⟩
    rw[aR]
    by_cases hA:n∈F
    ·refine aJ (by simp[hA]) ?_
     have cd:((true:Bool)=true/\n∈A)∨((true:Bool)=false/\n∉G):=.inl ⟨rfl,(iff n).mp hA⟩
     show ∀acc,H1 acc=none->_
     intro q1 hq1
     refine aC (fun y=>PV.tup [g0 y,.bl false]) (at1 n) (fun σ=>∃z z2,σ=[z,z2,some (.int n)]) (by rw[List.length_map];omega) (fun _=>trivial) ?_ ?_ ⟨_,_,rfl⟩
     ·rintro y hy l σ R' ⟨z,z2,rfl⟩ hl kT kF
      obtain⟨p,hp,rfl⟩:=List.mem_map.mp hy
      have e:at1 n (prV p)=decide (p.2=n):=rfl
      rw[e]at kT kF
      unfold prV at *
      walk_at "r"
      refine bA (fun q=>?_) (fun q=>?_)
      ·exact⟨aj (by decide),hl,by rw[aG];exact kT (by simpa using q) _ ⟨_,_,rfl⟩⟩
      ·exact kF (by simpa using q) _ ⟨_,_,rfl⟩
     rw[jG]
     walk_at "r"
     refine⟨_,_,(ar (ay e1 hq1)).trans e1,rfl,aj (by simp only[List.length_map,List.length_append];omega),fun q1c hq1c=>?_⟩
     rw[←List.map_append]
     have s2a:=s1.put (o:=.lst (((src ts n).map fun m=>((m,false):Sd)).map sdV)) (s1.free hq1)
     have hq1H:=s2a.free hq1c
     have s2:=s2a.put (o:=.lst ((L1++(src ts n).map fun m=>((m,false):Sd)).map sdV)) hq1H
     have e2:put (put H1 q1 (.lst (((src ts n).map fun m=>((m,false):Sd)).map sdV))) q1c (.lst ((L1++(src ts n).map fun m=>((m,false):Sd)).map sdV)) q1c=some (.lst ((L1++(src ts n).map fun m=>((m,false):Sd)).map sdV)):=ak
     generalize put (put H1 q1 (.lst (((src ts n).map fun m=>((m,false):Sd)).map sdV))) q1c (.lst ((L1++(src ts n).map fun m=>((m,false):Sd)).map sdV))=H2 at *
     show ∀acc,H2 acc=none->_
     intro q2 hq2
     refine aC (fun y=>PV.tup [g1 y,.bl true]) (at0 n) (fun σ=>∃z z2,σ=[z,z2,some (.int n)]) (by rw[List.length_map];omega) (fun _=>trivial) ?_ ?_ ⟨_,_,rfl⟩
     ·rintro y hy l σ R' ⟨z,z2,rfl⟩ hl kT kF
      obtain⟨p,hp,rfl⟩:=List.mem_map.mp hy
      have e:at0 n (prV p)=decide (p.1=n):=rfl
      rw[e]at kT kF
      unfold prV at *
      walk_at "r"
      refine bA (fun q=>?_) (fun q=>?_)
      ·exact⟨aj (by decide),hl,by rw[aG];exact kT (by simpa using q) _ ⟨_,_,rfl⟩⟩
      ·exact kF (by simpa using q) _ ⟨_,_,rfl⟩
     rw[me]
     walk_at "r"
     refine⟨_,_,(ar (ay e2 hq2)).trans e2,rfl,aj (by simp only[List.length_map,List.length_append];omega),fun q2c hq2c=>?_⟩
     rw[←List.map_append]
     have s3a:=s2.put (o:=.lst (((fol bs n).map fun m=>((m,true):Sd)).map sdV)) (s2.free hq2)
     have hq2H:=s3a.free hq2c
     have s3:=s3a.put (o:=.lst (((L1++((src ts n).map fun m=>((m,false):Sd)))++(fol bs n).map fun m=>((m,true):Sd)).map sdV)) hq2H
     have e3:put (put H2 q2 (.lst (((fol bs n).map fun m=>((m,true):Sd)).map sdV))) q2c (.lst (((L1++((src ts n).map fun m=>((m,false):Sd)))++(fol bs n).map fun m=>((m,true):Sd)).map sdV)) q2c=some (.lst (((L1++((src ts n).map fun m=>((m,false):Sd)))++(fol bs n).map fun m=>((m,true):Sd)).map sdV)):=ak
     generalize put (put H2 q2 (.lst (((fol bs n).map fun m=>((m,true):Sd)).map sdV))) q2c (.lst (((L1++((src ts n).map fun m=>((m,false):Sd)))++(fol bs n).map fun m=>((m,true):Sd)).map sdV))=H3 at *
     show ∀acc,H3 acc=none->_
     intro q3 hq3
     refine aC (fun y=>PV.tup [g0 y,.bl true]) (at1 n) (fun σ=>∃z z2,σ=[z,z2,some (.int n)]) (by rw[List.length_map];omega) (fun _=>trivial) ?_ ?_ ⟨_,_,rfl⟩
     ·rintro y hy l σ R' ⟨z,z2,rfl⟩ hl kT kF
      obtain⟨p,hp,rfl⟩:=List.mem_map.mp hy
      have e:at1 n (prV p)=decide (p.2=n):=rfl
      rw[e]at kT kF
      unfold prV at *
      walk_at "r"
      refine bA (fun q=>?_) (fun q=>?_)
      ·exact⟨aj (by decide),hl,by rw[aG];exact kT (by simpa using q) _ ⟨_,_,rfl⟩⟩
      ·exact kF (by simpa using q) _ ⟨_,_,rfl⟩
     rw[jG]
     walk_at "r"
     refine⟨_,_,(ar (ay e3 hq3)).trans e3,rfl,aj (by simp only[List.length_map,List.length_append];omega),fun q3c hq3c=>?_⟩
     rw[←List.map_append]
     have s4a:=s3.put (o:=.lst (((src bs n).map fun m=>((m,true):Sd)).map sdV)) (s3.free hq3)
     have hq3H:=s4a.free hq3c
     have s4:=s4a.put (o:=.lst ((((L1++((src ts n).map fun m=>((m,false):Sd)))++((fol bs n).map fun m=>((m,true):Sd)))++(src bs n).map fun m=>((m,true):Sd)).map sdV)) hq3H
     have e4:put (put H3 q3 (.lst (((src bs n).map fun m=>((m,true):Sd)).map sdV))) q3c (.lst ((((L1++((src ts n).map fun m=>((m,false):Sd)))++((fol bs n).map fun m=>((m,true):Sd)))++(src bs n).map fun m=>((m,true):Sd)).map sdV)) q3c=some (.lst ((((L1++((src ts n).map fun m=>((m,false):Sd)))++((fol bs n).map fun m=>((m,true):Sd)))++(src bs n).map fun m=>((m,true):Sd)).map sdV)):=ak
     generalize put (put H3 q3 (.lst (((src bs n).map fun m=>((m,true):Sd)).map sdV))) q3c (.lst ((((L1++((src ts n).map fun m=>((m,false):Sd)))++((fol bs n).map fun m=>((m,true):Sd)))++(src bs n).map fun m=>((m,true):Sd)).map sdV))=H4 at *
     exact key2 q3c _ H4 hq3H s4 e4 (by
      intro z
      rw[if_pos cd]
      unfold bwd
      rw[List.map_append]
      simp only[List.mem_append]
      exact or4) (by simp only[List.length_append,List.length_map];omega)
    ·exact au (by simp[hA]) (au rfl (no (by simpa using fun z=>hA ((iff n).mpr z))))
   | false =>
    refine au rfl (aJ rfl ⟨aH,?_⟩)
    rw[aR]
    by_cases hA:n∈G
    ·exact au (by simp[hA]) (no (by simp[hA]))
    ·refine aJ (by simp[hA]) ?_
     have cd:((false:Bool)=true/\n∈A)∨((false:Bool)=false/\n∉G):=.inr ⟨rfl,hA⟩
     show ∀acc,H1 acc=none->_
     intro q1 hq1
     refine aC (fun y=>PV.tup [g0 y,.bl false]) (at1 n) (fun σ=>∃z z2,σ=[z,z2,some (.int n)]) (by rw[List.length_map];omega) (fun _=>trivial) ?_ ?_ ⟨_,_,rfl⟩
     ·rintro y hy l σ R' ⟨z,z2,rfl⟩ hl kT kF
      obtain⟨p,hp,rfl⟩:=List.mem_map.mp hy
      have e:at1 n (prV p)=decide (p.2=n):=rfl
      rw[e]at kT kF
      unfold prV at *
      walk_at "r"
      refine bA (fun q=>?_) (fun q=>?_)
      ·exact⟨aj (by decide),hl,by rw[aG];exact kT (by simpa using q) _ ⟨_,_,rfl⟩⟩
      ·exact kF (by simpa using q) _ ⟨_,_,rfl⟩
     rw[jG]
     walk_at "r"
     refine⟨_,_,(ar (ay e1 hq1)).trans e1,rfl,aj (by simp only[List.length_map,List.length_append];omega),fun q1c hq1c=>?_⟩
     rw[←List.map_append]
     have s2a:=s1.put (o:=.lst (((src ts n).map fun m=>((m,false):Sd)).map sdV)) (s1.free hq1)
     have hq1H:=s2a.free hq1c
     have s2:=s2a.put (o:=.lst ((L1++(src ts n).map fun m=>((m,false):Sd)).map sdV)) hq1H
     have e2:put (put H1 q1 (.lst (((src ts n).map fun m=>((m,false):Sd)).map sdV))) q1c (.lst ((L1++(src ts n).map fun m=>((m,false):Sd)).map sdV)) q1c=some (.lst ((L1++(src ts n).map fun m=>((m,false):Sd)).map sdV)):=ak
     generalize put (put H1 q1 (.lst (((src ts n).map fun m=>((m,false):Sd)).map sdV))) q1c (.lst ((L1++(src ts n).map fun m=>((m,false):Sd)).map sdV))=H2 at *
     show ∀acc,H2 acc=none->_
     intro q2 hq2
     refine aC (fun y=>PV.tup [g1 y,.bl true]) (at0 n) (fun σ=>∃z z2,σ=[z,z2,some (.int n)]) (by rw[List.length_map];omega) (fun _=>trivial) ?_ ?_ ⟨_,_,rfl⟩
     ·rintro y hy l σ R' ⟨z,z2,rfl⟩ hl kT kF
      obtain⟨p,hp,rfl⟩:=List.mem_map.mp hy
      have e:at0 n (prV p)=decide (p.1=n):=rfl
      rw[e]at kT kF
      unfold prV at *
      walk_at "r"
      refine bA (fun q=>?_) (fun q=>?_)
      ·exact⟨aj (by decide),hl,by rw[aG];exact kT (by simpa using q) _ ⟨_,_,rfl⟩⟩
      ·exact kF (by simpa using q) _ ⟨_,_,rfl⟩
     rw[me]
     walk_at "r"
     refine⟨_,_,(ar (ay e2 hq2)).trans e2,rfl,aj (by simp only[List.length_map,List.length_append];omega),fun q2c hq2c=>?_⟩
     rw[←List.map_append]
     have s3a:=s2.put (o:=.lst (((fol bs n).map fun m=>((m,true):Sd)).map sdV)) (s2.free hq2)
     have hq2H:=s3a.free hq2c
     have s3:=s3a.put (o:=.lst (((L1++((src ts n).map fun m=>((m,false):Sd)))++(fol bs n).map fun m=>((m,true):Sd)).map sdV)) hq2H
     have e3:put (put H2 q2 (.lst (((fol bs n).map fun m=>((m,true):Sd)).map sdV))) q2c (.lst (((L1++((src ts n).map fun m=>((m,false):Sd)))++(fol bs n).map fun m=>((m,true):Sd)).map sdV)) q2c=some (.lst (((L1++((src ts n).map fun m=>((m,false):Sd)))++(fol bs n).map fun m=>((m,true):Sd)).map sdV)):=ak
     generalize put (put H2 q2 (.lst (((fol bs n).map fun m=>((m,true):Sd)).map sdV))) q2c (.lst (((L1++((src ts n).map fun m=>((m,false):Sd)))++(fol bs n).map fun m=>((m,true):Sd)).map sdV))=H3 at *
     show ∀acc,H3 acc=none->_
     intro q3 hq3
     refine aC (fun y=>PV.tup [g0 y,.bl true]) (at1 n) (fun σ=>∃z z2,σ=[z,z2,some (.int n)]) (by rw[List.length_map];omega) (fun _=>trivial) ?_ ?_ ⟨_,_,rfl⟩
     ·rintro y hy l σ R' ⟨z,z2,rfl⟩ hl kT kF
      obtain⟨p,hp,rfl⟩:=List.mem_map.mp hy
      have e:at1 n (prV p)=decide (p.2=n):=rfl
      rw[e]at kT kF
      unfold prV at *
      walk_at "r"
      refine bA (fun q=>?_) (fun q=>?_)
      ·exact⟨aj (by decide),hl,by rw[aG];exact kT (by simpa using q) _ ⟨_,_,rfl⟩⟩
      ·exact kF (by simpa using q) _ ⟨_,_,rfl⟩
     rw[jG]
     walk_at "r"
     refine⟨_,_,(ar (ay e3 hq3)).trans e3,rfl,aj (by simp only[List.length_map,List.length_append];omega),fun q3c hq3c=>?_⟩
     rw[←List.map_append]
     have s4a:=s3.put (o:=.lst (((src bs n).map fun m=>((m,true):Sd)).map sdV)) (s3.free hq3)
     have hq3H:=s4a.free hq3c
     have s4:=s4a.put (o:=.lst ((((L1++((src ts n).map fun m=>((m,false):Sd)))++((fol bs n).map fun m=>((m,true):Sd)))++(src bs n).map fun m=>((m,true):Sd)).map sdV)) hq3H
     have e4:put (put H3 q3 (.lst (((src bs n).map fun m=>((m,true):Sd)).map sdV))) q3c (.lst ((((L1++((src ts n).map fun m=>((m,false):Sd)))++((fol bs n).map fun m=>((m,true):Sd)))++(src bs n).map fun m=>((m,true):Sd)).map sdV)) q3c=some (.lst ((((L1++((src ts n).map fun m=>((m,false):Sd)))++((fol bs n).map fun m=>((m,true):Sd)))++(src bs n).map fun m=>((m,true):Sd)).map sdV)):=ak
     generalize put (put H3 q3 (.lst (((src bs n).map fun m=>((m,true):Sd)).map sdV))) q3c (.lst ((((L1++((src ts n).map fun m=>((m,false):Sd)))++((fol bs n).map fun m=>((m,true):Sd)))++(src bs n).map fun m=>((m,true):Sd)).map sdV))=H4 at *
     exact key2 q3c _ H4 hq3H s4 e4 (by
      intro z
      rw[if_pos cd]
      unfold bwd
      rw[List.map_append]
      simp only[List.mem_append]
      exact or4) (by simp only[List.length_append,List.length_map];omega)
  walk_at "r"
  refine⟨aH,?_⟩
  rw[aR]
  by_cases hg:n∈G
  ·exact au (by simp[hg]) (key f0 [] H0 hf0 s0 e0 (by rw[if_pos hg]))
  refine aJ (by simp[hg]) ?_
  show ∀acc,H0 acc=none->_
  intro q hq
  refine aC (fun y=>PV.tup [g1 y,.bl true]) (at0 n) (fun σ=>∃z z2,σ=[z,z2,some (.int n)]) (by rw[List.length_map];omega) (fun _=>trivial) ?_ ?_ ⟨_,_,rfl⟩
  ·rintro y hy l σ R' ⟨z,z2,rfl⟩ hl kT kF
   obtain⟨p,hp,rfl⟩:=List.mem_map.mp hy
   have e:at0 n (prV p)=decide (p.1=n):=rfl
   rw[e]at kT kF
   unfold prV at *
   walk_at "r"
   refine bA (fun q=>?_) (fun q=>?_)
   ·exact⟨aj (by decide),hl,by rw[aG];exact kT (by simpa using q) _ ⟨_,_,rfl⟩⟩
   ·exact kF (by simpa using q) _ ⟨_,_,rfl⟩
  rw[me]
  exact key q _ _ (s0.free hq) (s0.put (s0.free hq)) ak (by rw[if_neg hg])
 ·exact h.elim
theorem BE(T:Tx K mg t):aN P w K mg base CX0 2 t.a_zB t.d_zB ["_law_drawn","_law_ones","_law_given"] dF:=by
 refine okU (k:=1) T.F_zB jw (fun vs H Q E h=>by
  unfold dF at h
  split at h
  ·rfl
  ·exact h.elim) (fun cdv A outer s H E B hr=>⟨_,(af (aK (i:=3) jw.nd rfl (by walk_at "o") (az (xk T) (hr.mono (by decide)) rfl T.g_zO T.F_zO.kp T.B_zO (aa (qv 0) (aa (qv 2) ae))))
  (af (bx (i:=4) jw.nd rfl (by walk_at "o") (N2:=["_law_name"]) (nt:=1) (js:=[]) (ck (sc:=ao ue)) rfl (aM (qv 1)) (fun s0 H0 fp ps=>⟨(av (i:=0) (show List.Nodup (["_law_name"]:List Str) by decide +kernel) rfl (by walk_at "o")),bg,(aY (aa (qv 0) (aa bw ae)))⟩))
  (af (aK (i:=5) jw.nd rfl (by walk_at "o") ah)
  (af (eQ PassesOwn.never (ax fg fh (qv 5) (aA aD ba rfl T.b_len PySem.boot_len (aa (qv 4) ae)) (aI _))
  (af (bL PassesOwn.never rfl (aM (az (zC T) (hr.mono (by decide)) rfl T.g_zn T.F_zn.kp T.B_zn (aa (qv 0) (aa (aw (qv 4) (qv 5) (fun _ _=>rfl)) (aa (qv 2) (aa (qv 3) ae)))))) (av (i:=6) jw.nd rfl (by walk_at "o"))
   (aq (aO (ax (aQ hr.units) a0 (qv 6) (qv 4) (by with_unfolding_all rfl))
    (aq (aT (cz PySem.F.slot_list_append PySem.F.type_list_append bT b8 (qv 4) (aa (qv 6) ae))))
    aF)))
   (aq (aK (i:=5) jw.nd rfl (by walk_at "o") (cM (qv 5) ah)))))
  (aq (aB (qv 4))))))),?_⟩)
 intro vs H Q E h
 unfold dF at h
 split at h
 ·rename_i l m n
  obtain⟨c,ts,bs,O,G,e,rfl,rfl,ok,hO,hG,h⟩:=h
  unfold shp at e
  injection e with e
  subst e
  have o6:=hO.len ok.c6
  refine ai fun R hR=>?_
  walk_at "r"
  refine⟨c,ts,bs,G,rfl,rfl,ok,hG,fun a H1 F A ha s1 ea an iff=>?_⟩
  subst hR
  refine ai fun R hR=>?_
  walk_at "r"
  show ∀acc,H1 acc=none->_
  intro f hf
  refine aC (fun y=>PV.tup [y,.bl false]) (fun _=>true) (fun σ=>∃z,σ=[z]) (by rw[List.length_map];omega) (fun _=>trivial) ?_ ?_ ⟨_,rfl⟩
  ·rintro y hy l σ R' ⟨z,rfl⟩ hl kT kF
   obtain⟨k,hk,rfl⟩:=List.mem_map.mp hy
   walk_at "r"
   exact⟨aj (by decide),hl,by rw[aG];exact kT rfl _ ⟨_,rfl⟩⟩
  rw[eM]
  have s2:=(Sub.refl H1).put (o:=.lst ((O.map fun m=>((m,false):Sd)).map sdV)) hf
  have e2:put H1 f (.lst ((O.map fun m=>((m,false):Sd)).map sdV)) f=some (.lst ((rY O).map sdV)):=ak
  generalize put H1 f (.lst ((O.map fun m=>((m,false):Sd)).map sdV))=H2 at *
  subst hR
  refine ai fun R hR=>?_
  walk_at "r"
  subst hR
  refine ai fun R hR=>?_
  refine d7 fun Rb hRb=>?_
  have ri0:RI ts bs G A O (rY O) 0:=by
   refine⟨?_,fun s hs=>?_,fun x hx=>List.mem_map.mpr ⟨x,hx,rfl⟩,fun s hs=>(by cases hs)⟩
   ·unfold rY
    rw[List.nodup_iff_pairwise_ne,List.pairwise_map]
    exact hO.up.imp fun h e=>by cases e;omega
   ·obtain⟨y,hy,rfl⟩:=List.mem_map.mp hs
    exact .base hy
  have len:∀{L:List Sd} {k:Nat},RI ts bs G A O L k->L.length≤12:=fun r=>iK ok.c6 r.nd fun s hs=>ig ok.gt ok.gb hO.lo (r.rl s hs)
  refine dM (fun m σ H3=>∃z,∃L:List Sd,∃k:Nat,σ=[some (.tup [.int c,.tup (ts.map prV),.tup (bs.map prV)]),some (.tup (O.map PV.int)),some (.tup (G.map PV.int)),some (.ref a),some (.ref f),some (.int (k:Nat)),z]/\U.Sub H1 H3/\H3 f=some (.lst (L.map sdV))/\RI ts bs G A O L k/\k≤L.length/\m=12 - k) _ ⟨none,_,0,rfl,s2,e2,ri0,by omega,rfl⟩ ?_
  rintro m σ H3 ⟨z,L,k,rfl,s3,e3,ri,hk,rfl⟩
  have l12:=len ri
  walk_at "r"
  refine⟨_,e3,?_⟩
  by_cases hlt:k<L.length
  ·refine aJ (by rw[List.length_map];simpa using hlt) (um fun N bk hN=>?_)
   subst hRb
   refine ai fun R' hR'=>?_
   walk_at "r"
   refine⟨_,e3,?_⟩
   have eat:atI (L.map sdV) ((k:Nat):Int)=some (sdV L[k]):=by rw[cP (by rw[List.length_map];exact hlt),List.getElem_map]
   rw[eat]
   have hLk:L[k]∈L:=List.getElem_mem hlt
   have ek:L.take (k+1)=L.take k++[L[k]]:=by rw[List.take_succ,List.getElem?_eq_getElem hlt];rfl
   generalize hst:L[k]=st at *
   have rst:=ri.rl st hLk
   unfold sdV
   walk_at "r"
   refine⟨c,ts,bs,G,F,A,rfl,rfl,ok,s3 _ _ ea,iff,fun r H4 L2 hr s4 er hz hl=>⟨_,er,?_⟩⟩
   have nrf:r≠f:=(ay e3 hr).symm
   refine bN (fun j σ H5=>∃z,∃M:List Sd,σ=[some (.tup [.int c,.tup (ts.map prV),.tup (bs.map prV)]),some (.tup (O.map PV.int)),some (.tup (G.map PV.int)),some (.ref a),some (.ref f),some (.int (k:Nat)),z]/\U.Sub H1 H5/\H5 r=some (.lst (L2.map sdV))/\H5 f=some (.lst (M.map sdV))/\RI ts bs G A O M k/\(∃M2,M=L++M2)/\∀y∈L2.take j,y∈M) ?_ ?_ ⟨_,L,rfl,s3.trans s4,er,s4 _ _ e3,ri,⟨[],by simp⟩,fun y hy=>(by simp at hy)⟩
   ·rintro σ H5 ⟨z,M,rfl,s5,er5,ef5,ri5,⟨M2,rfl⟩,hin⟩
    refine⟨er5,?_⟩
    rw[List.length_map,List.take_length]at hin
    subst hR'
    walk_at "r"
    refine hN _ _ ⟨12 - (k+1),by omega,_,L++M2,k+1,rfl,s5,ef5,⟨ri5.nd,ri5.rl,ri5.st,?_⟩,by rw[List.length_append];omega,rfl⟩
    rw[List.take_append_of_le_length (by omega),ek]
    intro s hs y hy
    rcases List.mem_append.mp hs with q | q
    ·exact ri5.sh s (by rw[List.take_append_of_le_length (by omega)];exact q) y hy
    ·rw[List.mem_singleton.mp q]at hy
     exact hin y ((hz y).mpr hy)
   ·rintro N' j y σ H5 hy ⟨z,M,rfl,s5,er5,ef5,ri5,⟨M2,rfl⟩,hin⟩ kk
    refine⟨er5,?_⟩
    rw[List.getElem?_map]at hy
    obtain⟨s',hs',rfl⟩:=Option.map_eq_some_iff.mp hy
    have ej:L2.take (j+1)=L2.take j++[s']:=by rw[List.take_succ,hs'];rfl
    have m12:=len ri5
    unfold sdV
    walk_at "r"
    refine⟨_,ef5,gZ,?_⟩
    have ea5:=jY (L:=L++M2) (n:=s'.1) (b:=s'.2)
    unfold sdV at ea5
    unfold sdV
    rw[ea5]
    by_cases hm:(s'.1,s'.2)∈L++M2
    ·refine au (by simp[hm]) (kk _ _ ⟨_,L++M2,rfl,s5,er5,ef5,ri5,⟨M2,rfl⟩,fun y hy=>?_⟩)
     rw[ej]at hy
     rcases List.mem_append.mp hy with q | q
     ·exact hin y q
     ·rw[List.mem_singleton.mp q];exact hm
    ·refine aJ (by simp[hm]) ⟨⟨_,ef5⟩,_,ef5,bE (by rw[List.length_map];omega),?_⟩
     have hb:s'∈bes ts bs G A (st.1,st.2):=(hz s').mp (List.mem_of_getElem? hs')
     refine kk _ _ ⟨_,L++M2++[s'],rfl,s5.put hf,(ar nrf).trans er5,by rw[ak,List.map_append (l₁:=L++M2) (l₂:=[s'])];rfl,⟨?_,fun s hs=>?_,fun x hx=>List.mem_append_left _ (ri5.st x hx),fun s hs y hy=>?_⟩,⟨M2++[s'],by simp⟩,fun y hy=>?_⟩
     ·exact List.nodup_append.mpr ⟨ri5.nd,by simp,fun x hx y hy e=>hm (by rw[List.mem_singleton.mp hy]at e;rw[←e];exact hx)⟩
     ·rcases List.mem_append.mp hs with q | q
      ·exact ri5.rl s q
      ·rw[List.mem_singleton.mp q];exact mH rst hb
     ·rw[List.take_append_of_le_length (by rw[List.length_append];omega)]at hs
      exact List.mem_append_left _ (ri5.sh s hs y hy)
     ·rw[ej]at hy
      rcases List.mem_append.mp hy with q | q
      ·exact List.mem_append_left _ (hin y q)
      ·exact List.mem_append_right _ q
  ·refine au (by rw[List.length_map];simpa using hlt) ?_
   subst hR
   walk_at "r"
   exact⟨H3,Sub.refl _,h f H3 A L (s1.trans s3) an e3 l12 (ri.iff (by omega))⟩
 ·exact h.elim
theorem Cs(T:Tx K mg t):aN P w K mg base CX0 3 t.a_zT t.d_zT ["_law_drawn","_law_ones","_law_others","_law_given"] fU:=by
 refine okU (k:=2) T.F_zT AY (fun vs H Q E h=>by
  unfold fU at h
  split at h
  ·rfl
  ·exact h.elim) (fun cdv A outer s H E B hr=>⟨_,(aq (aB (b4 (bh hr.units) aX (aA aD ba rfl T.b_len PySem.boot_len (aa (bf (N2:=["_law_name","_law_pointed","_law_others"]) (nt:=2) (js:=[2]) (ck (sc:=ao sk)) rfl (aM (az (BE T) (hr.mono (by decide)) rfl T.g_zB T.F_zB.kp T.B_zB (aa (qv 0) (aa (qv 1) (aa (qv 3) ae))))) (fun s0 H0 fp ps=>⟨(cJ (n:=2) rfl (aS (av (i:=0) (show List.Nodup (["_law_name","_law_pointed","_law_others"]:List Str) by decide +kernel) rfl (by walk_at "o")) (aS (av (i:=1) (show List.Nodup (["_law_name","_law_pointed","_law_others"]:List Str) by decide +kernel) rfl (by walk_at "o")) bY))),(bj (ax (bS hr.units) a0 (qv 0) (qv 2) (by with_unfolding_all rfl))),ah⟩)) ae)) ah (aI _)))),?_⟩)
 intro vs H Q E h
 unfold fU at h
 split at h
 ·rename_i l m k n
  obtain⟨c,ts,bs,O,B,G,e,rfl,rfl,rfl,ok,hO,hG,h⟩:=h
  unfold shp at e
  injection e with e
  subst e
  walk_at "r"
  refine⟨c,ts,bs,O,G,rfl,rfl,rfl,ok,hO,hG,fun r H1 A L s1 an er l12 iff=>⟨_,er,?_⟩⟩
  show ∀acc,H1 acc=none->_
  intro acc hacc
  have na:=ay er hacc
  refine aC (fun _=>.int 1) (inB B) (fun σ=>∃z z2,σ=[z,z2,some (.tup (B.map PV.int))]) (by rw[List.length_map];omega) (fun _=>(ar na).trans er) ?_ ?_ ⟨_,_,rfl⟩
  ·rintro y hy l σ R' ⟨z,z2,rfl⟩ hl kT kF
   obtain⟨p,hp,rfl⟩:=List.mem_map.mp hy
   have e:inB B (sdV p)=decide (p.1∈B):=rfl
   rw[e]at kT kF
   unfold sdV at *
   walk_at "r"
   refine⟨aH,?_⟩
   rw[aR]
   exact bA (fun q=>⟨hl,by rw[aG];exact kT q _ ⟨_,_,rfl⟩⟩) (fun q=>kF q _ ⟨_,_,rfl⟩)
  walk_at "r"
  refine⟨H,s1.put (s1.free hacc),h _ A an ?_⟩
  rw[List.length_map,beq_iff_eq]
  constructor
  ·intro z x p hx hb
   have:(L.map sdV).filter (inB B)=[]:=List.length_eq_zero_iff.mp (by omega)
   rw[List.filter_eq_nil_iff]at this
   exact this (sdV (x,p)) (List.mem_map.mpr ⟨_,(iff (x,p)).mpr hx,rfl⟩) (decide_eq_true hb)
  ·intro z
   have:(L.map sdV).filter (inB B)=[]:=by
    rw[List.filter_eq_nil_iff]
    intro y hy
    obtain⟨p,hp,rfl⟩:=List.mem_map.mp hy
    have:=z p.1 p.2 ((iff p).mp hp)
    show ¬decide (p.1∈B)=true
    simpa using this
   rw[this];rfl
 ·exact h.elim
theorem Cb(T:Tx K mg t):aN P w K mg base CX0 2 t.a_zC t.d_zC ["_law_drawn","_law_ones","_law_others","_law_given","_law_standings"] eZ:=by
 refine okU (k:=1) T.F_zC mW (fun vs H Q E h=>by
  unfold eZ at h
  split at h
  ·rfl
  ·exact h.elim) (fun cdv A outer s H E B hr=>⟨_,(af (aO (bz (aW (aA (bD .list) (cp .list) rfl T.b_isinstance boot_isinstance (aa (qv 4) (aa (cj rfl T.b_list boot_list) ae)))))
  (aq (aB bw))
  aF)
  (af (aK (i:=5) mW.nd rfl (by walk_at "o") (az (xk T) (hr.mono (by decide)) rfl T.g_zO T.F_zO.kp T.B_zO (aa (qv 0) (aa (qv 3) ae))))
  (af (bL PassesOwn.never rfl (aM (qv 4)) (av (i:=6) mW.nd rfl (by walk_at "o"))
  (af (aO (aU (bJ (bz (aW (aA (bD .tuple) (cp .tuple) rfl T.b_isinstance boot_isinstance (aa (qv 6) (aa (cj rfl T.b_tuple boot_tuple) ae))))) (bJ (ax (bZ hr.units) aX (aA aD ba rfl T.b_len PySem.boot_len (aa (qv 6) ae)) ah (aI _)) (bK (bz (aW (aA (bD .bool) (cp .bool) rfl T.b_isinstance boot_isinstance (aa (aw (qv 6) ah (fun _ _=>rfl)) (aa (cj rfl T.b_bool boot_bool) ae)))))))))
   (aq (aB bw))
   aF)
   (af (aO (aU (bJ (bz (aW (az (xb T) (hr.mono (by decide)) rfl T.g_zJ T.F_zJ.kp T.B_zJ (aa (aw (qv 6) ah (fun _ _=>rfl)) ae)))) (bJ (ax fg fh (aw (qv 6) ah (fun _ _=>rfl)) ah (aI _)) (bJ (ax m9 nP (aw (qv 6) ah (fun _ _=>rfl)) (aw (qv 0) ah (fun _ _=>rfl)) (aI _)) (bK (ax (bS hr.units) a0 (aw (qv 6) ah (fun _ _=>rfl)) (qv 2) (by with_unfolding_all rfl)))))))
   (aq (aB bw))
   aF)
   (aq (bL PassesOwn.never rfl (aM (az (zC T) (hr.mono (by decide)) rfl T.g_zn T.F_zn.kp T.B_zn (aa (qv 0) (aa (qv 6) (aa (qv 3) (aa (qv 5) ae)))))) (av (i:=7) mW.nd rfl (by walk_at "o"))
   (aq (aO (ax (aQ hr.units) a0 (qv 7) (qv 4) (by with_unfolding_all rfl))
    (aq (aB bw))
    aF)))))))
  (aq (aB (b4 (bh hr.units) aX (aA aD ba rfl T.b_len PySem.boot_len (aa (bf (N2:=["_law_name","_law_standings"]) (nt:=1) (js:=[4]) (ck (sc:=ao uU)) rfl (aM (qv 1)) (fun s0 H0 fp ps=>⟨(av (i:=0) (show List.Nodup (["_law_name","_law_standings"]:List Str) by decide +kernel) rfl (by walk_at "o")),(bj (ax (aQ hr.units) a0 (aY (aa (qv 0) (aa bw ae))) (qv 1) (by with_unfolding_all rfl))),(qv 0)⟩)) ae)) ah (aI _))))))),?_⟩)
 intro vs H Q E h
 unfold eZ at h
 split at h
 ·rename_i l m k n a
  obtain⟨c,ts,bs,O,B,G,N,L,e,rfl,rfl,rfl,ok,hO,hG,ha,tl,h⟩:=h
  unfold shp at e
  injection e with e
  subst e
  have o6:=hO.len ok.c6
  have l12:=iK ok.c6 tl.nd fun s hs=>ig ok.gt ok.gb hO.lo ((tl.iff s).mp hs)
  refine ai fun R hR=>?_
  walk_at "r"
  refine⟨_,ha,?_⟩
  repeat refine au rfl ?_
  subst hR
  refine ai fun R hR=>?_
  walk_at "r"
  refine⟨c,ts,bs,G,rfl,rfl,ok,hG,fun f H1 F A hf s1 ef an iff=>?_⟩
  have eA:=tl.an.one an
  subst eA
  subst hR
  refine ai fun R hR=>?_
  walk_at "r"
  refine⟨_,s1 _ _ ha,?_⟩
  refine bN (fun i σ H2=>∃z1 z2,σ=[some (.tup [.int c,.tup (ts.map prV),.tup (bs.map prV)]),some (.tup (O.map PV.int)),some (.tup (B.map PV.int)),some (.tup (G.map PV.int)),some (.ref a),some (.ref f),z1,z2]/\U.Sub H1 H2) ?_ ?_ ⟨none,none,rfl,Sub.refl _⟩
  ·rintro σ H2 ⟨z1,z2,rfl,s2⟩
   have ha2:=s2 _ _ (s1 _ _ ha)
   refine⟨ha2,?_⟩
   subst hR
   walk_at "r"
   intro acc hacc
   refine aC (fun y=>y) (fun _=>false) (fun σ=>∃z,σ=[z,some (.ref a)]) (by rw[List.length_map];omega) (fun _=>trivial) ?_ ?_ ⟨_,rfl⟩
   ·rintro y hy l σ R' ⟨z,rfl⟩ hl kT kF
    obtain⟨x,hx,rfl⟩:=List.mem_map.mp hy
    walk_at "r"
    refine⟨aj (by decide),_,(ar (ay ha2 hacc)).trans ha2,gZ,?_⟩
    rw[jY]
    exact au (by simpa using(tl.iff (x,false)).mpr (.base hx)) (kF rfl _ ⟨_,rfl⟩)
   walk_at "r"
   have e0:((O.map PV.int).filter fun _=>false)=[]:=List.filter_eq_nil_iff.mpr fun _ _=>by simp
   rw[e0]
   exact⟨H,(s1.trans s2).put ((s1.trans s2).free hacc),h⟩
  ·rintro N' i y σ H2 hy ⟨z1,z2,rfl,s2⟩ kk
   have ha2:=s2 _ _ (s1 _ _ ha)
   refine⟨ha2,?_⟩
   rw[List.getElem?_map]at hy
   obtain⟨st,hst,rfl⟩:=Option.map_eq_some_iff.mp hy
   have hm:=List.mem_of_getElem? hst
   have rst:=(tl.iff st).mp hm
   have lo:=ig ok.gt ok.gb hO.lo rst
   have nb:=tl.no st hm
   refine ai fun R' hR'=>?_
   unfold sdV
   walk_at "r"
   repeat refine au rfl ?_
   subst hR'
   refine ai fun R' hR'=>?_
   walk_at "r"
   refine au (by simpa using lo.1) (au (by simpa using lo.2) ⟨aH,?_⟩)
   rw[aR]
   refine au (by simpa using nb) ?_
   subst hR'
   walk_at "r"
   refine⟨c,ts,bs,G,F,N,rfl,rfl,ok,s2 _ _ ef,iff,fun r H3 L2 hr s3 er hz hl=>⟨_,er,?_⟩⟩
   have ha3:=s3 _ _ ha2
   refine bN (fun j σ H4=>∃z2,σ=[some (.tup [.int c,.tup (ts.map prV),.tup (bs.map prV)]),some (.tup (O.map PV.int)),some (.tup (B.map PV.int)),some (.tup (G.map PV.int)),some (.ref a),some (.ref f),some (.tup [.int st.1,.bl st.2]),z2]/\H4=H3) ?_ ?_ ⟨_,rfl,rfl⟩
   ·rintro σ H4 ⟨z2,rfl,rfl⟩
    exact⟨er,kk _ _ ⟨_,_,rfl,s2.trans s3⟩⟩
   ·rintro N2 j y σ H4 hy ⟨z2,rfl,rfl⟩ kk2
    refine⟨er,?_⟩
    rw[List.getElem?_map]at hy
    obtain⟨s',hs',rfl⟩:=Option.map_eq_some_iff.mp hy
    have hin:s'∈L:=(tl.iff s').mpr (mH rst ((hz s').mp (List.mem_of_getElem? hs')))
    unfold sdV
    walk_at "r"
    refine⟨_,ha3,gZ,?_⟩
    rw[jY]
    exact au (by simpa using hin) (kk2 _ _ ⟨_,rfl,rfl⟩)
 ·exact h.elim
theorem DJ(T:Tx K mg t):aN P w K mg base CX0 2 t.a_zA t.d_zA ["_law_drawn","_law_step"] eV:=by
 refine okU (k:=1) T.F_zA Bg (fun vs H Q E h=>by
  unfold eV at h
  split at h
  ·rfl
  ·exact h.elim) (fun cdv A outer s H E B hr=>⟨_,(af (aO (aU (bJ (bz (aW (aA (bD .tuple) (cp .tuple) rfl T.b_isinstance boot_isinstance (aa (qv 1) (aa (cj rfl T.b_tuple boot_tuple) ae))))) (bK (ax (bZ hr.units) aX (aA aD ba rfl T.b_len PySem.boot_len (aa (qv 1) ae)) ah (aI _)))))
  (aq (aB bw))
  aF)
  (af (aO (aU (bJ (bz (aW (az (xb T) (hr.mono (by decide)) rfl T.g_zJ T.F_zJ.kp T.B_zJ (aa (aw (qv 1) ah (fun _ _=>rfl)) ae)))) (bJ (bz (aW (az (xb T) (hr.mono (by decide)) rfl T.g_zJ T.F_zJ.kp T.B_zJ (aa (aw (qv 1) ah (fun _ _=>rfl)) ae)))) (bK (bz (aW (aA (bD .str) (cp .str) rfl T.b_isinstance boot_isinstance (aa (aw (qv 1) ah (fun _ _=>rfl)) (aa (cj rfl T.b_str boot_str) ae)))))))))
  (aq (aB bw))
  aF)
  (af (aO (ax (bh hr.units) aX (aw (qv 1) ah (fun _ _=>rfl)) c9 (aI _))
  (aq (aB (b4 (bS hr.units) a0 (aY (aa (aw (qv 1) ah (fun _ _=>rfl)) (aa (aw (qv 1) ah (fun _ _=>rfl)) ae))) (aw (qv 0) ah (fun _ _=>rfl)) (by with_unfolding_all rfl))))
  aF)
  (af (aO (ax (bh hr.units) aX (aw (qv 1) ah (fun _ _=>rfl)) c9 (aI _))
  (aq (aB (b4 (bS hr.units) a0 (aY (aa (aw (qv 1) ah (fun _ _=>rfl)) (aa (aw (qv 1) ah (fun _ _=>rfl)) ae))) (aw (qv 0) ah (fun _ _=>rfl)) (by with_unfolding_all rfl))))
  aF)
  (aq (aB (gu (b4 (bh hr.units) aX (aw (qv 1) ah (fun _ _=>rfl)) c9 (aI _)) (gc (b4 (bS hr.units) a0 (aY (aa (aA (oC rfl) yQ rfl T.b_min boot_min (aa (aw (qv 1) ah (fun _ _=>rfl)) (aa (aw (qv 1) ah (fun _ _=>rfl)) ae))) (aa (aA (oe rfl) yL rfl T.b_max boot_max (aa (aw (qv 1) ah (fun _ _=>rfl)) (aa (aw (qv 1) ah (fun _ _=>rfl)) ae))) ae))) (aw (qv 0) ah (fun _ _=>rfl)) (by with_unfolding_all rfl)))))))))),?_⟩)
 intro vs H Q E h
 unfold eV at h
 split at h
 ·rename_i l a k b
  obtain⟨c,ts,bs,e,ok,h⟩:=h
  unfold shp at e
  injection e with e
  subst e
  have fin:∀z:Bool,(z=true↔EdG ts bs (a,k,b))->∃H3,U.Sub H3 H/\Q (.bl z) H3:=fun z q=>⟨H,Sub.refl _,h z q⟩
  unfold EdG at fin
  simp only at fin
  refine ai fun R hR=>?_
  walk_at "r"
  repeat refine au rfl ?_
  subst hR
  refine ai fun R hR=>?_
  walk_at "r"
  repeat refine au rfl ?_
  subst hR
  refine ai fun R hR=>?_
  walk_at "r"
  by_cases k1:k="down"
  ·subst k1
   refine aJ (by simp) ⟨aj (by decide),gO,?_⟩
   rw[jU]
   exact fin _ (by simp[vp,vg,vS,vE])
  refine au (by simpa using k1) ?_
  subst hR
  refine ai fun R hR=>?_
  walk_at "r"
  by_cases k2:k="up"
  ·subst k2
   refine aJ (by simp) ⟨aj (by decide),gO,?_⟩
   rw[jU]
   exact fin _ (by simp[vp,vg,vS,vE])
  refine au (by simpa using k2) ?_
  subst hR
  walk_at "r"
  by_cases k3:k="bow"
  ·subst k3
   refine aJ (by simp) ⟨aj (by decide),gO,?_⟩
   rw[jU]
   exact fin _ (by rw[decide_eq_true_eq,wJ ok.gb];simp[AB,A0])
  ·refine au (by simpa using k3) (fin _ (by simp[k1,k2,k3]))
 ·exact h.elim
theorem CZ(T:Tx K mg t):aN P w K mg base CX0 1 t.a_zF t.d_zF ["_law_drawn","_law_name","_law_way","_law_given"] gT:=by
 refine okU (k:=0) T.F_zF vA (fun vs H Q E h=>by
  unfold gT at h
  split at h
  ·rfl
  ·exact h.elim) (fun cdv A outer s H E B hr=>⟨_,(af (aO (aU (bJ (bz (aW (aA (bD .list) (cp .list) rfl T.b_isinstance boot_isinstance (aa (qv 2) (aa (cj rfl T.b_list boot_list) ae))))) (bJ (ax (bh hr.units) aX (aA aD ba rfl T.b_len PySem.boot_len (aa (qv 2) ae)) ah (aI _)) (bJ (ax (bZ hr.units) aX (aw (qv 2) ah (fun _ _=>rfl)) (qv 1) (aI _)) (bK (ax (aQ hr.units) a0 (aw (qv 2) (b7 ah) (fun _ _=>rfl)) (qv 3) (by with_unfolding_all rfl)))))))
  (aq (aB bw))
  aF)
  (af (bL PassesOwn.never rfl (dm rfl T.b_range (aa (rV (aA aD ba rfl T.b_len PySem.boot_len (aa (qv 2) ae)) ah) ae)) (av (i:=4) vA.nd rfl (by walk_at "o"))
  (aq (aO (aU (bJ (ax (bS hr.units) a0 (aw (qv 2) (qv 4) (fun _ _=>rfl)) (qv 3) (by with_unfolding_all rfl)) (bK (ax (aQ hr.units) a0 (aY (aa (aw (qv 2) (qv 4) (fun _ _=>rfl)) (aa (aw (qv 2) (cM (qv 4) ah) (fun _ _=>rfl)) ae))) (aw (qv 0) ah (fun _ _=>rfl)) (by with_unfolding_all rfl)))))
   (aq (aB bw))
   aF)))
  (aq (aB bw)))),?_⟩)
 intro vs H Q E h
 unfold gT at h
 split at h
 ·rename_i l m a n
  obtain⟨c,ts,bs,G,w,e,rfl,ha,hl,wy,h⟩:=h
  unfold shp at e
  injection e with e
  subst e
  have ne:w≠[]:=fun e=>by have:=wy.hd;rw[e]at this;cases this
  have w0:atI (w.map PV.int) 0=some (.int m):=by
   have h1:=wy.hd
   cases w with
   | nil=>exact absurd rfl ne
   | cons x w =>
    have:x=m:=by simpa using h1
    subst this
    exact cP (l:=PV.int x::w.map PV.int) (i:=0) (by simp)
  obtain⟨l1,l2⟩:=jo ne
  have lg:lsI w∈G:=by
   obtain⟨e,he,hg⟩:=wy.la
   rw[l1]at he
   rw[Option.some.inj he];exact hg
  refine ai fun R hR=>?_
  walk_at "r"
  refine⟨_,ha,_,ha,?_⟩
  repeat refine au (by simpa using ne) ?_
  refine⟨_,ha,?_⟩
  rw[w0]
  walk_at "r"
  refine au (by simp) ⟨_,ha,?_⟩
  rw[mT ne]
  walk_at "r"
  refine⟨aH,?_⟩
  rw[aR]
  refine au (by simpa using lg) ?_
  subst hR
  refine ai fun R hR=>?_
  walk_at "r"
  refine⟨_,ha,⟨by rw[List.length_map];omega,by rw[List.length_map];omega⟩,?_⟩
  rw[List.length_map]
  refine fD (fun i σ H2=>∃z,σ=[some (.tup [.int c,.tup (ts.map prV),.tup (bs.map prV)]),some (.int m),some (.ref a),some (.tup (G.map PV.int)),z]/\H2=H) ?_ ?_ ⟨none,rfl,rfl⟩
  ·rintro σ H2 ⟨z,rfl,rfl⟩
   refine⟨trivial,?_⟩
   subst hR
   walk_at "r"
   exact⟨H2,Sub.refl _,h⟩
  ·rintro N i σ H2 hi ⟨z,rfl,rfl⟩ kk
   refine⟨trivial,?_⟩
   have h1:i+1<w.length:=by omega
   have a1:atI (w.map PV.int) ((i:Nat):Int)=some (.int w[i]):=by rw[cP (by rw[List.length_map];omega),List.getElem_map]
   have a2:atI (w.map PV.int) (((i:Nat):Int)+1)=some (.int w[i+1]):=by
    have:=cP (l:=w.map PV.int) (i:=i+1) (by rw[List.length_map];omega)
    rw[List.getElem_map]at this
    exact this
   have ng:w[i]∉G:=wy.lo _ (by rw[List.dropLast_eq_take];exact List.mem_take_iff_getElem.mpr ⟨i,by omega,rfl⟩)
   have tie:(w[i],w[i+1])∈ts:=My.jM wy.ch (List.getElem?_eq_getElem (by omega)) (List.getElem?_eq_getElem h1)
   walk_at "r"
   refine⟨_,ha,?_⟩
   rw[a1]
   walk_at "r"
   refine⟨aH,?_⟩
   rw[aR]
   refine au (by simpa using ng) ⟨_,ha,?_⟩
   rw[a1]
   walk_at "r"
   refine⟨_,ha,?_⟩
   rw[a2]
   walk_at "r"
   refine⟨aj (by decide),gO,?_⟩
   rw[jU]
   exact au (by simpa using tie) (kk _ _ ⟨_,rfl,rfl⟩)
 ·exact h.elim
theorem DD(T:Tx K mg t):aN P w K mg base CX0 3 t.a_zx t.d_zx ["_law_drawn","_law_ones","_law_others","_law_given","_law_road","_law_ways"] fy:=by
 refine okU (k:=2) T.F_zx kJ (fun vs H Q E h=>by
  unfold fy at h
  split at h
  ·rfl
  ·exact h.elim) (fun cdv A outer s H E B hr=>⟨_,(af (aO (aU (bJ (bz (aW (aA (bD .list) (cp .list) rfl T.b_isinstance boot_isinstance (aa (qv 4) (aa (cj rfl T.b_list boot_list) ae))))) (bJ (ax (bh hr.units) aX (aA aD ba rfl T.b_len PySem.boot_len (aa (qv 4) ae)) ah (aI _)) (bK (bz (aW (aA (ia rfl) ma rfl T.b_all boot_all (aa (bf (N2:=["_law_step","_law_drawn"]) (nt:=1) (js:=[0]) (ck (sc:=ao oX)) rfl (aM (qv 4)) (fun s0 H0 fp ps=>⟨(av (i:=0) (show List.Nodup (["_law_step","_law_drawn"]:List Str) by decide +kernel) rfl (by walk_at "o")),bg,(az (DJ T) (hr.mono (by decide)) rfl T.g_zA T.F_zA.kp T.B_zA (aa (qv 1) (aa (qv 0) ae)))⟩)) ae))))))))
  (aq (aB bw))
  aF)
  (af (aK (i:=6) kJ.nd rfl (by walk_at "o") (cK (bG (aa (aw (aw (qv 4) ah (fun _ _=>rfl)) ah (fun _ _=>rfl)) ae)) (bf (N2:=["_law_step"]) (nt:=1) (js:=[]) (ck (sc:=ao oX)) rfl (aM (qv 4)) (fun s0 H0 fp ps=>⟨(av (i:=0) (show List.Nodup (["_law_step"]:List Str) by decide +kernel) rfl (by walk_at "o")),bg,(aw (qv 0) ah (fun _ _=>rfl))⟩))))
  (af (aO (aU (bJ (ax (bZ hr.units) aX (gC rfl rfl T.b_len rfl T.b_set boot_set (qv 6)) (aA aD ba rfl T.b_len PySem.boot_len (aa (qv 6) ae)) (aI _)) (bJ (ax (aQ hr.units) a0 (aw (qv 6) ah (fun _ _=>rfl)) (qv 1) (by with_unfolding_all rfl)) (bK (ax (aQ hr.units) a0 (aw (qv 6) (b7 ah) (fun _ _=>rfl)) (qv 2) (by with_unfolding_all rfl))))))
  (aq (aB bw))
  aF)
  (af (aK (i:=7) kJ.nd rfl (by walk_at "o") (bG ae))
  (af (nR PassesOwn.never rfl (l0 rfl T.b_zip (aa (qv 4) (aa (fc (qv 4) (dD ah) fN) ae))) (cJ (n:=2) rfl (aS (av (i:=8) kJ.nd rfl (by walk_at "o")) (aS (av (i:=9) kJ.nd rfl (by walk_at "o")) bY)))
  (af (aO (ax (bZ hr.units) aX (aw (qv 8) ah (fun _ _=>rfl)) (aw (qv 9) ah (fun _ _=>rfl)) (aI _))
   (aq (aB bw))
   aF)
   (aq (aO (aW (az (Dx T) (hr.mono (by decide)) rfl T.g_zL T.F_zL.kp T.B_zL (aa (qv 8) (aa (qv 9) ae))))
   (aq (aT (cz PySem.F.slot_list_append PySem.F.type_list_append bT b8 (qv 7) (aa (aw (qv 8) ah (fun _ _=>rfl)) ae))))
   (aq (aO (ax (bS hr.units) a0 (aw (qv 8) ah (fun _ _=>rfl)) (qv 3) (by with_unfolding_all rfl))
    (aq (aB bw))
    aF))))))
  (af (aO (aU (bJ (bz (aW (aA (bD .list) (cp .list) rfl T.b_isinstance boot_isinstance (aa (qv 5) (aa (cj rfl T.b_list boot_list) ae))))) (bK (ax (bZ hr.units) aX (aA aD ba rfl T.b_len PySem.boot_len (aa (qv 5) ae)) (aA aD ba rfl T.b_len PySem.boot_len (aa (qv 7) ae)) (aI _)))))
  (aq (aB bw))
  aF)
  (aq (aB (aA (ia rfl) ma rfl T.b_all boot_all (aa (kg (N2:=["_law_name","_law_way","_law_drawn","_law_given"]) (nt:=2) (js:=[0,3]) (ck (sc:=ao oX)) rfl (l0 rfl T.b_zip (aa (qv 7) (aa (qv 5) ae))) (fun s0 H0 fp ps=>⟨(cJ (n:=2) rfl (aS (av (i:=0) (show List.Nodup (["_law_name","_law_way","_law_drawn","_law_given"]:List Str) by decide +kernel) rfl (by walk_at "o")) (aS (av (i:=1) (show List.Nodup (["_law_name","_law_way","_law_drawn","_law_given"]:List Str) by decide +kernel) rfl (by walk_at "o")) bY))),bg,(az (CZ T) (hr.mono (by decide)) rfl T.g_zF T.F_zF.kp T.B_zF (aa (qv 2) (aa (qv 0) (aa (qv 1) (aa (qv 3) ae)))))⟩)) ae)))))))))),?_⟩)
 intro vs H Q E h
 unfold fy at h
 split at h
 ·rename_i l m k n a q
  obtain⟨c,ts,bs,O,B,G,N,road,us,ws,e,rfl,rfl,rfl,ok,ha,hq,ls,rod,h⟩:=h
  unfold shp at e
  injection e with e
  subst e
  have l5:=rod.l5
  have ne:=rod.op.ne
  have ed:=rod.op.rd.ed
  refine ai fun R hR=>?_
  walk_at "r"
  refine⟨_,ha,_,ha,?_⟩
  refine au (by simpa using ne) ⟨_,ha,?_⟩
  show ∀acc,H acc=none->_
  intro acc hacc
  refine aC (fun _=>.bl true) (fun _=>true) (fun σ=>∃z,σ=[z,some (.tup [.int c,.tup (ts.map prV),.tup (bs.map prV)])]) (by rw[List.length_map];omega) (fun _=>(ar (ay ha hacc)).trans ha) ?_ ?_ ⟨_,rfl⟩
  ·rintro y hy l σ R' ⟨z,rfl⟩ hl kT kF
   obtain⟨s,hs,rfl⟩:=List.mem_map.mp hy
   unfold stV
   walk_at "r"
   refine⟨c,ts,bs,rfl,ok,fun z hz=>?_⟩
   have:z=true:=hz.mpr (ed s hs)
   subst this
   exact⟨hl,by rw[aG];exact kT rfl _ ⟨_,rfl⟩⟩
  have em:((road.map stV).filter (fun _=>true)).map (fun _=>PV.bl true)=(road.map fun _=>true).map PV.bl:=by
   rw[List.filter_eq_self.mpr (fun _ _=>rfl),List.map_map,List.map_map];rfl
  rw[em]
  walk_at "r"
  refine⟨_,rfl,?_⟩
  refine au (by simp) ?_
  have s1:=(Sub.refl H).put (o:=.lst ((road.map fun _=>true).map PV.bl)) hacc
  generalize put H acc (.lst ((road.map fun _=>true).map PV.bl))=H1 at *
  have ha1:=s1 _ _ ha
  subst hR
  obtain⟨s0,t0,er⟩:∃s t,road=s::t:=by
   cases road with
   | nil=>exact absurd rfl ne
   | cons s t=>exact⟨s,t,rfl⟩
  have e0:atI (road.map stV) 0=some (stV s0):=by
   rw[er];exact cP (l:=stV s0::t0.map stV) (i:=0) (by simp)
  refine ai fun R hR=>?_
  walk_at "r"
  refine⟨_,ha1,?_⟩
  rw[e0]
  unfold stV
  walk_at "r"
  refine⟨aj (by decide),fun p1 hp1=>?_⟩
  have s2:=s1.put (o:=.lst [PV.int s0.1]) (s1.free hp1)
  have e1:put H1 p1 (.lst [PV.int s0.1]) p1=some (.lst [PV.int s0.1]):=ak
  generalize put H1 p1 (.lst [PV.int s0.1])=H2 at *
  have ha2:=s2 _ _ ha
  refine⟨_,ha2,fun acc2 hacc2=>?_⟩
  refine aC g32 (fun _=>true) (fun σ=>∃z,σ=[z]) (by rw[List.length_map];omega) (fun _=>(ar (ay ha2 hacc2)).trans ha2) ?_ ?_ ⟨_,rfl⟩
  ·rintro y hy l σ R' ⟨z,rfl⟩ hl' kT kF
   obtain⟨s,hs,rfl⟩:=List.mem_map.mp hy
   unfold stV at *
   walk_at "r"
   exact⟨hl',by rw[aG];exact kT rfl _ ⟨_,rfl⟩⟩
  rw[vH]
  walk_at "r"
  refine⟨_,_,(ar (ay e1 hacc2)).trans e1,rfl,aj (by simp;omega),fun nr hnr=>?_⟩
  have s3:=s2.put (o:=.lst ((road.map (·.2.2)).map PV.int)) (s2.free hacc2)
  have hnrH:=s3.free hnr
  have s4:=s3.put (o:=.lst ([PV.int s0.1]++(road.map (·.2.2)).map PV.int)) hnrH
  have enm:My.nm road=s0.1::road.map (·.2.2):=by rw[er];rfl
  have e4:put (put H2 acc2 (.lst ((road.map (·.2.2)).map PV.int))) nr (.lst ([PV.int s0.1]++(road.map (·.2.2)).map PV.int)) nr=some (.lst ((My.nm road).map PV.int)):=by rw[ak,enm];rfl
  generalize put (put H2 acc2 (.lst ((road.map (·.2.2)).map PV.int))) nr (.lst ([PV.int s0.1]++(road.map (·.2.2)).map PV.int))=H4 at *
  subst hR
  have nlo:=pw ok ed
  have n6:∀y∈My.nm road,0≤y/\y<6:=fun y hy=>by have:=nlo y hy;have:=ok.c6;omega
  refine ai fun R hR=>?_
  walk_at "r"
  refine⟨(My.nm road).map Int.toNat,by rw[e4,d8 n6],fun z hz=>?_,?_,_,e4,?_⟩
  ·obtain⟨y,hy,rfl⟩:=List.mem_map.mp hz
   have:=n6 y hy;omega
  ·rw[List.nodup_iff_pairwise_ne,List.pairwise_map]
   refine List.Pairwise.imp_of_mem (fun {x y} hx hy hxy=>?_) (List.nodup_iff_pairwise_ne.mp rod.op.nd)
   have h1:=n6 x hx
   have h2:=n6 y hy
   omega
  refine au (by rw[List.length_map,List.length_map];simp) ⟨_,e4,?_⟩
  have e40:atI ((My.nm road).map PV.int) 0=some (.int s0.1):=by
   rw[enm];exact cP (l:=PV.int s0.1::(road.map (·.2.2)).map PV.int) (i:=0) (by simp)
  rw[e40]
  walk_at "r"
  refine⟨aH,?_⟩
  rw[aR]
  have hs0:s0.1∈O:=by
   obtain⟨z,hz,ho⟩:=rod.op.rd.hd
   rw[er]at hz
   have:s0=z:=by simpa using hz
   rw[this];exact ho
  refine au (by simpa using hs0) ⟨_,e4,?_⟩
  rw[vv ne]
  walk_at "r"
  refine⟨aH,?_⟩
  rw[aR]
  refine au (by simpa using rod.la) ?_
  subst hR
  refine ai fun R hR=>?_
  walk_at "r"
  refine⟨aj (by decide),fun mr hmr=>?_⟩
  have s5:=s4.put (o:=.lst []) (s4.free hmr)
  have hmrH:=s4.free hmr
  have e5:put H4 mr (.lst []) mr=some (.lst []):=ak
  generalize put H4 mr (.lst [])=H5 at *
  subst hR
  refine ai fun R hR=>?_
  walk_at "r"
  have ha5:=s5 _ _ ha
  refine⟨_,ha5,fun p2 hp2=>?_⟩
  rw[kN]
  have s6:=(Sub.refl H5).put (o:=.lst (road.tail.map stV)) hp2
  have e6:put H5 p2 (.lst (road.tail.map stV)) p2=some (.lst (road.tail.map stV)):=ak
  generalize put H5 p2 (.lst (road.tail.map stV))=H6 at *
  have nmp:mr≠p2:=ay e5 hp2
  have nma:a≠mr:=ay ha hmrH
  refine⟨_,_,s6 _ _ ha5,rfl,?_⟩
  refine bN (fun i σ H7=>∃z1 z2,σ=[some (.tup [.int c,.tup (ts.map prV),.tup (bs.map prV)]),some (.tup (O.map PV.int)),some (.tup (B.map PV.int)),some (.tup (G.map PV.int)),some (.ref a),some (.ref q),some (.ref nr),some (.ref mr),z1,z2]/\(U.Sub H H7/\H7 a=some (.lst (road.map stV))/\H7 p2=some (.lst (road.tail.map stV)))/\H7 mr=some (.lst ((mts (road.take (i+1))).map PV.int))) ?_ ?_ ⟨none,none,rfl,⟨s5.trans s6,s6 _ _ ha5,e6⟩,by rw[s6 _ _ e5,er];rfl⟩
  ·rintro σ H7 ⟨z1,z2,rfl,⟨s7,a7,p7⟩,m7⟩
   refine⟨⟨a7,p7⟩,?_⟩
   have el:road.take ((cT (road.map stV) (road.tail.map stV)).length+1)=road:=by
    rw[dO]
    apply List.take_of_length_le
    rw[er];simp
   rw[el]at m7
   subst hR
   have lu:=ls.len
   have lw:=Paired.length rod.wy
   simp only[inV,List.length_map]at lu
   have ml:=g7 road
   have hq7:=s7 _ _ hq
   dsimp only
   refine ai fun R hR=>?_
   walk_at "r"
   refine⟨_,hq7,_,hq7,_,m7,?_⟩
   refine au (by rw[List.length_map];simp;omega) ?_
   subst hR
   walk_at "r"
   refine⟨_,_,m7,hq7,fun acc3 hacc3=>?_⟩
   refine aC (fun _=>.bl true) (fun _=>true) (fun σ=>∃z1 z2,σ=[z1,z2,some (.tup [.int c,.tup (ts.map prV),.tup (bs.map prV)]),some (.tup (G.map PV.int))]) (by rw[dO,List.length_map];omega) (fun _=>⟨(ar (ay m7 hacc3)).trans m7,(ar (ay hq7 hacc3)).trans hq7⟩) ?_ ?_ ⟨_,_,rfl⟩
   ·rintro y hy l σ R' ⟨z1,z2,rfl⟩ hl' kT kF
    obtain⟨i,hi⟩:=List.getElem?_of_mem hy
    obtain⟨x,v,hx,hv,rfl⟩:=di hi
    rw[List.getElem?_map]at hx
    obtain⟨mm,hmm,rfl⟩:=Option.map_eq_some_iff.mp hx
    obtain⟨w,hw,wy⟩:=pK rod.wy hmm
    obtain⟨l',r,hl2,rfl,nr2,hr2⟩:=ls.at hv
    have hl2:(ws.map fun w=>w.map PV.int)[i]?=some l':=hl2
    rw[List.getElem?_map,hw]at hl2
    have e2:w.map PV.int=l':=by simpa using hl2
    subst e2
    have w6:=rod.w6 w (List.mem_of_getElem? hw)
    have hr7:=s7 _ _ hr2
    walk_at "r"
    exact⟨c,ts,bs,G,w,rfl,rfl,(ar (ay hr7 hacc3)).trans hr7,by omega,wy,hl',by rw[aG];exact kT rfl _ ⟨_,_,rfl⟩⟩
   have em2:((cT ((mts road).map PV.int) us).filter (fun _=>true)).map (fun _=>PV.bl true)=((cT ((mts road).map PV.int) us).map fun _=>true).map PV.bl:=by
    rw[List.filter_eq_self.mpr (fun _ _=>rfl),List.map_map];rfl
   rw[em2]
   walk_at "r"
   refine⟨_,rfl,H,s7.put (s7.free hacc3),?_⟩
   have ea:(((cT ((mts road).map PV.int) us).map fun _=>true).all id)=true:=by simp
   rw[ea];exact h
  ·rintro N' i y σ H7 hy ⟨z1,z2,rfl,⟨s7,a7,p7⟩,m7⟩ kk
   refine⟨⟨a7,p7⟩,?_⟩
   obtain⟨s,s',hs,hs',rfl⟩:=wQ hy
   have lk:=My.jM rod.op.rd.ch hs hs'
   have mt:=rT hs hs'
   have il:=(List.getElem?_eq_some_iff.mp hs').1
   have ml:=g7 (road.take (i+1))
   rw[List.length_take]at ml
   unfold stV
   walk_at "r"
   refine au (by have:=lk.jn;simp;omega) ?_
   refine bA (fun q=>?_) (fun q=>?_)
   ·rw[if_pos q]at mt
    refine⟨⟨_,m7⟩,_,m7,bE (by rw[List.length_map];omega),kk _ _ ⟨_,_,rfl,⟨s7.put hmrH,(ar nma).trans a7,(ar nmp.symm).trans p7⟩,?_⟩⟩
    rw[ak,mt,List.map_append];rfl
   ·rw[if_neg (by rw[q];decide)]at mt
    have ng:s.2.2∉G:=lk.no (by
     by_cases e1:s.2.1="up"
     ·exact .inl e1
     ·exact .inr (Classical.byContradiction fun z=>by rw[eh.mpr ⟨e1,z⟩]at q;cases q))
    refine⟨aH,?_⟩
    rw[aR]
    exact au (by simpa using ng) (kk _ _ ⟨_,_,rfl,⟨s7,a7,p7⟩,by rw[mt];exact m7⟩)
 ·exact h.elim
theorem Ah(T:Tx K mg t):aN P w K mg base CX0 4 t.a_zf t.d_zf ["_law_drawn","_law_ones","_law_others","_law_given","_law_found"] fI:=by
 refine okU (k:=3) T.F_zf Bl (fun vs H Q E h=>by
  unfold fI at h
  split at h
  ·rfl
  ·exact h.elim) (fun cdv A outer s H E B hr=>⟨_,(af (aO (aU (bJ (bz (aW (aA (bD .tuple) (cp .tuple) rfl T.b_isinstance boot_isinstance (aa (qv 4) (aa (cj rfl T.b_tuple boot_tuple) ae))))) (bJ (ax (bZ hr.units) aX (aA aD ba rfl T.b_len PySem.boot_len (aa (qv 4) ae)) ah (aI _)) (bK (bz (aW (aA (bD .bool) (cp .bool) rfl T.b_isinstance boot_isinstance (aa (aw (qv 4) ah (fun _ _=>rfl)) (aa (cj rfl T.b_bool boot_bool) ae)))))))))
  (aq (aB bw))
  aF)
  (af (aO (aW (aw (qv 4) ah (fun _ _=>rfl)))
  (aq (aB (az (Cb T) (hr.mono (by decide)) rfl T.g_zC T.F_zC.kp T.B_zC (aa (qv 0) (aa (qv 1) (aa (qv 2) (aa (qv 3) (aa (aw (qv 4) ah (fun _ _=>rfl)) ae))))))))
  aF)
  (af (aO (aU (bJ (bz (aW (aA (bD .tuple) (cp .tuple) rfl T.b_isinstance boot_isinstance (aa (aw (qv 4) ah (fun _ _=>rfl)) (aa (cj rfl T.b_tuple boot_tuple) ae))))) (bK (ax (bZ hr.units) aX (aA aD ba rfl T.b_len PySem.boot_len (aa (aw (qv 4) ah (fun _ _=>rfl)) ae)) ah (aI _)))))
  (aq (aB bw))
  aF)
  (aq (aB (az (DD T) (hr.mono (by decide)) rfl T.g_zx T.F_zx.kp T.B_zx (aa (qv 0) (aa (qv 1) (aa (qv 2) (aa (qv 3) (aa (aw (aw (qv 4) ah (fun _ _=>rfl)) ah (fun _ _=>rfl)) (aa (aw (aw (qv 4) ah (fun _ _=>rfl)) ah (fun _ _=>rfl)) ae)))))))))))),?_⟩)
 intro vs H Q E h
 unfold fI at h
 split at h
 ·rename_i l m k n v
  obtain⟨c,ts,bs,O,B,G,b,e,rfl,rfl,rfl,ok,hO,hG,tol,h⟩:=h
  unfold shp at e
  injection e with e
  subst e
  cases tol with
  | yes hr tl =>
   refine ai fun R hR=>?_
   walk_at "r"
   repeat refine au rfl ?_
   subst hR
   refine ai fun R hR=>?_
   walk_at "r"
   refine⟨c,ts,bs,O,B,G,_,_,rfl,rfl,rfl,rfl,ok,hO,hG,hr,tl,H,Sub.refl _,h⟩
  | no n hr hq ls rod =>
   refine ai fun R hR=>?_
   walk_at "r"
   repeat refine au rfl ?_
   subst hR
   refine ai fun R hR=>?_
   walk_at "r"
   repeat refine au rfl ?_
   subst hR
   refine ai fun R hR=>?_
   walk_at "r"
   repeat refine au rfl ?_
   subst hR
   walk_at "r"
   refine⟨c,ts,bs,O,B,G,_,_,_,_,rfl,rfl,rfl,rfl,ok,hr,hq,ls,rod,H,Sub.refl _,h⟩
 ·exact h.elim
theorem DO(T:Tx K mg t):aN P w K mg base CX0 1 t.a_zy t.d_zy ["_law_found"] g5:=by
 refine okU (k:=0) T.F_zy vw (fun vs H Q E h=>by
  unfold g5 at h
  split at h
  ·rfl
  ·exact h.elim) (fun cdv A outer s H E B hr=>⟨_,(aq (aO (aW (aw (qv 0) ah (fun _ _=>rfl)))
  (aq (aT (ip PySem.F.slot_list_clear PySem.F.type_list_clear fb ft fB (aw (qv 0) ah (fun _ _=>rfl)))))
  (af (bL PassesOwn.never rfl (aM (aw (aw (qv 0) ah (fun _ _=>rfl)) ah (fun _ _=>rfl))) (av (i:=1) vw.nd rfl (by walk_at "o"))
   (aq (aT (ip PySem.F.slot_list_clear PySem.F.type_list_clear fb ft fB (qv 1)))))
   (af (aT (ip PySem.F.slot_list_clear PySem.F.type_list_clear fb ft fB (aw (aw (qv 0) ah (fun _ _=>rfl)) ah (fun _ _=>rfl))))
   (aq (aT (ip PySem.F.slot_list_clear PySem.F.type_list_clear fb ft fB (aw (aw (qv 0) ah (fun _ _=>rfl)) ah (fun _ _=>rfl))))))))),?_⟩)
 intro vs H Q E h
 unfold g5 at h
 split at h
 ·rename_i b v
  unfold EmP at h
  split at h
  ·rename_i r
   obtain⟨⟨l,hr⟩,H0,s0,hr0,h⟩:=h
   walk_at "r"
   exact⟨_,hr,H0,s0.put hr0,h⟩
  ·rename_i r q
   obtain⟨⟨l,hr⟩,nrq,us,ls,hq,lst,H0,s0,hr0,hq0,fu,h⟩:=h
   walk_at "r"
   refine⟨_,hq,?_⟩
   refine bN (fun i σ H2=>∃z,σ=[some (.tup [.bl false,.tup [.ref r,.ref q]]),z]/\U.Sub H0 H2/\H2 q=some (.lst us)/\(∃l,H2 r=some (.lst l))/\∀v∈us,∀b,v=.ref b->∃l,H2 b=some (.lst l)) ?_ ?_ ⟨none,rfl,s0,hq,⟨l,hr⟩,fun v hv b e=>?_⟩
   ·rintro σ H2 ⟨z,rfl,s2,q2,⟨l2,r2⟩,_⟩
    refine⟨q2,?_⟩
    walk_at "r"
    exact⟨_,r2,_,(ar nrq.symm).trans q2,H0,(s2.put hr0).put hq0,h⟩
   ·rintro N i y σ H2 hy ⟨z,rfl,s2,q2,⟨l2,r2⟩,hall⟩ kk
    refine⟨q2,?_⟩
    have hm:=List.mem_of_getElem? hy
    obtain⟨l',b,hl',rfl,nb,hb⟩:=lst.mem hm
    obtain⟨l3,hb2⟩:=hall _ hm b rfl
    walk_at "r"
    refine⟨_,hb2,kk _ _ ⟨_,rfl,s2.put (fu _ hm b rfl),(ar nb.symm).trans q2,?_,fun v hv b' e=>?_⟩⟩
    ·by_cases e:r=b
     ·subst e;exact⟨_,ak⟩
     ·exact⟨_,(ar e).trans r2⟩
    ·by_cases e2:b'=b
     ·subst e2;exact⟨_,ak⟩
     ·obtain⟨l4,h4⟩:=hall v hv b' e
      exact⟨_,(ar e2).trans h4⟩
   ·obtain⟨l',b',hl',e',nb,hb⟩:=lst.mem hv
    rw[e']at e;cases e
    exact⟨_,hb⟩
  ·exact h.elim
 ·exact h.elim
theorem Dl(T:Tx K mg t):aN P w K mg base CX0 2 t.a_zP t.d_zP ["_law_cell","_law_many","_law_kinds"] eU:=by
 refine okU (k:=1) T.F_zP iD (fun vs H Q E h=>by
  unfold eU at h
  split at h
  ·rfl
  ·exact h.elim) (fun cdv A outer s H E B hr=>⟨_,(af (bx (i:=3) iD.nd rfl (by walk_at "o") (N2:=["_law_kind"]) (nt:=1) (js:=[]) (ck (sc:=ao qz)) rfl (dm rfl T.b_range (aa (qv 2) ae)) (fun s0 H0 fp ps=>⟨(av (i:=0) (show List.Nodup (["_law_kind"]:List Str) by decide +kernel) rfl (by walk_at "o")),bg,(bG ae)⟩))
  (af (aK (i:=4) iD.nd rfl (by walk_at "o") (j6 (qv 0) ah))
  (af (bL PassesOwn.never rfl (dm rfl T.b_range (aa (qv 1) ae)) (av (i:=5) iD.nd rfl (by walk_at "o"))
  (af (aK (i:=6) iD.nd rfl (by walk_at "o") (cL (qv 4) (qv 2)))
   (af (aK (i:=4) iD.nd rfl (by walk_at "o") (j6 (qv 4) (qv 2)))
   (af (aO (ax (bh hr.units) aX (cL (qv 0) ah) ah (aI _))
   (aq (aK (i:=6) iD.nd rfl (by walk_at "o") (cL (az (zj T) (hr.mono (by decide)) rfl T.g_zK T.F_zK.kp T.B_zK (aa (qv 0) (aa (cM ah (qv 5)) ae))) (qv 2))))
   aF)
   (aq (aT (cz PySem.F.slot_list_append PySem.F.type_list_append bT b8 (aw (qv 3) (qv 6) (fun _ _=>rfl)) (aa (qv 5) ae))))))))
  (aq (aB (bf (N2:=["_law_names"]) (nt:=1) (js:=[]) (ck (sc:=ao qz)) rfl (aM (qv 3)) (fun s0 H0 fp ps=>⟨(av (i:=0) (show List.Nodup (["_law_names"]:List Str) by decide +kernel) rfl (by walk_at "o")),bg,(aP aL a9 rfl T.b_tuple boot_tuple (aa (qv 0) ae))⟩))))))),?_⟩)
 intro vs H Q E h
 unfold eU at h
 split at h
 ·rename_i u c k
  obtain⟨⟨c1,c6⟩,⟨k1,k10⟩,h⟩:=h
  refine ai fun R hR=>?_
  walk_at "r"
  refine⟨⟨by omega,by omega⟩,?_⟩
  show ∀acc,H acc=none->_
  intro q hq
  refine fQ (fun j σ H2=>∃z,∃rs:List Addr,σ=[z]/\U.Sub H H2/\H2 q=some (.lst (rs.map PV.ref))/\Rl H2 q rs (List.replicate j [])/\∀r∈rs,H r=none) ?_ ?_ ⟨none,[],rfl,(Sub.refl H).put hq,ak,⟨List.nodup_nil,.nil⟩,fun r hr=>(by cases hr)⟩
  ·rintro j v σ H2 R' hv ⟨z,rs,rfl,s2,e2,rl,fr⟩ kk
   refine⟨trivial,?_⟩
   have hlr:=Paired.length rl.at'
   rw[List.length_replicate]at hlr
   have hj:j<k.toNat:=by have:=(List.getElem?_eq_some_iff.mp hv).1;simpa[cU]using this
   walk_at "r"
   refine⟨aj (by decide),fun p hp=>?_⟩
   have np:=ay e2 hp
   refine⟨_,(ar np).trans e2,bE (by rw[List.length_map];omega),?_⟩
   have sa:=(Sub.refl H2).put (o:=.lst []) hp
   have pn:∀r∈rs,r≠p/\r≠q:=fun r hr=>by
    obtain⟨L,_,h1,h2⟩:=gk rl.at' hr
    exact⟨ay h2 hp,h1⟩
   refine kk _ _ ⟨_,rs++[p],rfl,(s2.trans sa).put hq,by rw[ak,List.map_append];rfl,⟨?_,?_⟩,fun r hr=>?_⟩
   ·exact List.nodup_append.mpr ⟨rl.nd,by simp,fun x hx y hy e=>(pn x hx).1 (by rw[List.mem_singleton.mp hy]at e;exact e)⟩
   ·rw[List.replicate_succ']
    refine g4 ⟨np.symm,(ar np.symm).trans ak⟩ (Paired.mapP rl.at' fun r L ⟨h1,h2⟩=>⟨h1,(ar h1).trans (sa _ _ h2)⟩)
   ·rcases List.mem_append.mp hr with z | z
    ·exact fr r z
    ·rw[List.mem_singleton.mp z];exact s2.free hp
  rintro σ H1 ⟨z,rs,rfl,s1,e1,rl,fr⟩
  refine⟨trivial,?_⟩
  have hrl:(cU 0 k.toNat).length=k.toNat:=by simp[cU]
  rw[hrl]at rl
  have hk:rs.length=k.toNat:=by have:=Paired.length rl.at';rw[List.length_replicate]at this;exact this
  have pt0:PtI k.toNat 0 (List.replicate k.toNat []):=by
   refine⟨List.length_replicate ..,fun L hL=>?_,?_⟩
   ·rw[(List.mem_replicate.mp hL).2];exact .nil
   ·have:(List.replicate k.toNat ([]:List Int)).flatten=[]:=by simp
    rw[this];exact List.Perm.nil
  subst hR
  refine ai fun R hR=>?_
  walk_at "r"
  refine⟨wj (by decide) (by decide),?_⟩
  generalize u.fdiv 2=nu
  subst hR
  refine ai fun R hR=>?_
  walk_at "r"
  refine⟨⟨by omega,by omega⟩,?_⟩
  refine fD (fun i σ H2=>∃nu z1 z2 Ls,σ=[some (.int u),some (.int c),some (.int k),some (.ref q),some (.int nu),z1,z2]/\U.Sub H H2/\H2 q=some (.lst (rs.map PV.ref))/\Rl H2 q rs Ls/\PtI k.toNat i Ls) ?_ ?_ ⟨nu,none,none,_,rfl,s1,e1,rl,pt0⟩
  ·rintro σ H2 ⟨nu,z1,z2,Ls,rfl,s2,e2,rl,pt⟩
   refine⟨trivial,?_⟩
   have ec:((c.toNat:Nat):Int)=c:=by omega
   subst hR
   walk_at "r"
   refine⟨_,e2,fun acc hacc=>?_⟩
   refine aC (kX H2) (fun _=>true) (fun σ=>∃z,σ=[z]) (by rw[List.length_map];omega) (fun _=>(ar (ay e2 hacc)).trans e2) ?_ ?_ ⟨_,rfl⟩
   ·rintro y hy l σ R' ⟨z,rfl⟩ hl kT kF
    obtain⟨r,hr,rfl⟩:=List.mem_map.mp hy
    obtain⟨L,_,h1,h2⟩:=gk rl.at' hr
    rw[de h2]at kT
    walk_at "r"
    exact⟨_,(ar (ay h2 hacc)).trans h2,hl,by rw[aG];exact kT rfl _ ⟨_,rfl⟩⟩
   rw[List.filter_eq_self.mpr (fun _ _=>rfl),nF rl.at']
   refine⟨_,Sub.refl _,h acc _ Ls (s2.free hacc) (s2.put (s2.free hacc)) ak ⟨pt.len,pt.up,?_⟩⟩
   have:=pt.pm
   rw[ec]at this
   exact this
  ·rintro N i σ H2 hi ⟨nu,z1,z2,Ls,rfl,s2,e2,rl,pt⟩ kk
   refine⟨trivial,?_⟩
   refine ai fun R' hR'=>?_
   walk_at "r"
   refine⟨by omega,?_⟩
   have f1:=fm (a:=nu) (b:=k) (by omega)
   generalize nu.fmod k=kd0 at *
   subst hR'
   refine ai fun R' hR'=>?_
   walk_at "r"
   refine⟨wj (by omega) (by omega),?_⟩
   generalize nu.fdiv k=nu2 at *
   subst hR'
   refine ai fun R' hR'=>?_
   have fin:∀kd:Int,0≤kd/\kd<k->R' { nx:=N,rt:=fun v H=>∃H3,U.Sub H3 H/\Q v H3,bk:=R { nx:=fun _ H=>∃H3,U.Sub H3 H/\Q .non H3,rt:=fun v H=>∃H3,U.Sub H3 H/\Q v H3 },ct:=N } [some (.int u),some (.int c),some (.int k),some (.ref q),some (.int nu2),some (.int (i:Nat)),some (.int kd)] H2:=fun kd hd=>by
    have hkd:kd.toNat<rs.length:=by omega
    have hkL:kd.toNat<Ls.length:=by rw[pt.len];omega
    have ea:atI (rs.map PV.ref) kd=some (.ref rs[kd.toNat]):=by
     have:=cP (l:=rs.map PV.ref) (i:=kd.toNat) (by rw[List.length_map];exact hkd)
     rw[List.getElem_map,show((kd.toNat:Nat):Int)=kd by omega]at this
     exact this
    have hr:=qw rl.at' hkd hkL
    have fl:Ls[kd.toNat].length≤6:=My.bI 6 _ ((pt.up _ (List.getElem_mem hkL)).imp fun h=>by omega) fun x hx=>by
     have:=fW.mp (pt.pm.mem_iff.mp (List.mem_flatten.mpr ⟨_,List.getElem_mem hkL,hx⟩))
     omega
    subst hR'
    walk_at "r"
    refine⟨_,e2,?_⟩
    rw[ea]
    walk_at "r"
    refine⟨⟨_,hr.2⟩,_,hr.2,bE (by rw[List.length_map];omega),?_⟩
    have hfr:H rs[kd.toNat]=none:=fr _ (List.getElem_mem hkd)
    refine kk _ _ ⟨_,_,_,Ls.set kd.toNat (Ls[kd.toNat]++[((i:Nat):Int)]),rfl,s2.put hfr,(ar hr.1.symm).trans e2,⟨rl.nd,?_⟩,pt.next hkL⟩
    have:=pL (M:=Ls[kd.toNat]++[((i:Nat):Int)]) hkd rl.nd rl.at'
    rw[List.map_append]at this
    exact this
   walk_at "r"
   refine⟨by decide,bA (fun _=>?_) (fun _=>fin _ f1)⟩
   exact⟨⟨by omega,by omega⟩,fun n=>⟨by omega,fin _ (fm (by omega))⟩⟩
 ·exact h.elim
theorem AV(T:Tx K mg t):aN P w K mg base CX0 1 t.a_zr t.d_zr ["_law_sets","_law_kind"] fe:=by
 refine okU (k:=0) T.F_zr kZ (fun vs H Q E h=>by
  unfold fe at h
  split at h
  ·rfl
  ·exact h.elim) (fun cdv A outer s H E B hr=>⟨_,(af (aO (ax gF gz (aA aD ba rfl T.b_len PySem.boot_len (aa (aw (qv 0) (qv 1) (fun _ _=>rfl)) ae)) ah (aI _))
  (aq (aB (qv 0)))
  aF)
  (af (aK (i:=2) kZ.nd rfl (by walk_at "o") ah)
  (af (bL PassesOwn.never rfl (dm rfl T.b_range (aa (aA aD ba rfl T.b_len PySem.boot_len (aa (qv 0) ae)) ae)) (av (i:=3) kZ.nd rfl (by walk_at "o"))
  (aq (aO (ax m9 nP (aA aD ba rfl T.b_len PySem.boot_len (aa (aw (qv 0) (qv 3) (fun _ _=>rfl)) ae)) (aA aD ba rfl T.b_len PySem.boot_len (aa (aw (qv 0) (qv 2) (fun _ _=>rfl)) ae)) (aI _))
   (aq (aK (i:=2) kZ.nd rfl (by walk_at "o") (qv 3)))
   aF)))
  (af (aK (i:=4) kZ.nd rfl (by walk_at "o") (aP b9 fS rfl T.b_list boot_list (aa (qv 0) ae)))
  (af (iy (jh (aw (qv 0) (qv 2) (fun _ _=>rfl)) (dD (b7 ah)) fN) (qq (qv 4) (qv 1)))
  (af (iy (jh (aw (qv 0) (qv 2) (fun _ _=>rfl)) fN (dD (b7 ah))) (qq (qv 4) (qv 2)))
  (aq (aB (qv 4))))))))),?_⟩)
 intro vs H Q E h
 unfold fe at h
 split at h
 ·rename_i a j
  obtain⟨n,c,Ls,ha,pt,⟨c1,c6⟩,n10,⟨j0,jn⟩,h⟩:=h
  have hln:=pt.len
  have hj:j.toNat<Ls.length:=by omega
  have atL:∀i:Int,0≤i->i<n->∃hi:i.toNat<Ls.length,atI (Ls.map tupI) i=some (.tup (Ls[i.toNat].map PV.int)):=fun i h0 h1=>by
   have hi:i.toNat<Ls.length:=by omega
   refine⟨hi,?_⟩
   have:=cP (l:=Ls.map tupI) (i:=i.toNat) (by rw[List.length_map];exact hi)
   rw[List.getElem_map,show((i.toNat:Nat):Int)=i by omega]at this
   exact this
  obtain⟨_,eaj⟩:=atL j j0 jn
  refine ai fun R hR=>?_
  walk_at "r"
  refine⟨_,ha,?_⟩
  rw[eaj]
  walk_at "r"
  by_cases hne:Ls[j.toNat]=[]
  ·refine au (by rw[hne];simp) ?_
   subst hR
   refine ai fun R hR=>?_
   walk_at "r"
   subst hR
   refine ai fun R hR=>?_
   walk_at "r"
   refine⟨_,ha,⟨by rw[List.length_map];omega,by rw[List.length_map];omega⟩,?_⟩
   rw[List.length_map,Int.toNat_natCast]
   refine fD (fun i σ H2=>∃pl z1,∃hp:pl<Ls.length,σ=[some (.ref a),some (.int j),some (.int ((pl:Nat):Int)),z1,none]/\H2=H/\∀i' (hi:i'<Ls.length),i'<i->Ls[i'].length≤Ls[pl].length) ?_ ?_ ⟨0,none,by omega,rfl,rfl,fun i' _ hi=>absurd hi (by omega)⟩
   ·rintro σ H2 ⟨pl,z1,hp,rfl,rfl,hmax⟩
    refine⟨trivial,?_⟩
    have pne:Ls[pl]≠[]:=fun e=>by
     have h0:Ls.flatten.length≤Ls.length*0:=lD fun L hL=>by
      obtain⟨i,hi,rfl⟩:=List.getElem_of_mem hL
      have:=hmax i hi hi
      rw[e]at this;exact this
     have h1:=pt.pm.length_eq
     unfold ulN at h1
     rw[List.length_map,List.length_range]at h1
     omega
    obtain⟨P,e,ep⟩:∃P e,Ls[pl]=P++[e]:=by
     rcases List.eq_nil_or_concat Ls[pl]with z |⟨P,e,z⟩
     ·exact absurd z pne
     ·exact⟨P,e,by rw[z,List.concat_eq_append]⟩
    obtain⟨mv,mv2⟩:=pt.move hj hp hne ep
    obtain⟨_,eap⟩:=atL ((pl:Nat):Int) (by omega) (by omega)
    simp only[Int.toNat_natCast]at eap
    rw[ep]at eap
    subst hR
    dsimp only
    refine ai fun R hR=>?_
    walk_at "r"
    refine⟨_,ha,fun f hf=>?_⟩
    have s1:=(Sub.refl H2).put (o:=.lst (Ls.map tupI)) hf
    have e1:put H2 f (.lst (Ls.map tupI)) f=some (.lst (Ls.map tupI)):=ak
    generalize put H2 f (.lst (Ls.map tupI))=H3 at *
    subst hR
    refine ai fun R hR=>?_
    walk_at "r"
    refine⟨_,s1 _ _ ha,?_⟩
    rw[eap]
    walk_at "r"
    rw[tO]
    refine⟨_,j.toNat,e1,by unfold ixN;rw[if_pos j0,List.length_map,if_pos (by omega)],?_⟩
    have es:(Ls.map tupI).set j.toNat (.tup [.int e])=(Ls.set j.toNat [e]).map tupI:=by rw[List.map_set];rfl
    rw[es]
    have s2:=s1.put (o:=.lst ((Ls.set j.toNat [e]).map tupI)) hf
    have e2:put H3 f (.lst ((Ls.set j.toNat [e]).map tupI)) f=some (.lst ((Ls.set j.toNat [e]).map tupI)):=ak
    generalize put H3 f (.lst ((Ls.set j.toNat [e]).map tupI))=H4 at *
    subst hR
    refine ai fun R hR=>?_
    walk_at "r"
    refine⟨_,s2 _ _ ha,?_⟩
    rw[eap]
    walk_at "r"
    rw[ka]
    have ed:(P++[e]).dropLast=P:=by simp
    rw[ed]
    refine⟨_,pl,e2,by unfold ixN;rw[if_pos (by omega),List.length_map,List.length_set,if_pos (by omega),Int.toNat_natCast],?_⟩
    have es2:((Ls.set j.toNat [e]).map tupI).set pl (.tup (P.map PV.int))=((Ls.set j.toNat [e]).set pl P).map tupI:=(List.map_set (l:=Ls.set j.toNat [e]) (i:=pl) (a:=P) (f:=tupI)).symm
    rw[es2]
    subst hR
    walk_at "r"
    exact⟨_,Sub.refl _,h f _ _ (s2.put hf) ak mv (by rw[mv2];simp)⟩
   ·rintro N i σ H2 hi ⟨pl,z1,hp,rfl,rfl,hmax⟩ kk
    refine⟨trivial,?_⟩
    obtain⟨_,ea1⟩:=atL ((i:Nat):Int) (by omega) (by omega)
    obtain⟨_,ea2⟩:=atL ((pl:Nat):Int) (by omega) (by omega)
    simp only[Int.toNat_natCast]at ea1 ea2
    walk_at "r"
    refine⟨_,ha,?_⟩
    rw[ea1]
    walk_at "r"
    refine⟨_,ha,?_⟩
    rw[ea2]
    walk_at "r"
    refine bA (fun z=>?_) (fun z=>?_)
    ·have z:Ls[pl].length≤Ls[i].length:=by simpa using z
     refine kk _ _ ⟨i,_,hi,rfl,rfl,fun i' hi' lt=>?_⟩
     rcases Nat.lt_or_ge i' i with q | q
     ·exact Nat.le_trans (hmax i' hi' q) z
     ·have:i'=i:=by omega
      subst this;exact Nat.le_refl _
    ·have z:Ls[i].length<Ls[pl].length:=by simpa using z
     refine kk _ _ ⟨pl,_,hp,rfl,rfl,fun i' hi' lt=>?_⟩
     rcases Nat.lt_or_ge i' i with q | q
     ·exact hmax i' hi' q
     ·have:i'=i:=by omega
      subst this;exact Nat.le_of_lt z
  ·refine aJ (by rw[List.length_map];simpa[List.length_pos_iff]using hne) ?_
   exact⟨H,Sub.refl _,h a H Ls (Sub.refl _) ha pt (by rw[List.getElem?_eq_getElem hj];intro z;exact hne (Option.some.inj z))⟩
 ·exact h.elim
theorem AW(T:Tx K mg t):aN P w K mg base CX0 7 t.a_yd t.d_yd ["drawing","number","statement","names"] (fo t):=by
 refine okU (k:=6) T.F_yd zR (fun vs H Q E h=>by
  unfold fo at h
  split at h
  ·rfl
  ·exact h.elim) (fun cdv A outer s H E B hr=>⟨_,(af (aT (az (Bt T) (hr.mono (by decide)) rfl T.g_zM T.F_zM.kp T.B_zM (aa (qv 0) (aa (gU (qv 2) (aY (aa (qv 3) ae))) ae))))
  (af (aO (ax (tQ T.o_MORE) tJ (qv 1) (bW (v':=.ref t.a_MORE) rfl T.c_MORE (fun _=>by simp[RP])) (by with_unfolding_all rfl))
  bC
  aF)
  (af (aT (az (AO T) (hr.mono (by decide)) rfl T.g_zG T.F_zG.kp T.B_zG (aa (gU (qv 2) (aY (aa (qv 3) ae))) ae)))
  (aq (aB (az (DI T) (hr.mono (by decide)) rfl T.g_yc T.F_yc.kp T.B_yc (aa (az (BW T) (hr.mono (by decide)) rfl T.g_zv T.F_zv.kp T.B_zv (aa (qv 0) (aa (qv 1) (aa (qv 2) (aa (qv 3) ae))))) (aa (aw (qv 2) (bW (v':=.int 0) rfl T.c_ASKED (fun _=>by simp[RP])) (fun _ _=>rfl)) (aa (qv 3) (aa (az (CN T) (hr.mono (by decide)) rfl T.g_zS T.F_zS.kp T.B_zS (aa (qv 2) ae)) ae)))))))))),?_⟩)
 intro vs H Q E h
 unfold fo at h
 split at h
 ·rename_i x k o l m n
  obtain⟨c,ts,bs,A,S,V,N,dr,ok,rfl,rfl,rfl,rfl,st,hk,h⟩:=h
  have all:∀L∈[A,S,V,N],Nms c L:=by
   intro L hL
   simp only[List.mem_cons,List.not_mem_nil,or_false]at hL
   rcases hL with rfl | rfl | rfl | rfl
   ·exact st.a
   ·exact st.s
   ·exact st.v
   ·exact st.n
  refine ai fun R hR=>?_
  walk_at "r"
  refine⟨aj (by decide),aj (by decide),c,ts,bs,[A,S,V,N],dr,rfl,all,?_⟩
  subst hR
  refine ai fun R hR=>?_
  walk_at "r"
  have hm:k∈[(1:Int),2,3]:=by
   have:k=1∨k=2∨k=3:=by omega
   simpa using this
  refine au (by simp only[hm,decide_true];rfl) ?_
  subst hR
  refine ai fun R hR=>?_
  walk_at "r"
  refine⟨aj (by decide),aj (by decide),[A,S,V,N],rfl,fun L hL x hx=>by have:=(all L hL).lo x hx;have:=ok.c6;omega,st.nd,?_⟩
  subst hR
  walk_at "r"
  refine⟨c,ts,bs,S,V,N,dr,ok,rfl,rfl,rfl,st.s,st.v,st.n,hk,fun y H1 us cs s1 d1 ok1 rd=>?_⟩
  try walk_at "r"
  refine⟨c,S,V,ok.c6,rfl,rfl,st.s,st.v,fun G hG iff=>?_⟩
  try walk_at "r"
  refine⟨c,us,cs,A,N,G,d1,ok1,rfl,rfl,rfl,st.ap hG iff,?_⟩
  have tb:=h H1 us cs G s1 ok1 rd hG iff (st.ap hG iff)
  exact⟨fun r H2 M L hr s2 er tl=>⟨H2,Sub.refl _,tb.1 r H2 M L hr s2 er tl⟩,fun r q H2 vs M road ws hr hq ne s2 er eq ls fu rod=>⟨H2,Sub.refl _,tb.2 r q H2 vs M road ws hr hq ne s2 er eq ls fu rod⟩⟩
 ·exact h.elim
theorem DZ(T:Tx K mg t):aN P w K mg base CX0 1 t.a_zX t.d_zX ["_law_one","_law_two"] eI:=by
 refine okU (k:=0) T.F_zX Ag (fun vs H Q E h=>by
  unfold eI at h
  split at h
  ·rfl
  ·exact h.elim) (fun cdv A outer s H E B hr=>⟨_,(aq (aB (aP aL a9 rfl T.b_tuple boot_tuple (aa (dI rfl hr.units rfl T.b_sorted rfl T.b_set boot_set (gU (qv 0) (qv 1))) ae)))),?_⟩)
 intro vs H Q E h
 unfold eI at h
 split at h
 ·rename_i l m
  obtain⟨c,S,V,c6,rfl,rfl,hS,hV,h⟩:=h
  have s6:=hS.len c6
  have v6:=hV.len c6
  walk_at "r"
  have ng:∀y∈S++V,0≤y/\y<6:=fun y hy=>by
   rcases List.mem_append.mp hy with q | q
   ·have:=hS.lo y q;omega
   ·have:=hV.lo y q;omega
  have nc:∀y∈S++V,0≤y/\y<c:=fun y hy=>by
   rcases List.mem_append.mp hy with q | q
   ·exact hS.lo y q
   ·exact hV.lo y q
  refine⟨aj (by simp only[List.length_append,List.length_map];omega),(S++V).map Int.toNat,by rw[←List.map_append,d8 ng],fun n hn=>?_,fun r ks hr up iff=>?_⟩
  ·obtain⟨z,hz,rfl⟩:=List.mem_map.mp hn
   have:=ng z hz;omega
  have ek:ks.map dg=(ks.map fun n=>((n:Nat):Int)).map PV.int:=by rw[List.map_map];rfl
  rw[ek]
  refine⟨H,Sub.put (Sub.refl _) hr,h _ ⟨?_,fun x hx=>?_⟩ fun x=>?_⟩
  ·rw[List.pairwise_map]
   exact up.imp fun h=>by omega
  ·obtain⟨n,hn,rfl⟩:=List.mem_map.mp hx
   obtain⟨z,hz,e⟩:=List.mem_map.mp ((iff n).mp hn)
   have:=nc z hz
   omega
  ·rw[←List.mem_append]
   constructor
   ·intro hx
    obtain⟨n,hn,rfl⟩:=List.mem_map.mp hx
    obtain⟨z,hz,e⟩:=List.mem_map.mp ((iff n).mp hn)
    have:=ng z hz
    have e2:((n:Nat):Int)=z:=by omega
    rw[e2];exact hz
   ·intro hx
    have:=ng x hx
    exact List.mem_map.mpr ⟨x.toNat,(iff _).mpr (List.mem_map.mpr ⟨x,hx,rfl⟩),by omega⟩
 ·exact h.elim
theorem vY(T:Tx K mg t):aN P w K mg base CX0 1 t.a_ya t.d_ya ["_law_drawn","_law_into","_law_out"] fA:=by
 refine okU (k:=0) T.F_ya rB (fun vs H Q E h=>by
  unfold fA at h
  split at h
  ·rfl
  ·rfl
  ·exact h.elim) (fun cdv A outer s H E B hr=>⟨_,(af (aK (i:=3) rB.nd rfl (by walk_at "o") (aP aL a9 rfl T.b_tuple boot_tuple (aa (bf (N2:=["_law_tie","_law_into","_law_out"]) (nt:=1) (js:=[1,2]) (ck (sc:=ao rh)) rfl (aM (aw (qv 0) ah (fun _ _=>rfl))) (fun s0 H0 fp ps=>⟨(av (i:=0) (show List.Nodup (["_law_tie","_law_into","_law_out"]:List Str) by decide +kernel) rfl (by walk_at "o")),(bj (aU (c8 (ax (aQ hr.units) a0 (aw (qv 0) ah (fun _ _=>rfl)) (qv 1) (by with_unfolding_all rfl)) (cu (ax (aQ hr.units) a0 (aw (qv 0) ah (fun _ _=>rfl)) (qv 2) (by with_unfolding_all rfl)))))),(qv 0)⟩)) ae)))
  (af (aK (i:=4) rB.nd rfl (by walk_at "o") (aP aL a9 rfl T.b_tuple boot_tuple (aa (bf (N2:=["_law_bow","_law_into"]) (nt:=1) (js:=[1]) (ck (sc:=ao rh)) rfl (aM (aw (qv 0) ah (fun _ _=>rfl))) (fun s0 H0 fp ps=>⟨(av (i:=0) (show List.Nodup (["_law_bow","_law_into"]:List Str) by decide +kernel) rfl (by walk_at "o")),(bj (aU (c8 (ax (aQ hr.units) a0 (aw (qv 0) ah (fun _ _=>rfl)) (qv 1) (by with_unfolding_all rfl)) (cu (ax (aQ hr.units) a0 (aw (qv 0) ah (fun _ _=>rfl)) (qv 1) (by with_unfolding_all rfl)))))),(qv 0)⟩)) ae)))
  (aq (aB (aY (aa (aw (qv 0) ah (fun _ _=>rfl)) (aa (qv 3) (aa (qv 4) ae)))))))),?_⟩)
 intro vs H Q E h
 unfold fA at h
 split at h
 ·rename_i l m n
  obtain⟨c,ts,bs,I,O,e,rfl,rfl,ok,h⟩:=h
  unfold shp at e
  injection e with e
  subst e
  have t15:=ok.gt.len ok.c6
  have b6:=ok.b6
  refine ai fun R hR=>?_
  walk_at "r"
  show ∀acc,H acc=none->_
  intro p1 hp1
  refine aC (fun y=>y) (onP (CT I O)) (fun σ=>∃z,σ=[z,some (.tup (I.map PV.int)),some (.tup (O.map PV.int))]) (by rw[List.length_map];omega) (fun _=>trivial) ?_ ?_ ⟨_,rfl⟩
  ·rintro y hy l σ R' ⟨z,rfl⟩ hl kT kF
   obtain⟨p,hp,rfl⟩:=List.mem_map.mp hy
   rw[cZ]at kT kF
   unfold prV at *
   walk_at "r"
   refine⟨aH,?_⟩
   simp only[aR]
   by_cases m1:p.2∈I
   ·exact au (by simp[m1]) (kF (by simp[CT,m1]) _ ⟨_,rfl⟩)
   ·refine aJ (by simp[m1]) ?_
    refine⟨aH,?_⟩
    try simp only[aR]
    by_cases m2:p.1∈O
    ·exact au (by simp[m2]) (kF (by simp[CT,m1,m2]) _ ⟨_,rfl⟩)
    ·exact aJ (by simp[m2]) ⟨hl,by rw[aG];exact kT (by simp[CT,m1,m2]) _ ⟨_,rfl⟩⟩
  rw[bR]
  refine⟨_,ak,?_⟩
  have s1:U.Sub H (put H p1 (.lst ((ts.filter (CT I O)).map prV))):=(Sub.refl H).put hp1
  generalize put H p1 (.lst ((ts.filter (CT I O)).map prV))=H1 at *
  subst hR
  refine ai fun R hR=>?_
  walk_at "r"
  show ∀acc,H1 acc=none->_
  intro p2 hp2
  refine aC (fun y=>y) (onP (FB 1 I)) (fun σ=>∃z,σ=[z,some (.tup (I.map PV.int))]) (by rw[List.length_map];omega) (fun _=>trivial) ?_ ?_ ⟨_,rfl⟩
  ·rintro y hy l σ R' ⟨z,rfl⟩ hl kT kF
   obtain⟨p,hp,rfl⟩:=List.mem_map.mp hy
   rw[cZ]at kT kF
   unfold prV at *
   walk_at "r"
   refine⟨aH,?_⟩
   simp only[aR]
   by_cases m1:p.1∈I
   ·exact au (by simp[m1]) (kF (by simp[FB,m1]) _ ⟨_,rfl⟩)
   ·refine aJ (by simp[m1]) ?_
    refine⟨aH,?_⟩
    try simp only[aR]
    by_cases m2:p.2∈I
    ·exact au (by simp[m2]) (kF (by simp[FB,m1,m2]) _ ⟨_,rfl⟩)
    ·exact aJ (by simp[m2]) ⟨hl,by rw[aG];exact kT (by simp[FB,m1,m2]) _ ⟨_,rfl⟩⟩
  rw[bR]
  refine⟨_,ak,?_⟩
  have s2:=s1.put (o:=.lst ((bs.filter (FB 1 I)).map prV)) (s1.free hp2)
  generalize put H1 p2 (.lst ((bs.filter (FB 1 I)).map prV))=H2 at *
  subst hR
  walk_at "r"
  exact⟨aj (by decide),H,s2,h⟩
 ·rename_i l a n
  obtain⟨c,ts,bs,I,O,e,ha,rfl,ok,h⟩:=h
  unfold shp at e
  injection e with e
  subst e
  have t15:=ok.gt.len ok.c6
  have b6:=ok.b6
  refine ai fun R hR=>?_
  walk_at "r"
  show ∀acc,H acc=none->_
  intro p1 hp1
  have nap1:=ay ha hp1
  refine aC (fun y=>y) (onP (CT I O)) (fun σ=>∃z,σ=[z,some (.ref a),some (.tup (O.map PV.int))]) (by rw[List.length_map];omega) (fun _=>trivial) ?_ ?_ ⟨_,rfl⟩
  ·rintro y hy l σ R' ⟨z,rfl⟩ hl kT kF
   obtain⟨p,hp,rfl⟩:=List.mem_map.mp hy
   rw[cZ]at kT kF
   unfold prV at *
   walk_at "r"
   refine⟨_,(ar nap1).trans ha,aH,?_⟩
   simp only[aR]
   by_cases m1:p.2∈I
   ·exact au (by simp[m1]) (kF (by simp[CT,m1]) _ ⟨_,rfl⟩)
   ·refine aJ (by simp[m1]) ?_
    refine⟨aH,?_⟩
    try simp only[aR]
    by_cases m2:p.1∈O
    ·exact au (by simp[m2]) (kF (by simp[CT,m1,m2]) _ ⟨_,rfl⟩)
    ·exact aJ (by simp[m2]) ⟨hl,by rw[aG];exact kT (by simp[CT,m1,m2]) _ ⟨_,rfl⟩⟩
  rw[bR]
  refine⟨_,ak,?_⟩
  have s1:U.Sub H (put H p1 (.lst ((ts.filter (CT I O)).map prV))):=(Sub.refl H).put hp1
  generalize put H p1 (.lst ((ts.filter (CT I O)).map prV))=H1 at *
  subst hR
  have ha1:=s1 _ _ ha
  refine ai fun R hR=>?_
  walk_at "r"
  show ∀acc,H1 acc=none->_
  intro p2 hp2
  have nap2:=ay ha1 hp2
  refine aC (fun y=>y) (onP (FB 1 I)) (fun σ=>∃z,σ=[z,some (.ref a)]) (by rw[List.length_map];omega) (fun _=>trivial) ?_ ?_ ⟨_,rfl⟩
  ·rintro y hy l σ R' ⟨z,rfl⟩ hl kT kF
   obtain⟨p,hp,rfl⟩:=List.mem_map.mp hy
   rw[cZ]at kT kF
   unfold prV at *
   walk_at "r"
   refine⟨_,(ar nap2).trans ha1,aH,?_⟩
   simp only[aR]
   by_cases m1:p.1∈I
   ·exact au (by simp[m1]) (kF (by simp[FB,m1]) _ ⟨_,rfl⟩)
   ·refine aJ (by simp[m1]) ?_
    refine⟨_,(ar nap2).trans ha1,aH,?_⟩
    try simp only[aR]
    by_cases m2:p.2∈I
    ·exact au (by simp[m2]) (kF (by simp[FB,m1,m2]) _ ⟨_,rfl⟩)
    ·exact aJ (by simp[m2]) ⟨hl,by rw[aG];exact kT (by simp[FB,m1,m2]) _ ⟨_,rfl⟩⟩
  rw[bR]
  refine⟨_,ak,?_⟩
  have s2:=s1.put (o:=.lst ((bs.filter (FB 1 I)).map prV)) (s1.free hp2)
  generalize put H1 p2 (.lst ((bs.filter (FB 1 I)).map prV))=H2 at *
  subst hR
  walk_at "r"
  exact⟨aj (by decide),H,s2,h⟩
 ·exact h.elim
theorem Dq(T:Tx K mg t):aN P w K mg base CX0 2 t.a_zh t.d_zh ["_law_drawn","_law_number","_law_statement","_law_names"] fx:=by
 refine okU (k:=1) T.F_zh je (fun vs H Q E h=>by
  unfold fx at h
  split at h
  ·rfl
  ·exact h.elim) (fun cdv A outer s H E B hr=>⟨_,(af (iy (qv 2) (cJ (n:=3) rfl (aS (av (i:=4) je.nd rfl (by walk_at "o")) (aS (av (i:=5) je.nd rfl (by walk_at "o")) (aS (av (i:=6) je.nd rfl (by walk_at "o")) bY)))))
  (af (aK (i:=7) je.nd rfl (by walk_at "o") (az (vY T) (hr.mono (by decide)) rfl T.g_ya T.F_ya.kp T.B_ya (aa (qv 0) (aa (qv 5) (aa (aY ae) ae)))))
  (af (aO (ax (bh hr.units) aX (qv 1) ah (aI _))
  (aq (aB (az (vY T) (hr.mono (by decide)) rfl T.g_ya T.F_ya.kp T.B_ya (aa (qv 7) (aa (aY ae) (aa (qv 3) ae))))))
  aF)
  (af (aO (ax (bh hr.units) aX (qv 1) ah (aI _))
  (af (aK (i:=8) je.nd rfl (by walk_at "o") (az (xk T) (hr.mono (by decide)) rfl T.g_zO T.F_zO.kp T.B_zO (aa (qv 7) (aa (qv 6) ae))))
   (aq (aB (az (vY T) (hr.mono (by decide)) rfl T.g_ya T.F_ya.kp T.B_ya (aa (qv 7) (aa (bf (N2:=["_law_name","_law_above_here"]) (nt:=1) (js:=[8]) (ck (sc:=ao tM)) rfl (aM (qv 3)) (fun s0 H0 fp ps=>⟨(av (i:=0) (show List.Nodup (["_law_name","_law_above_here"]:List Str) by decide +kernel) rfl (by walk_at "o")),(bj (ax (aQ hr.units) a0 (qv 0) (qv 1) (by with_unfolding_all rfl))),(qv 0)⟩)) (aa (aY ae) ae)))))))
  aF)
  (aq (aB (qv 7))))))),?_⟩)
 intro vs H Q E h
 unfold fx at h
 split at h
 ·rename_i d k o l m n
  obtain⟨c,ts,bs,S,V,N,e,ok,rfl,rfl,rfl,hS,hV,hN,hk,h⟩:=h
  unfold shp at e
  injection e with e
  subst e
  have ok1:=ok.filter (FT 1 S) (FB 1 S)
  have n6:=hN.len ok.c6
  refine ai fun R hR=>?_
  walk_at "r"
  subst hR
  refine ai fun R hR=>?_
  walk_at "r"
  refine⟨aj (by decide),c,ts,bs,S,[],rfl,rfl,rfl,ok,?_⟩
  rw[ct1]
  subst hR
  have hk:k=1∨k=2∨k=3:=by omega
  rcases hk with rfl | rfl | rfl
  ·refine ai fun R hR=>?_
   walk_at "r"
   refine au rfl ?_
   subst hR
   refine ai fun R hR=>?_
   walk_at "r"
   refine au rfl ?_
   subst hR
   walk_at "r"
   exact⟨H,Sub.refl _,h _ _ ok1 rd1⟩
  ·refine ai fun R hR=>?_
   unfold shp
   walk_at "r"
   refine aJ rfl ⟨aj (by decide),c,_,_,[],N,rfl,rfl,rfl,ok1,?_⟩
   rw[ct2,fb0]
   exact⟨H,Sub.refl _,h _ _ (by have:=ok1.filter (FT 2 N) (FB 2 N);rw[fb2]at this;exact this) rd2⟩
  ·refine ai fun R hR=>?_
   walk_at "r"
   refine au rfl ?_
   subst hR
   refine ai fun R hR=>?_
   unfold shp
   walk_at "r"
   refine aJ rfl ?_
   refine⟨c,_,_,V,rfl,rfl,ok1,hV,fun r H1 F A hr s1 er an iff=>?_⟩
   show ∀acc,H1 acc=none->_
   intro p hp
   have na:=ay er hp
   refine aC (fun y=>y) (onI fun y=>!decide (y∈A)) (fun σ=>∃z,σ=[z,some (.ref r)]) (by rw[List.length_map];omega) (fun _=>trivial) ?_ ?_ ⟨_,rfl⟩
   ·rintro y hy l σ R ⟨z,rfl⟩ hl kT kF
    obtain⟨k,hk,rfl⟩:=List.mem_map.mp hy
    have e:onI (fun y=>!decide (y∈A)) (PV.int k)=!decide (k∈A):=rfl
    rw[e]at kT kF
    walk_at "r"
    refine⟨_,(ar na).trans er,aH,?_⟩
    simp only[aR,iff]
    by_cases m:k∈A
    ·exact au (by simp[m]) (kF (by simp[m]) _ ⟨_,rfl⟩)
    ·exact aJ (by simp[m]) ⟨hl,by rw[aG];exact kT (by simp[m]) _ ⟨_,rfl⟩⟩
   rw[cY]
   have s2:=s1.put (o:=.lst ((N.filter fun y=>!decide (y∈A)).map PV.int)) (s1.free hp)
   refine⟨aj (by decide),c,_,_,N.filter fun y=>!decide (y∈A),[],rfl,ak,rfl,ok1,?_⟩
   rw[ct1]
   exact⟨H,s2,h _ _ (ok1.filter _ _) (rd3 an)⟩
 ·exact h.elim
theorem BU(T:Tx K mg t):aN P w K mg base CX0 10 t.a_ye t.d_ye ["_law_script"] spL:=by
 refine okU (k:=9) T.F_ye cB (fun vs H Q E h=>by
  unfold spL at h
  split at h
  ·rfl
  ·exact h.elim) (fun cdv A outer s H E B hr=>⟨_,(af (aK (i:=1) cB.nd rfl (by walk_at "o") (cM ah (cL (az (zK T) (hr.mono (by decide)) rfl T.g_zz T.F_zz.kp T.B_zz (aa (qv 0) (aa ah ae))) ah)))
  (af (aK (i:=2) cB.nd rfl (by walk_at "o") (az (Dz T) (hr.mono (by decide)) rfl T.g_zs T.F_zs.kp T.B_zs (aa (qv 0) (aa ah (aa (qv 1) ae)))))
  (af (aK (i:=3) cB.nd rfl (by walk_at "o") (jE T.mk_Drawing (Aq T) (hr.mono (by decide)) rfl T.g_Drawing T.B_zw (aa (qv 1) (aa (aP b9 fS rfl T.b_list boot_list (aa (aw (qv 2) ah (fun _ _=>rfl)) ae)) (aa (aP b9 fS rfl T.b_list boot_list (aa (aw (qv 2) ah (fun _ _=>rfl)) ae)) ae)))))
  (af (bL PassesOwn.never rfl (aM (cK (bG (aa ah (aa ah ae))) (fc (qv 0) (dD ah) (dD ah)))) (av (i:=4) cB.nd rfl (by walk_at "o"))
  (af (iy (az (AV T) (hr.mono (by decide)) rfl T.g_zr T.F_zr.kp T.B_zr (aa (az (AV T) (hr.mono (by decide)) rfl T.g_zr T.F_zr.kp T.B_zr (aa (az (Dl T) (hr.mono (by decide)) rfl T.g_zP T.F_zP.kp T.B_zP (aa (qv 4) (aa (qv 1) (aa ah ae)))) (aa ah ae))) (aa ah ae))) (wI (n:=5) rfl (aS (av (i:=5) cB.nd rfl (by walk_at "o")) (aS (av (i:=6) cB.nd rfl (by walk_at "o")) (aS (av (i:=7) cB.nd rfl (by walk_at "o")) (aS (av (i:=8) cB.nd rfl (by walk_at "o")) (aS (av (i:=9) cB.nd rfl (by walk_at "o")) bY)))))))
   (aq (aO (ax gF gz (aA aD ba rfl T.b_len PySem.boot_len (aa (qv 5) ae)) ah (aI _))
   (af (aK (i:=10) cB.nd rfl (by walk_at "o") (az (DZ T) (hr.mono (by decide)) rfl T.g_zX T.F_zX.kp T.B_zX (aa (qv 7) (aa (qv 8) ae))))
    (aq (bL PassesOwn.never rfl (aM (bG (aa ah (aa ah (aa ah ae))))) (av (i:=11) cB.nd rfl (by walk_at "o"))
    (af (aK (i:=12) cB.nd rfl (by walk_at "o") (az (Dq T) (hr.mono (by decide)) rfl T.g_zh T.F_zh.kp T.B_zh (aa (qv 2) (aa (qv 11) (aa (aY (aa (qv 5) (aa (qv 7) (aa (qv 8) ae)))) (aa (qv 6) ae))))))
     (af (aK (i:=13) cB.nd rfl (by walk_at "o") (az (AW T) (hr.mono (by decide)) rfl T.g_yd T.F_yd.kp T.B_yd (aa (qv 3) (aa (qv 11) (aa (aY (aa (qv 5) (aa (qv 7) (aa (qv 8) ae)))) (aa (qv 6) ae))))))
     (af (aO (bz (aW (az (Ah T) (hr.mono (by decide)) rfl T.g_zf T.F_zf.kp T.B_zf (aa (qv 12) (aa (qv 5) (aa (qv 6) (aa (qv 10) (aa (qv 13) ae))))))))
     (aq (aB bw))
     aF)
     (af (aK (i:=14) cB.nd rfl (by walk_at "o") (az (Cs T) (hr.mono (by decide)) rfl T.g_zT T.F_zT.kp T.B_zT (aa (qv 12) (aa (qv 5) (aa (qv 6) (aa (qv 10) ae))))))
     (af (aO (ax (bZ hr.units) aX (aw (qv 13) ah (fun _ _=>rfl)) (qv 14) (aI _))
     (aq (aB bw))
     aF)
     (af (aT (az (DO T) (hr.mono (by decide)) rfl T.g_zy T.F_zy.kp T.B_zy (aa (qv 13) ae)))
     (af (aK (i:=15) cB.nd rfl (by walk_at "o") (az (AW T) (hr.mono (by decide)) rfl T.g_yd T.F_yd.kp T.B_yd (aa (qv 3) (aa (qv 11) (aa (aY (aa (qv 5) (aa (qv 7) (aa (qv 8) ae)))) (aa (qv 6) ae))))))
     (aq (aO (aU (bJ (ax (bZ hr.units) aX (aw (qv 15) ah (fun _ _=>rfl)) (qv 14) (aI _)) (bK (bz (aW (az (Ah T) (hr.mono (by decide)) rfl T.g_zf T.F_zf.kp T.B_zf (aa (qv 12) (aa (qv 5) (aa (qv 6) (aa (qv 10) (aa (qv 15) ae)))))))))))
     (aq (aB bw))
     aF))))))))))))
   aF))))
  (aq (aB bw)))))),?_⟩)
 intro vs H Q E h
 unfold spL at h
 split at h
 ·rename_i l
  obtain⟨ns,rfl,hl,h⟩:=h
  refine ai fun R hR=>?_
  walk_at "r"
  refine⟨⟨by decide,by decide⟩,ns,rfl,by decide,?_⟩
  have hc:=fm (a:=ns.getD (Int.toNat 0) 0) (b:=5) (by decide)
  generalize hcc:2+(ns.getD (Int.toNat 0) 0).fmod 5=c at *
  have c2:2≤c/\c≤6:=by omega
  subst hR
  refine ai fun R hR=>?_
  walk_at "r"
  refine⟨⟨by decide,by decide⟩,⟨by omega,c2.2⟩,ns,rfl,fun ts bs ok=>?_⟩
  subst hR
  unfold shp
  refine ai fun R hR=>?_
  walk_at "r"
  intro p5 hp5
  refine fun p6 hp6 x dx hx hdx nd=>?_
  have n56:p5≠p6:=fun e=>by subst e;rw[ak]at hp6;cases hp6
  have sa:=(Sub.refl H).put (o:=.lst (ts.map prV)) hp5
  have sb:=sa.put (o:=.lst (bs.map prV)) (sa.free hp6)
  have i1:put (put H p5 (.lst (ts.map prV))) p6 (.lst (bs.map prV)) p5=some (.lst (ts.map prV)):=(ar n56).trans ak
  have i2:put (put H p5 (.lst (ts.map prV))) p6 (.lst (bs.map prV)) p6=some (.lst (bs.map prV)):=ak
  generalize put (put H p5 (.lst (ts.map prV))) p6 (.lst (bs.map prV))=H6 at *
  have sc:=(Sub.refl H6).put (o:=.ins t.a_Drawing dx []) hx
  refine⟨dx,_,_,ts,bs,rfl,sc _ _ i1,sc _ _ i2,df,df,ok.gt,ok.gb,⟨by omega,c2.2,ok.b6⟩,fun T1 B1 pT sT pB sB=>?_⟩
  rw[aG]
  have eT:=DM.eo (List.Perm.refl _) ok.st pT sT
  have eB:=DM.eo (List.Perm.refl _) ok.sb pB sB
  subst eT;subst eB
  have sd:=sb.put (o:=.ins t.a_Drawing dx (DF c ts bs)) (sb.free hx)
  have x3:put H6 x (.ins t.a_Drawing dx (DF c ts bs)) x=some (.ins t.a_Drawing dx (DF c ts bs)):=ak
  generalize put H6 x (.ins t.a_Drawing dx (DF c ts bs))=H7 at *
  subst hR
  refine ai fun R hR=>?_
  walk_at "r"
  obtain⟨m,em,lm⟩:=kS ns (some 2) (some 10)
  rw[em]
  refine⟨aj (by decide),fun p1 hp1 p2 hp2=>⟨_,_,(ar (fun e=>by subst e;rw[ak]at hp2;cases hp2)).trans ak,rfl,aj (by rw[List.length_map];simp;omega),fun p3 hp3=>?_⟩⟩
  have ei:[PV.int 0,PV.int 1]++m.map PV.int=([0,1]++m).map PV.int:=by rw[List.map_append];rfl
  rw[ei]
  have q1:=((Sub.refl H7).put (o:=.lst [PV.int 0,PV.int 1]) hp1)
  have q2:=q1.put (o:=.lst (m.map PV.int)) (q1.free hp2)
  have q3:=q2.put (o:=.lst (([0,1]++m).map PV.int)) (q2.free hp3)
  have x8:=q3 _ _ x3
  have e8:put (put (put H7 p1 (.lst [PV.int 0,PV.int 1])) p2 (.lst (m.map PV.int))) p3 (.lst (([0,1]++m).map PV.int)) p3=some (.lst (([0,1]++m).map PV.int)):=ak
  have t3:=sd.trans q3
  generalize put (put (put H7 p1 (.lst [PV.int 0,PV.int 1])) p2 (.lst (m.map PV.int))) p3 (.lst (([0,1]++m).map PV.int))=H8 at *
  refine bN (fun i σ H9=>∃z1 z2 z3 z4 z5 z6 z7 z8 z9 z10 z11 z12,σ=[some (.fls (ns.map PV.int)),some (.int c),some (.tup [.int c,.tup (ts.map prV),.tup (bs.map prV)]),some (.ref x),z1,z2,z3,z4,z5,z6,z7,z8,z9,z10,z11,z12]/\U.Sub H8 H9) ?_ ?_ ⟨none,none,none,none,none,none,none,none,none,none,none,none,rfl,Sub.refl _⟩
  ·rintro σ H9 ⟨z1,z2,z3,z4,z5,z6,z7,z8,z9,z10,z11,z12,rfl,s9⟩
   refine⟨s9 _ _ e8,?_⟩
   subst hR
   walk_at "r"
   exact⟨H,t3.trans s9,h⟩
  ·rintro N i y σ H9 hy ⟨z1,z2,z3,z4,z5,z6,z7,z8,z9,z10,z11,z12,rfl,s9⟩ kk
   refine⟨s9 _ _ e8,?_⟩
   obtain⟨u,hu,rfl⟩:=List.mem_map.mp (List.mem_of_getElem? hy)
   refine ai fun R1 hR1=>?_
   walk_at "r"
   refine⟨⟨by omega,c2.2⟩,⟨by decide,by decide⟩,fun r1 Ha L1 _ sa1 er1 pt1=>?_⟩
   have pt1:Pt 5 c L1:=pt1
   refine⟨5,c,L1,er1,pt1,⟨by omega,c2.2⟩,by decide,⟨by decide,by decide⟩,fun r2 Hb L2 sb1 er2 pt2 _=>?_⟩
   refine⟨5,c,L2,er2,pt2,⟨by omega,c2.2⟩,by decide,⟨by decide,by decide⟩,fun r3 Hc L3 sc1 er3 pt3 ne1=>?_⟩
   obtain⟨A,N2,S,V,W,rfl⟩:∃A N2 S V W,L3=[A,N2,S,V,W]:=by
    have:=pt3.len
    match L3,this with
    | [A,N2,S,V,W],_=>exact⟨A,N2,S,V,W,rfl⟩
   refine⟨_,er3,rfl,?_⟩
   have s10:=s9.trans (sa1.trans (sb1.trans sc1))
   have nb:N2≠[]:=fun e=>ne1 (by rw[e];rfl)
   unfold tupI
   walk_at "r"
   subst hR1
   walk_at "r"
   by_cases no:A=[]
   ·subst no
    exact au (by simp) (kk _ _ ⟨_,_,_,_,_,_,_,_,_,_,_,_,rfl,s10⟩)
   have st:=pt3.stm no nb
   have dr:∀{Hz:PHp},U.Sub Hc Hz->Dr t Hz x c ts bs:=fun sz=>⟨dx,sz _ _ (s10 _ _ x8)⟩
   refine aJ (by rw[List.length_map];simpa[List.length_pos_iff]using no) ⟨c,S,V,c2.2,rfl,rfl,st.s,st.v,fun G hG iff=>?_⟩
   have ap:=st.ap hG iff
   refine⟨aj (by decide),fun p1 hp1=>?_⟩
   have sq:=(Sub.refl Hc).put (o:=.lst [PV.int 1,.int 2,.int 3]) hp1
   have eq:put Hc p1 (.lst [PV.int 1,.int 2,.int 3]) p1=some (.lst [PV.int 1,.int 2,.int 3]):=ak
   generalize put Hc p1 (.lst [PV.int 1,.int 2,.int 3])=Hd at *
   refine bN (fun i σ He=>∃y1 y2 y3 y4 y5,σ=[some (.fls (ns.map PV.int)),some (.int c),some (.tup [.int c,.tup (ts.map prV),.tup (bs.map prV)]),some (.ref x),some (.int u),some (.tup (A.map PV.int)),some (.tup (N2.map PV.int)),some (.tup (S.map PV.int)),some (.tup (V.map PV.int)),some (.tup (W.map PV.int)),some (.tup (G.map PV.int)),y1,y2,y3,y4,y5]/\U.Sub Hd He) ?_ ?_ ⟨_,_,_,_,_,rfl,Sub.refl _⟩
   ·rintro σ He ⟨y1,y2,y3,y4,y5,rfl,se⟩
    exact⟨se _ _ eq,kk _ _ ⟨_,_,_,_,_,_,_,_,_,_,_,_,rfl,s10.trans (sq.trans se)⟩⟩
   ·rintro M i y σ He hy ⟨y1,y2,y3,y4,y5,rfl,se⟩ kk2
    refine⟨se _ _ eq,?_⟩
    obtain⟨k,rfl,hk⟩:∃k,y=PV.int k/\1≤k/\k≤3:=by
     have:=List.mem_of_getElem? hy
     simp only[List.mem_cons,List.not_mem_nil,or_false]at this
     rcases this with rfl | rfl | rfl
     ·exact⟨1,rfl,by decide,by decide⟩
     ·exact⟨2,rfl,by decide,by decide⟩
     ·exact⟨3,rfl,by decide,by decide⟩
    have sqe:=sq.trans se
    refine ai fun R2 hR2=>?_
    walk_at "r"
    refine⟨aj (by decide),c,ts,bs,S,V,N2,rfl,ok,rfl,rfl,rfl,st.s,st.v,st.n,hk,fun us cs ok1 rd=>?_⟩
    unfold shp
    subst hR2
    refine ai fun R2 hR2=>?_
    walk_at "r"
    refine⟨aj (by decide),c,ts,bs,A,S,V,N2,dr sqe,ok,rfl,rfl,rfl,rfl,st,hk,fun H1 us1 cs1 G1 s1 ok2 rd2 hG1 iff1 ap1=>?_⟩
    obtain⟨e1,e2⟩:=rd.one hk rd2
    subst e1;subst e2
    have e3:=nI hG hG1 iff iff1
    subst e3
    refine vU fun b w H11 s11 tol em side=>?_
    subst hR2
    refine ai fun R2 hR2=>?_
    walk_at "r"
    refine⟨c,us,cs,A,N2,G,b,rfl,rfl,rfl,rfl,ok1,ap.a,ap.g,tol,?_⟩
    subst hR2
    refine ai fun R2 hR2=>?_
    walk_at "r"
    refine⟨c,us,cs,A,N2,G,rfl,rfl,rfl,rfl,ok1,ap.a,ap.g,fun b' M an side'=>?_⟩
    have eb:b=b':=by rw[Bool.eq_iff_iff,side M an,side']
    subst eb
    subst hR2
    refine ai fun R2 hR2=>?_
    walk_at "r"
    refine au (by simp) ?_
    subst hR2
    refine ai fun R2 hR2=>?_
    walk_at "r"
    refine em _ ?_
    subst hR2
    refine ai fun R2 hR2=>?_
    walk_at "r"
    refine⟨aj (by decide),c,ts,bs,A,S,V,N2,dr (sqe.trans s1),ok,rfl,rfl,rfl,rfl,st,hk,fun H2 us2 cs2 G2 s2 ok3 rd3 hG2 iff2 ap2=>?_⟩
    obtain⟨e1,e2⟩:=rd.one hk rd3
    subst e1;subst e2
    have e3:=nI hG hG2 iff iff2
    subst e3
    refine vU fun b2 w2 H12 s12 tol2 em2 side2=>?_
    have eb:b2=b:=by rw[Bool.eq_iff_iff,side M an,side2 M an]
    subst eb
    subst hR2
    walk_at "r"
    refine au (by simp) ?_
    try walk_at "r"
    refine⟨c,us,cs,A,N2,G,b2,rfl,rfl,rfl,rfl,ok1,ap.a,ap.g,tol2,?_⟩
    exact kk2 _ _ ⟨_,_,_,_,_,rfl,se.trans (s1.trans (s2.trans s12))⟩
 ·exact h.elim
end
theorem jN{fd:FuncData}{ps:List Str}(h:∀a,bindArgs fd ⟨[a],[]⟩=pure (List.zip ps [a]))(us:List Value)(hl:us.length=1):bindArgs fd ⟨us,[]⟩=pure (List.zip ps us):=Bo (P:=fun us=>bindArgs fd ⟨us,[]⟩=pure (List.zip ps us)) h us hl
theorem cF{fd:FuncData}{ps:List Str}(h:∀a b,bindArgs fd ⟨[a,b],[]⟩=pure (List.zip ps [a,b]))(us:List Value)(hl:us.length=2):bindArgs fd ⟨us,[]⟩=pure (List.zip ps us):=AL (P:=fun us=>bindArgs fd ⟨us,[]⟩=pure (List.zip ps us)) h us hl
theorem kn{fd:FuncData}{ps:List Str}(h:∀a b c,bindArgs fd ⟨[a,b,c],[]⟩=pure (List.zip ps [a,b,c]))(us:List Value)(hl:us.length=3):bindArgs fd ⟨us,[]⟩=pure (List.zip ps us):=zV (P:=fun us=>bindArgs fd ⟨us,[]⟩=pure (List.zip ps us)) h us hl
theorem gK{fd:FuncData}{ps:List Str}(h:∀a b c d,bindArgs fd ⟨[a,b,c,d],[]⟩=pure (List.zip ps [a,b,c,d]))(us:List Value)(hl:us.length=4):bindArgs fd ⟨us,[]⟩=pure (List.zip ps us):=Bw (P:=fun us=>bindArgs fd ⟨us,[]⟩=pure (List.zip ps us)) h us hl
theorem Bi{fd:FuncData}{ps:List Str}(h:∀a b c d e,bindArgs fd ⟨[a,b,c,d,e],[]⟩=pure (List.zip ps [a,b,c,d,e]))(us:List Value)(hl:us.length=5):bindArgs fd ⟨us,[]⟩=pure (List.zip ps us):=zI (P:=fun us=>bindArgs fd ⟨us,[]⟩=pure (List.zip ps us)) h us hl
theorem CQ{fd:FuncData}{ps:List Str}(h:∀a b c d e f,bindArgs fd ⟨[a,b,c,d,e,f],[]⟩=pure (List.zip ps [a,b,c,d,e,f]))(us:List Value)(hl:us.length=6):bindArgs fd ⟨us,[]⟩=pure (List.zip ps us):=BR (P:=fun us=>bindArgs fd ⟨us,[]⟩=pure (List.zip ps us)) h us hl
open PySem.W in
theorem lO{K:Frag}{h:Heap}{mg:Str->Option Value}{f_zY f_zN f_yb f_zZ f_zU f_zw f_zb f_zd f_ze f_za f_zc f_zk f_zi f_zg f_zM f_zG f_zu f_zo f_zj f_zH f_zI f_zV f_zW f_zQ f_zp f_zE f_zD f_zq f_zm f_zt f_zR f_yc f_zS f_zv f_yd f_zz f_zK f_zJ f_zs f_zO f_ya f_zn f_zB f_zT f_zC f_zA f_zF f_zL f_zx f_zf f_zP f_zr f_zh f_zX f_zy f_ye k_Drawing k_MORE:Addr}(X:K.In h)(G:h.Ns mainGlobals mg)
  {d_zY d_zN d_yb d_zZ d_zU d_zw d_zb d_zd d_ze d_za d_zc d_zk d_zi d_zg d_zM d_zG d_zu d_zo d_zj d_zH d_zI d_zV d_zW d_zQ d_zp d_zE d_zD d_zq d_zm d_zt d_zR d_yc d_zS d_zv d_yd d_zz d_zK d_zJ d_zs d_zO d_ya d_zn d_zB d_zT d_zC d_zA d_zF d_zL d_zx d_zf d_zP d_zr d_zh d_zX d_zy d_ye:FuncData}
  {tk_ASKED tk_MOST_BOWS tk_MOST_NAMES tk_SEEN tk_SET:Tok}
  (C_Drawing:nsIn K mainGlobals "Drawing"=some (some (.ref k_Drawing)))
  (a_zY:nsIn K mainGlobals "is_pair"=some (some (.ref f_zY)))
  (l_zY:Fun K "is_pair" "is_pair" xO f_zY d_zY)
  (a_zN:nsIn K mainGlobals "are_pairs"=some (some (.ref f_zN)))
  (l_zN:Fun K "are_pairs" "are_pairs" sR f_zN d_zN)
  (a_yb:nsIn K mainGlobals "is_set"=some (some (.ref f_yb)))
  (l_yb:Fun K "is_set" "is_set" xC f_yb d_yb)
  (a_zZ:nsIn K mainGlobals "without"=some (some (.ref f_zZ)))
  (l_zZ:Fun K "without" "without" uh f_zZ d_zZ)
  (a_zU:nsIn K mainGlobals "together"=some (some (.ref f_zU)))
  (l_zU:Fun K "together" "together" wc f_zU d_zU)
  (a_zw:findIn K (.ref k_Drawing) "__init__"=some (some (.ref f_zw)))
  (i_zw:isFn K (.ref f_zw)=true)
  (l_zw:Fun K "__init__" "Drawing.__init__" l9 f_zw d_zw)
  (a_zb:findIn K (.ref k_Drawing) "need_name"=some (some (.ref f_zb)))
  (i_zb:isFn K (.ref f_zb)=true)
  (l_zb:Fun K "need_name" "Drawing.need_name" xK f_zb d_zb)
  (a_zd:findIn K (.ref k_Drawing) "need_set"=some (some (.ref f_zd)))
  (i_zd:isFn K (.ref f_zd)=true)
  (l_zd:Fun K "need_set" "Drawing.need_set" yR f_zd d_zd)
  (a_ze:findIn K (.ref k_Drawing) "sources"=some (some (.ref f_ze)))
  (i_ze:isFn K (.ref f_ze)=true)
  (l_ze:Fun K "sources" "Drawing.sources" sX f_ze d_ze)
  (a_za:findIn K (.ref k_Drawing) "followers"=some (some (.ref f_za)))
  (i_za:isFn K (.ref f_za)=true)
  (l_za:Fun K "followers" "Drawing.followers" su f_za d_za)
  (a_zc:findIn K (.ref k_Drawing) "ancestors"=some (some (.ref f_zc)))
  (i_zc:isFn K (.ref f_zc)=true)
  (l_zc:Fun K "ancestors" "Drawing.ancestors" wz f_zc d_zc)
  (a_zk:findIn K (.ref k_Drawing) "bowed"=some (some (.ref f_zk)))
  (i_zk:isFn K (.ref f_zk)=true)
  (l_zk:Fun K "bowed" "Drawing.bowed" rb f_zk d_zk)
  (a_zi:findIn K (.ref k_Drawing) "cut_in"=some (some (.ref f_zi)))
  (i_zi:isFn K (.ref f_zi)=true)
  (l_zi:Fun K "cut_in" "Drawing.cut_in" p8 f_zi d_zi)
  (a_zg:findIn K (.ref k_Drawing) "cut_out"=some (some (.ref f_zg)))
  (i_zg:isFn K (.ref f_zg)=true)
  (l_zg:Fun K "cut_out" "Drawing.cut_out" sM f_zg d_zg)
  (a_zM:nsIn K mainGlobals "need_sets"=some (some (.ref f_zM)))
  (l_zM:Fun K "need_sets" "need_sets" vW f_zM d_zM)
  (a_zG:nsIn K mainGlobals "need_apart"=some (some (.ref f_zG)))
  (l_zG:Fun K "need_apart" "need_apart" xt f_zG d_zG)
  (a_zu:nsIn K mainGlobals "need_barring"=some (some (.ref f_zu)))
  (l_zu:Fun K "need_barring" "need_barring" xc f_zu d_zu)
  (a_zo:nsIn K mainGlobals "points_at_to"=some (some (.ref f_zo)))
  (l_zo:Fun K "points_at_to" "points_at_to" wL f_zo d_zo)
  (a_zj:nsIn K mainGlobals "points_at_from"=some (some (.ref f_zj)))
  (l_zj:Fun K "points_at_from" "points_at_from" v9 f_zj d_zj)
  (a_zH:nsIn K mainGlobals "is_meeting"=some (some (.ref f_zH)))
  (l_zH:Fun K "is_meeting" "is_meeting" wA f_zH d_zH)
  (a_zI:nsIn K mainGlobals "steps_from"=some (some (.ref f_zI)))
  (l_zI:Fun K "steps_from" "steps_from" oK f_zI d_zI)
  (a_zV:nsIn K mainGlobals "names_on"=some (some (.ref f_zV)))
  (l_zV:Fun K "names_on" "names_on" uZ f_zV d_zV)
  (a_zW:nsIn K mainGlobals "meetings"=some (some (.ref f_zW)))
  (l_zW:Fun K "meetings" "meetings" uz f_zW d_zW)
  (a_zQ:nsIn K mainGlobals "is_passed"=some (some (.ref f_zQ)))
  (l_zQ:Fun K "is_passed" "is_passed" yr f_zQ d_zQ)
  (a_zp:nsIn K mainGlobals "asked_beside"=some (some (.ref f_zp)))
  (l_zp:Fun K "asked_beside" "asked_beside" nY f_zp d_zp)
  (a_zE:nsIn K mainGlobals "least_shut"=some (some (.ref f_zE)))
  (l_zE:Fun K "least_shut" "least_shut" uO f_zE d_zE)
  (a_zD:nsIn K mainGlobals "first_roads"=some (some (.ref f_zD)))
  (l_zD:Fun K "first_roads" "first_roads" tX f_zD d_zD)
  (a_zq:nsIn K mainGlobals "longer_roads"=some (some (.ref f_zq)))
  (l_zq:Fun K "longer_roads" "longer_roads" x9 f_zq d_zq)
  (a_zm:nsIn K mainGlobals "shortest_road"=some (some (.ref f_zm)))
  (l_zm:Fun K "shortest_road" "shortest_road" qB f_zm d_zm)
  (a_zt:nsIn K mainGlobals "shortest_way"=some (some (.ref f_zt)))
  (l_zt:Fun K "shortest_way" "shortest_way" oW f_zt d_zt)
  (a_zR:nsIn K mainGlobals "ways_down"=some (some (.ref f_zR)))
  (l_zR:Fun K "ways_down" "ways_down" sg f_zR d_zR)
  (a_yc:nsIn K mainGlobals "barred"=some (some (.ref f_yc)))
  (l_yc:Fun K "barred" "barred" uP f_yc d_yc)
  (a_zS:nsIn K mainGlobals "given_by"=some (some (.ref f_zS)))
  (l_zS:Fun K "given_by" "given_by" xG f_zS d_zS)
  (a_zv:nsIn K mainGlobals "rule_drawing"=some (some (.ref f_zv)))
  (l_zv:Fun K "rule_drawing" "rule_drawing" wg f_zv d_zv)
  (a_yd:nsIn K mainGlobals "joins"=some (some (.ref f_yd)))
  (l_yd:Fun K "joins" "joins" yn f_yd d_yd)
  (a_zz:nsIn K mainGlobals "_law_cell_at"=some (some (.ref f_zz)))
  (l_zz:Fun K "_law_cell_at" "_law_cell_at" xW f_zz d_zz)
  (a_zK:nsIn K mainGlobals "_law_mixed"=some (some (.ref f_zK)))
  (l_zK:Fun K "_law_mixed" "_law_mixed" yz f_zK d_zK)
  (a_zJ:nsIn K mainGlobals "_law_whole"=some (some (.ref f_zJ)))
  (l_zJ:Fun K "_law_whole" "_law_whole" xE f_zJ d_zJ)
  (a_zs:nsIn K mainGlobals "_law_pairs_of"=some (some (.ref f_zs)))
  (l_zs:Fun K "_law_pairs_of" "_law_pairs_of" xY f_zs d_zs)
  (a_zO:nsIn K mainGlobals "_law_above"=some (some (.ref f_zO)))
  (l_zO:Fun K "_law_above" "_law_above" yl f_zO d_zO)
  (a_ya:nsIn K mainGlobals "_law_cut"=some (some (.ref f_ya)))
  (l_ya:Fun K "_law_cut" "_law_cut" rh f_ya d_ya)
  (a_zn:nsIn K mainGlobals "_law_asked_by"=some (some (.ref f_zn)))
  (l_zn:Fun K "_law_asked_by" "_law_asked_by" mG f_zn d_zn)
  (a_zB:nsIn K mainGlobals "_law_reached"=some (some (.ref f_zB)))
  (l_zB:Fun K "_law_reached" "_law_reached" ue f_zB d_zB)
  (a_zT:nsIn K mainGlobals "_law_bars"=some (some (.ref f_zT)))
  (l_zT:Fun K "_law_bars" "_law_bars" sk f_zT d_zT)
  (a_zC:nsIn K mainGlobals "_law_is_shut"=some (some (.ref f_zC)))
  (l_zC:Fun K "_law_is_shut" "_law_is_shut" uU f_zC d_zC)
  (a_zA:nsIn K mainGlobals "_law_is_step"=some (some (.ref f_zA)))
  (l_zA:Fun K "_law_is_step" "_law_is_step" xN f_zA d_zA)
  (a_zF:nsIn K mainGlobals "_law_is_way"=some (some (.ref f_zF)))
  (l_zF:Fun K "_law_is_way" "_law_is_way" yE f_zF d_zF)
  (a_zL:nsIn K mainGlobals "_law_meets"=some (some (.ref f_zL)))
  (l_zL:Fun K "_law_meets" "_law_meets" wD f_zL d_zL)
  (a_zx:nsIn K mainGlobals "_law_is_open"=some (some (.ref f_zx)))
  (l_zx:Fun K "_law_is_open" "_law_is_open" oX f_zx d_zx)
  (a_zf:nsIn K mainGlobals "_law_paper_holds"=some (some (.ref f_zf)))
  (l_zf:Fun K "_law_paper_holds" "_law_paper_holds" wt f_zf d_zf)
  (a_zP:nsIn K mainGlobals "_law_roles"=some (some (.ref f_zP)))
  (l_zP:Fun K "_law_roles" "_law_roles" qz f_zP d_zP)
  (a_zr:nsIn K mainGlobals "_law_moved_to"=some (some (.ref f_zr)))
  (l_zr:Fun K "_law_moved_to" "_law_moved_to" xD f_zr d_zr)
  (a_zh:nsIn K mainGlobals "_law_rule_drawn"=some (some (.ref f_zh)))
  (l_zh:Fun K "_law_rule_drawn" "_law_rule_drawn" tM f_zh d_zh)
  (a_zX:nsIn K mainGlobals "_law_both"=some (some (.ref f_zX)))
  (l_zX:Fun K "_law_both" "_law_both" wO f_zX d_zX)
  (a_zy:nsIn K mainGlobals "_law_emptied"=some (some (.ref f_zy)))
  (l_zy:Fun K "_law_emptied" "_law_emptied" wC f_zy d_zy)
  (a_ye:nsIn K mainGlobals "law"=some (some (.ref f_ye)))
  (l_ye:Fun K "law" "law" v7 f_ye d_ye)
  (pg_Drawing:plainGet K k_Drawing Str.empty=true)
  (hd_Drawing:hasDictIn K k_Drawing=true)
  (po_Drawing:plainOver K k_Drawing=true)
  (sa_Drawing:findIn K (.ref k_Drawing) "__setattr__"=some (some (.builtin "object.__setattr__")))
  (mk_Drawing:makesIn K k_Drawing=true)
  (kc_Drawing:keepIn K (.ref k_Drawing)=true)
  (z_all:nsIn K mainGlobals "all"=some none)
  (z_any:nsIn K mainGlobals "any"=some none)
  (z_bool:nsIn K mainGlobals "bool"=some none)
  (z_int:nsIn K mainGlobals "int"=some none)
  (z_isinstance:nsIn K mainGlobals "isinstance"=some none)
  (z_len:nsIn K mainGlobals "len"=some none)
  (z_list:nsIn K mainGlobals "list"=some none)
  (z_max:nsIn K mainGlobals "max"=some none)
  (z_min:nsIn K mainGlobals "min"=some none)
  (z_range:nsIn K mainGlobals "range"=some none)
  (z_reversed:nsIn K mainGlobals "reversed"=some none)
  (z_set:nsIn K mainGlobals "set"=some none)
  (z_sorted:nsIn K mainGlobals "sorted"=some none)
  (z_str:nsIn K mainGlobals "str"=some none)
  (z_tuple:nsIn K mainGlobals "tuple"=some none)
  (z_zip:nsIn K mainGlobals "zip"=some none)
  (v_ASKED:nsIn K mainGlobals "ASKED"=some (some (.int 0 tk_ASKED)))
  (v_MOST_BOWS:nsIn K mainGlobals "MOST_BOWS"=some (some (.int 6 tk_MOST_BOWS)))
  (v_MOST_NAMES:nsIn K mainGlobals "MOST_NAMES"=some (some (.int 6 tk_MOST_NAMES)))
  (v_SEEN:nsIn K mainGlobals "SEEN"=some (some (.int 2 tk_SEEN)))
  (v_SET:nsIn K mainGlobals "SET"=some (some (.int 1 tk_SET)))
  (n_Drawing_bows:findIn K (.ref k_Drawing) "bows"=some none)
  (n_Drawing_count:findIn K (.ref k_Drawing) "count"=some none)
  (n_Drawing_ties:findIn K (.ref k_Drawing) "ties"=some none)
  (C_MORE:nsIn K mainGlobals "MORE"=some (some (.ref k_MORE)))
  (o_MORE:okIn K k_MORE [1,2,3]=true) :
  ∃t:Ad,Tx K mg t/\t.a_ye=f_ye/\∀(s:Shared) (v:Value),BindsTo s t.d_ye ⟨[v],[]⟩ [("_law_script",v)]:=by
 obtain⟨oc,od,kV,doc,pm,an,cdv,ct,osl,rfl,lk,hcd⟩:=l_ye.ex
 exact⟨⟨f_zY,_,f_zN,_,f_yb,_,f_zZ,_,f_zU,_,f_zw,_,f_zb,_,f_zd,_,f_ze,_,f_za,_,f_zc,_,f_zk,_,f_zi,_,f_zg,_,f_zM,_,f_zG,_,f_zu,_,f_zo,_,f_zj,_,f_zH,_,f_zI,_,f_zV,_,f_zW,_,f_zQ,_,f_zp,_,f_zE,_,f_zD,_,f_zq,_,f_zm,_,f_zt,_,f_zR,_,f_yc,_,f_zS,_,f_zv,_,f_yd,_,f_zz,_,f_zK,_,f_zJ,_,f_zs,_,f_zO,_,f_ya,_,f_zn,_,f_zB,_,f_zT,_,f_zC,_,f_zA,_,f_zF,_,f_zL,_,f_zx,_,f_zf,_,f_zP,_,f_zr,_,f_zh,_,f_zX,_,f_zy,_,f_ye,_,k_Drawing,k_MORE⟩,⟨l_zY,
  l_zY.binds fun _ _ _ _ _ _=>cF fun _ _=>rfl,
  mg_of X G a_zY,
  l_zN,
  l_zN.binds fun _ _ _ _ _ _=>cF fun _ _=>rfl,
  mg_of X G a_zN,
  l_yb,
  l_yb.binds fun _ _ _ _ _ _=>cF fun _ _=>rfl,
  mg_of X G a_yb,
  l_zZ,
  l_zZ.binds fun _ _ _ _ _ _=>cF fun _ _=>rfl,
  mg_of X G a_zZ,
  l_zU,
  l_zU.binds fun _ _ _ _ _ _=>cF fun _ _=>rfl,
  mg_of X G a_zU,
  l_zw,
  l_zw.binds fun _ _ _ _ _ _=>gK fun _ _ _ _=>rfl,
  l_zb,
  l_zb.binds fun _ _ _ _ _ _=>cF fun _ _=>rfl,
  ⟨a_zb,i_zb,l_zb.kp⟩,
  l_zd,
  l_zd.binds fun _ _ _ _ _ _=>cF fun _ _=>rfl,
  ⟨a_zd,i_zd,l_zd.kp⟩,
  l_ze,
  l_ze.binds fun _ _ _ _ _ _=>cF fun _ _=>rfl,
  ⟨a_ze,i_ze,l_ze.kp⟩,
  l_za,
  l_za.binds fun _ _ _ _ _ _=>cF fun _ _=>rfl,
  ⟨a_za,i_za,l_za.kp⟩,
  l_zc,
  l_zc.binds fun _ _ _ _ _ _=>cF fun _ _=>rfl,
  ⟨a_zc,i_zc,l_zc.kp⟩,
  l_zk,
  l_zk.binds fun _ _ _ _ _ _=>cF fun _ _=>rfl,
  ⟨a_zk,i_zk,l_zk.kp⟩,
  l_zi,
  l_zi.binds fun _ _ _ _ _ _=>cF fun _ _=>rfl,
  ⟨a_zi,i_zi,l_zi.kp⟩,
  l_zg,
  l_zg.binds fun _ _ _ _ _ _=>cF fun _ _=>rfl,
  ⟨a_zg,i_zg,l_zg.kp⟩,
  l_zM,
  l_zM.binds fun _ _ _ _ _ _=>cF fun _ _=>rfl,
  mg_of X G a_zM,
  l_zG,
  l_zG.binds fun _ _ _ _ _ _=>jN fun _=>rfl,
  mg_of X G a_zG,
  l_zu,
  l_zu.binds fun _ _ _ _ _ _=>gK fun _ _ _ _=>rfl,
  mg_of X G a_zu,
  l_zo,
  l_zo.binds fun _ _ _ _ _ _=>jN fun _=>rfl,
  mg_of X G a_zo,
  l_zj,
  l_zj.binds fun _ _ _ _ _ _=>jN fun _=>rfl,
  mg_of X G a_zj,
  l_zH,
  l_zH.binds fun _ _ _ _ _ _=>cF fun _ _=>rfl,
  mg_of X G a_zH,
  l_zI,
  l_zI.binds fun _ _ _ _ _ _=>cF fun _ _=>rfl,
  mg_of X G a_zI,
  l_zV,
  l_zV.binds fun _ _ _ _ _ _=>jN fun _=>rfl,
  mg_of X G a_zV,
  l_zW,
  l_zW.binds fun _ _ _ _ _ _=>jN fun _=>rfl,
  mg_of X G a_zW,
  l_zQ,
  l_zQ.binds fun _ _ _ _ _ _=>gK fun _ _ _ _=>rfl,
  mg_of X G a_zQ,
  l_zp,
  l_zp.binds fun _ _ _ _ _ _=>gK fun _ _ _ _=>rfl,
  mg_of X G a_zp,
  l_zE,
  l_zE.binds fun _ _ _ _ _ _=>kn fun _ _ _=>rfl,
  mg_of X G a_zE,
  l_zD,
  l_zD.binds fun _ _ _ _ _ _=>cF fun _ _=>rfl,
  mg_of X G a_zD,
  l_zq,
  l_zq.binds fun _ _ _ _ _ _=>kn fun _ _ _=>rfl,
  mg_of X G a_zq,
  l_zm,
  l_zm.binds fun _ _ _ _ _ _=>gK fun _ _ _ _=>rfl,
  mg_of X G a_zm,
  l_zt,
  l_zt.binds fun _ _ _ _ _ _=>kn fun _ _ _=>rfl,
  mg_of X G a_zt,
  l_zR,
  l_zR.binds fun _ _ _ _ _ _=>kn fun _ _ _=>rfl,
  mg_of X G a_zR,
  l_yc,
  l_yc.binds fun _ _ _ _ _ _=>gK fun _ _ _ _=>rfl,
  mg_of X G a_yc,
  l_zS,
  l_zS.binds fun _ _ _ _ _ _=>jN fun _=>rfl,
  mg_of X G a_zS,
  l_zv,
  l_zv.binds fun _ _ _ _ _ _=>gK fun _ _ _ _=>rfl,
  mg_of X G a_zv,
  l_yd,
  l_yd.binds fun _ _ _ _ _ _=>gK fun _ _ _ _=>rfl,
  mg_of X G a_yd,
  l_zz,
  l_zz.binds fun _ _ _ _ _ _=>cF fun _ _=>rfl,
  mg_of X G a_zz,
  l_zK,
  l_zK.binds fun _ _ _ _ _ _=>cF fun _ _=>rfl,
  mg_of X G a_zK,
  l_zJ,
  l_zJ.binds fun _ _ _ _ _ _=>jN fun _=>rfl,
  mg_of X G a_zJ,
  l_zs,
  l_zs.binds fun _ _ _ _ _ _=>kn fun _ _ _=>rfl,
  mg_of X G a_zs,
  l_zO,
  l_zO.binds fun _ _ _ _ _ _=>cF fun _ _=>rfl,
  mg_of X G a_zO,
  l_ya,
  l_ya.binds fun _ _ _ _ _ _=>kn fun _ _ _=>rfl,
  mg_of X G a_ya,
  l_zn,
  l_zn.binds fun _ _ _ _ _ _=>gK fun _ _ _ _=>rfl,
  mg_of X G a_zn,
  l_zB,
  l_zB.binds fun _ _ _ _ _ _=>kn fun _ _ _=>rfl,
  mg_of X G a_zB,
  l_zT,
  l_zT.binds fun _ _ _ _ _ _=>gK fun _ _ _ _=>rfl,
  mg_of X G a_zT,
  l_zC,
  l_zC.binds fun _ _ _ _ _ _=>Bi fun _ _ _ _ _=>rfl,
  mg_of X G a_zC,
  l_zA,
  l_zA.binds fun _ _ _ _ _ _=>cF fun _ _=>rfl,
  mg_of X G a_zA,
  l_zF,
  l_zF.binds fun _ _ _ _ _ _=>gK fun _ _ _ _=>rfl,
  mg_of X G a_zF,
  l_zL,
  l_zL.binds fun _ _ _ _ _ _=>cF fun _ _=>rfl,
  mg_of X G a_zL,
  l_zx,
  l_zx.binds fun _ _ _ _ _ _=>CQ fun _ _ _ _ _ _=>rfl,
  mg_of X G a_zx,
  l_zf,
  l_zf.binds fun _ _ _ _ _ _=>Bi fun _ _ _ _ _=>rfl,
  mg_of X G a_zf,
  l_zP,
  l_zP.binds fun _ _ _ _ _ _=>kn fun _ _ _=>rfl,
  mg_of X G a_zP,
  l_zr,
  l_zr.binds fun _ _ _ _ _ _=>cF fun _ _=>rfl,
  mg_of X G a_zr,
  l_zh,
  l_zh.binds fun _ _ _ _ _ _=>gK fun _ _ _ _=>rfl,
  mg_of X G a_zh,
  l_zX,
  l_zX.binds fun _ _ _ _ _ _=>cF fun _ _=>rfl,
  mg_of X G a_zX,
  l_zy,
  l_zy.binds fun _ _ _ _ _ _=>jN fun _=>rfl,
  mg_of X G a_zy,
  l_ye,
  l_ye.binds fun _ _ _ _ _ _=>jN fun _=>rfl,
  mg_of X G a_ye,
  mg_of X G C_Drawing,
  ⟨pg_Drawing,hd_Drawing,po_Drawing,sa_Drawing⟩,
  ⟨mk_Drawing,a_zw,i_zw,kc_Drawing⟩,
  mg_none_of X G z_all,
  mg_none_of X G z_any,
  mg_none_of X G z_bool,
  mg_none_of X G z_int,
  mg_none_of X G z_isinstance,
  mg_none_of X G z_len,
  mg_none_of X G z_list,
  mg_none_of X G z_max,
  mg_none_of X G z_min,
  mg_none_of X G z_range,
  mg_none_of X G z_reversed,
  mg_none_of X G z_set,
  mg_none_of X G z_sorted,
  mg_none_of X G z_str,
  mg_none_of X G z_tuple,
  mg_none_of X G z_zip,
  ⟨_,mg_of X G v_ASKED,⟨_,rfl⟩⟩,
  ⟨_,mg_of X G v_MOST_BOWS,⟨_,rfl⟩⟩,
  ⟨_,mg_of X G v_MOST_NAMES,⟨_,rfl⟩⟩,
  ⟨_,mg_of X G v_SEEN,⟨_,rfl⟩⟩,
  ⟨_,mg_of X G v_SET,⟨_,rfl⟩⟩,
  n_Drawing_bows,
  n_Drawing_count,
  n_Drawing_ties,
  ⟨_,mg_of X G C_MORE,rfl⟩,o_MORE⟩,rfl,fun s v=>.of_eq rfl⟩
theorem zq{K:PySem.W.Frag}{mg:Str->Option Value}{f:Addr}{x:Str}(h:∃t:Ad,Tx K mg t/\t.a_ye=f/\∀(s:Shared) (v:Value),BindsTo s t.d_ye ⟨[v],[]⟩ [(x,v)])(e:mg "law"=some (.ref f)) :
  ∃t:Ad,Tx K mg t/\mg "law"=some (.ref t.a_ye)/\∀(s:Shared) (v:Value),BindsTo s t.d_ye ⟨[v],[]⟩ [(x,v)]:=by
 obtain⟨t,T,rfl,b⟩:=h
 exact⟨t,T,e,b⟩
end Lw
open PySem PySem.W PyProof.Rows
set_option maxRecDepth 100000 in
set_option maxHeartbeats 0 in
theorem PySem.Challenge.cw_doingbook_k61_rules_that_join_holds : PySem.Challenge.rw_doingbook_k61_rules_that_join.Holds := by
 w_on;o_law;k_head;(case hw=>w_witness2)
 k_fill
 refine L2.qf (l:=PySem.Challenge.rw_doingbook_k61_rules_that_join) (n:=63) (k:=10) (x:="_law_script") (CX:=L2.CX0) (sp:=fun K=>U.gA K U.spL) rfl (by decide) rfl ⟨rfl,by decide,by decide⟩ (fun w h Y=>PySem.W.kIn_of Y) ?F (fun K H a ns hl hO hS=>U.pf hl hO hS) (fun _ _ _ _ z=>z)
 case F =>
  intro w mg fa h KX G hmg
  have T:∃t:Lw.Ad,Lw.Tx (L2.KOf KX) mg t/\mg "law"=some (.ref t.a_ye)/\∀(s:Shared) (v:Value),BindsTo s t.d_ye ⟨[v],[]⟩ [("_law_script",v)]:=by
   dsimp only[L2.KOf]
   refine' Lw.zq (Lw.lO KX G ?C_Drawing ?a_zY ?l_zY ?a_zN ?l_zN ?a_yb ?l_yb ?a_zZ ?l_zZ ?a_zU ?l_zU ?a_zw ?i_zw ?l_zw ?a_zb ?i_zb ?l_zb ?a_zd ?i_zd ?l_zd ?a_ze ?i_ze ?l_ze ?a_za ?i_za ?l_za ?a_zc ?i_zc ?l_zc ?a_zk ?i_zk ?l_zk ?a_zi ?i_zi ?l_zi ?a_zg ?i_zg ?l_zg ?a_zM ?l_zM ?a_zG ?l_zG ?a_zu ?l_zu ?a_zo ?l_zo ?a_zj ?l_zj ?a_zH ?l_zH ?a_zI ?l_zI ?a_zV ?l_zV ?a_zW ?l_zW ?a_zQ ?l_zQ ?a_zp ?l_zp ?a_zE ?l_zE ?a_zD ?l_zD ?a_zq ?l_zq ?a_zm ?l_zm ?a_zt ?l_zt ?a_zR ?l_zR ?a_yc ?l_yc ?a_zS ?l_zS ?a_zv ?l_zv ?a_yd ?l_yd ?a_zz ?l_zz ?a_zK ?l_zK ?a_zJ ?l_zJ ?a_zs ?l_zs ?a_zO ?l_zO ?a_ya ?l_ya ?a_zn ?l_zn ?a_zB ?l_zB ?a_zT ?l_zT ?a_zC ?l_zC ?a_zA ?l_zA ?a_zF ?l_zF ?a_zL ?l_zL ?a_zx ?l_zx ?a_zf ?l_zf ?a_zP ?l_zP ?a_zr ?l_zr ?a_zh ?l_zh ?a_zX ?l_zX ?a_zy ?l_zy ?a_ye ?l_ye ?pg_Drawing ?hd_Drawing ?po_Drawing ?sa_Drawing ?mk_Drawing ?kc_Drawing ?z_all ?z_any ?z_bool ?z_int ?z_isinstance ?z_len ?z_list ?z_max ?z_min ?z_range ?z_reversed ?z_set ?z_sorted ?z_str ?z_tuple ?z_zip ?v_ASKED ?v_MOST_BOWS ?v_MOST_NAMES ?v_SEEN ?v_SET ?n_Drawing_bows ?n_Drawing_count ?n_Drawing_ties ?C_MORE ?o_MORE) ?tl
   case C_Drawing | a_zY | a_zN | a_yb | a_zZ | a_zU | a_zw | i_zw | a_zb | i_zb | a_zd | i_zd | a_ze | i_ze | a_za | i_za | a_zc | i_zc | a_zk | i_zk | a_zi | i_zi | a_zg | i_zg | a_zM | a_zG | a_zu | a_zo | a_zj | a_zH | a_zI | a_zV | a_zW | a_zQ | a_zp | a_zE | a_zD | a_zq | a_zm | a_zt | a_zR | a_yc | a_zS | a_zv | a_yd | a_zz | a_zK | a_zJ | a_zs | a_zO | a_ya | a_zn | a_zB | a_zT | a_zC | a_zA | a_zF | a_zL | a_zx | a_zf | a_zP | a_zr | a_zh | a_zX | a_zy | a_ye | pg_Drawing | hd_Drawing | po_Drawing | sa_Drawing | mk_Drawing | kc_Drawing | z_all | z_any | z_bool | z_int | z_isinstance | z_len | z_list | z_max | z_min | z_range | z_reversed | z_set | z_sorted | z_str | z_tuple | z_zip | v_ASKED | v_MOST_BOWS | v_MOST_NAMES | v_SEEN | v_SET | n_Drawing_bows | n_Drawing_count | n_Drawing_ties | C_MORE=>k_is
   case l_zY | l_zN | l_yb | l_zZ | l_zU | l_zw | l_zb | l_zd | l_ze | l_za | l_zc | l_zk | l_zi | l_zg | l_zM | l_zG | l_zu | l_zo | l_zj | l_zH | l_zI | l_zV | l_zW | l_zQ | l_zp | l_zE | l_zD | l_zq | l_zm | l_zt | l_zR | l_yc | l_zS | l_zv | l_yd | l_zz | l_zK | l_zJ | l_zs | l_zO | l_ya | l_zn | l_zB | l_zT | l_zC | l_zA | l_zF | l_zL | l_zx | l_zf | l_zP | l_zr | l_zh | l_zX | l_zy | l_ye=>apply L2.x6<;>k_is
   (case o_MORE=>kernel_rfl)
   (case tl=>exact PySem.W.mg_of KX G (by k_is))
  obtain⟨t,T,e,hb⟩:=T
  have e0:=hmg.symm.trans e
  cases e0
  exact⟨t.d_ye,hb,fun base kb nb=>Lw.BU T⟩
