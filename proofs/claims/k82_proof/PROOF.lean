import PyProof.Rows.All
import Wide.All
import OpenK.AllK
import Wide.FinOn
import Lean
import PyProof.EqAt
import PyProof.EqKinds
import PyProof.TupleCall
import PyProof.NeKinds
import PyProof.StationsW
import PyProof.RulesAs
import PyProof.ExcClass2
import PyProof.IsiH_tuple
import PyProof.NsDelKeeps
import PyProof.ConsumeWalk
import PyProof.Rows.SortWalk
import PySem.SetOps
import PySem.Builtin.Tuple.Common
import PyProof.Rows.SetFrom
import PyProof.TupleKey
import PyProof.SetRoads
import KE.KSortTup
import PyProof.DictWalks
import PyProof.FactsAll.set
import PyProof.CollectWalk
import KE.KDictList
import PyProof.Rows.Range3
import PyProof.Rows.StrWeight2
import PyProof.StrBlock
import PyProof.ListStr
import PyProof.SliceStr2
import PyProof.StrBlockI
import KE.KRevSl
import PyProof.StrLawsTight
import PyProof.StrLawsIn
import PyProof.Rows.StrNews
import PyProof.SetScanFacts
import PyProof.SumAny
import PyProof.StrLaws
import PyProof.StrLawsIdx
import PyProof.StrLawsChain
import PySem.Challenge.RW_doingbook_k82_what_is_no_drawings_text
set_option Elab.async false
namespace PySem.W.Fast
def tw3852125493549976968:=()
def tw4512664891403496193:=()
def tw17823776596477516574:=()
def tw56423098839459701:=()
def tw16474997093371728363:=()
def tw13195423239042803487:=()
def tw1441330362530830507:=()
def tw198837854111126175:=()
def tw12843867122013163193:=()
def tw16385886064115044033:=()
def tw12650461811523702340:=()
def tw8572395571374695369:=()
def tw15661405173499479619:=()
def tw12263732794309753316:=()
def tw9022359500168636552:=()
def tw15424308961902588600:=()
def tw11613729625666916736:=()
def tw17437258276221619256:=()
def tw15503800374955378630:=()
def tw13485556434630906786:=()
def tw722306518529220491:=()
def tw251263709597327161:=()
def tw2633926940694776969:=()
def tw14546254365616496610:=()
def tw8234479923358591546:=()
def tw5442303198652152324:=()
def tw13750742427890292976:=()
def tw6508101631595102122:=()
def tw1174841268160344694:=()
def tw16557437499774043168:=()
def tw16936277927399242922:=()
def tw18187962360208326417:=()
def tw864777555961180025:=()
def tw10539638627029328129:=()
def tw10285865573725640701:=()
def tw8980717929506470878:=()
def tw9144832180287174249:=()
def tw2231296047809009308:=()
def tw8805953318120966949:=()
def tw8046080941720743232:=()
def tw10293104744894279834:=()
def tw3162657649931055322:=()
def tw4546460932028229137:=()
def tw14584410578486683260:=()
def tw18281472397269064395:=()
def tw11094264102454067026:=()
def tw4385729568068352711:=()
def tw14617541408045308136:=()
def tw3952597370407612192:=()
def tw14595485338953519885:=()
def tw9009699622990767553:=()
def tw15669208401171311225:=()
def tw13270404169266413684:=()
def tw4854614939607317839:=()
def tw1833604788735066750:=()
def tw17032316089568922999:=()
def tw15117540061253133317:=()
def tw16053300597744043367:=()
def tw1131387185867800320:=()
def tw11429820901016074932:=()
def tw13013815841776142719:=()
def tw11877583538916829949:=()
def tw6996596474047912953:=()
def tw909670203668939934:=()
def tw5584255140536549829:=()
def tw15287172489669409028:=()
def tw1440326032482400233:=()
def tw12949534867648047058:=()
def tw9445686682281939466:=()
def tw7516883430379413911:=()
def tw12410621932406064335:=()
def tw766455448340742762:=()
def tw530443707035916412:=()
def tw6151708246778766181:=()
def tw4509928201787946833:=()
def tw12320235945086747693:=()
def tw9587058219463139093:=()
def tw773614563686499646:=()
def tw13144849326378041066:=()
def tw11640593960215115337:=()
def tw17148493432992351982:=()
def tw12885236920146781827:=()
def tw11857381143380174828:=()
def tw2418495568997116942:=()
def tw10292954162675663198:=()
def tw1473533235822000344:=()
def tw6980941611480061870:=()
def tw10248836916513194096:=()
def tw13126925150128722870:=()
def tw3155892326164290057:=()
def tw17568287263457539313:=()
def tw10540311192891782157:=()
def tw13321390939366739765:=()
def tw14498872868960298898:=()
def tw3752645157199512569:=()
def tw7600810009201044472:=()
def tw6976451666082285324:=()
def tw1919661682092157494:=()
def tw6648866515512989609:=()
def tw8020621502637456936:=()
def tw3870245140897536960:=()
def tw8481039109553018297:=()
def tw7822415963373972502:=()
def tw13391690601178653386:=()
def tw5752403432846837519:=()
def tw16905434618202839759:=()
def tw17754259402538079647:=()
def tw13941592728522610768:=()
def tw3248367908136144610:=()
def tw13249224493125262977:=()
def tw10418883554077395345:=()
def tw6220219465660370544:=()
def tw3288446189466619140:=()
def tw17195810095954095281:=()
def tw12681334033896409627:=()
def tw4354516687355181738:=()
def tw3484453216325417249:=()
def tw2877179739453529785:=()
def tw12834641521669194149:=()
def tw1978364157588635980:=()
def tw8307918617102066942:=()
def tw16878141320143544066:=()
def tw4473837305790137980:=()
def tw14879140181345913366:=()
def tw11217027755681456533:=()
def tw16716869038502847391:=()
def tw244997554962915911:=()
def tw11243567622082272607:=()
def tw3856606772641196632:=()
def tw2773210441215488199:=()
def tw3775873147538040298:=()
def tw4571999012240156510:=()
def tw9965388640302078237:=()
def tw1934161868758780925:=()
def tw7844957071935794179:=()
def tw3870023488801431393:=()
def tw13839814375752867812:=()
def tw6323466530999040890:=()
def tw14250076229336028585:=()
def tw16172146196656914976:=()
def tw11966831025560394476:=()
def tw15809340945481737123:=()
def tw6941463214816158466:=()
def tw13103350739823580927:=()
def tw2335460374526766472:=()
def tw7360203802905424295:=()
def tw13063993538782539255:=()
def tw17255297520786789240:=()
def tw13971283313294476150:=()
def tw14812628352596504984:=()
def tw17694401429879425131:=()
def tw12262478902624145021:=()
def tw4246519245098802114:=()
def tw13234789510294302046:=()
def tw18269778411542328824:=()
def tw15926635634594777869:=()
def tw8734507832567242133:=()
def tw1425925387462136888:=()
def tw17379598964068488114:=()
def tw1518957834567929129:=()
def tw10198816132377231271:=()
def tw519561797067433386:=()
def tw13585853319706585310:=()
def tw16293619979881669942:=()
def tw9054247088417850850:=()
def tw3028032731747529532:=()
def tw4974984751259428399:=()
def tw5951113161424339001:=()
def tw4483646053019694757:=()
def tw1929390039335877872:=()
def tw11535803127874323820:=()
def tw14670925466877159141:=()
def tw10246117781148508227:=()
def tw15783047827160009448:=()
def tw6126552237866946330:=()
def tw11089549995816362017:=()
def tw3490970631383297763:=()
def tw13991299843268697479:=()
def tw6735862222929262284:=()
def tw5086298136419613981:=()
def tw5290364445331628289:=()
def tw7017104649915216064:=()
def tw8153733594020239324:=()
def tw10306822233821782013:=()
def tw11432355959072108244:=()
def tw6910449080857027214:=()
def tw1400697285896922418:=()
def tw2935649061049022817:=()
def tw4642812587475196771:=()
def tw182170032108690603:=()
def tw9688303097946308911:=()
def tw10809500897005274334:=()
def tw8457723834094798640:=()
def tw9094853131066961666:=()
def tw13992823063767761465:=()
def tw8934577419456032623:=()
def tw3956026454347327249:=()
def tw11399293762503253781:=()
def tw5258030394892074231:=()
def tw2746228443663774478:=()
def tw11045345596636973998:=()
def tw12271546715425868120:=()
def tw13496193322312222157:=()
def tw13603306663837378123:=()
def tw8534343305640600706:=()
def tw13984634812014649408:=()
def tw1029266828053616823:=()
def tw3286848677226285240:=()
def tw6944081318271757779:=()
def tw18230156863464154009:=()
def tw4723798957687697983:=()
def tw1947249246592921142:=()
def tw1807245166978418203:=()
def tw6635221442636116741:=()
def tw16573166368560381959:=()
def tw1060514205946886045:=()
def tw13614386941323583478:=()
def tw528154705297613607:=()
def tw13021757333860904012:=()
def tw11575540193600335944:=()
def tw12700098001308544602:=()
def tw5182386293280462108:=()
def tw1498124635128837872:=()
def tw12627838325629429759:=()
def tw3403225231277496077:=()
def tw4786265459281451831:=()
def tw7171363310447587914:=()
def tw18006865517480785094:=()
def tw8762044274267131048:=()
def tw17529863893189667448:=()
def tw16001576593369812375:=()
def tw10114406617540175313:=()
def tw5993523844944041987:=()
def tw10497361962906231036:=()
def tw14983548413478159283:=()
def tw2926982544308309935:=()
def tw18283640749686524922:=()
def tw719323621116622626:=()
def tw13487641098323263343:=()
def tw9846328795030983209:=()
def tw14211686693294361830:=()
def tw11455560007971445619:=()
def tw8389460245860561991:=()
def tw14801027188957641750:=()
def tw14449601427618703624:=()
def tw2043954612658855904:=()
def tw10762839310331187524:=()
def tw11621933256368556029:=()
def tw10803219274788967663:=()
def tw14319810326271318778:=()
def tw15137821255460383710:=()
def tw1797322890039083838:=()
def tw14771167982220876619:=()
def tw6177417947947450339:=()
def tw7144211734908180257:=()
def tw17381651715920648438:=()
def tw3860840881193845647:=()
def tw5554482586897680460:=()
def tw14936892580769766523:=()
def tw16294030252776938301:=()
def tw553465250850287469:=()
def tw6037033850778549505:=()
def tw1284384807270438066:=()
def tw18376933331366433643:=()
def tw16352100500018421186:=()
def tw5140696489792388471:=()
def tw6444422520143456988:=()
def tw9402122382077631887:=()
def tw11242734468811156944:=()
def tw6394611321384206689:=()
def tw15051962642676826429:=()
def tw4508109626457824391:=()
def tw3928906482655653595:=()
def tw1022084591684896956:=()
def tw4007491490707822234:=()
def tw6961189342576349886:=()
def tw6860674012448813765:=()
def tw5749924790034822163:=()
def tw15921820998893149438:=()
def tw10694454274040738063:=()
def tw16983923022226376625:=()
def tw17863224841475208846:=()
def tw8510663554279410559:=()
def tw16338787316655801100:=()
def tw4110880683518705585:=()
def tw17075918379105192162:=()
def tw17396772292283467956:=()
def tw13494976744904873813:=()
def tw1272065617457551884:=()
def tw4881272645708912336:=()
def tw12825975050532095379:=()
def tw14943534339039835154:=()
def tw17275209996702418880:=()
def tw1916286847910150600:=()
def tw9695396196751817938:=()
def tw891000428325977410:=()
def tw3402701549267163158:=()
def tw6128896011297227874:=()
def tw16891217697430418777:=()
def tw16988428223308979459:=()
def tw15037084140816199439:=()
def tw17263228824435082578:=()
def tw2564386855397605080:=()
def tw12988954236655245693:=()
def tw8516874743896957472:=()
def tw2871793589646633149:=()
def tw12834869938288377007:=()
def tw11651824150467216404:=()
def tw581737815195075917:=()
def tw12710431745814092369:=()
def tw10811193867048456419:=()
def tw16361163296992464618:=()
def tw912606263129899029:=()
def tw8731488313084764939:=()
def tw17791398085672661766:=()
def tw5203693306218110801:=()
def tw11640420410962835592:=()
end PySem.W.Fast
set_option genSizeOf false
-- CHANGE: your row's module here, as the last of these rows
set_option Elab.async false
set_option linter.all false
set_option maxRecDepth 100000
namespace L2
open PySem PySem.Spec PyProof.Rows

abbrev Key := Sum Int Str
def keyIs : Key → Value → Bool
  | .inl k, v => Value.isInt k v
  | .inr x, v => Value.isStrOf x v
def keyH (w : World) : Key → Int
  | .inl k => hashInt k
  | .inr x => hashStr w x
theorem keyIs_shape : ∀ {k : Key} {v : Value}, keyIs k v = true → (∃ i t, k = Sum.inl i ∧ v = Value.int i t) ∨ (∃ x t, k = Sum.inr x ∧ v = Value.str x t)
  | .inl i, v, h => by
    obtain ⟨t, e⟩ := Value.isInt_shape (k := i) (v := v) h
    exact .inl ⟨i, t, rfl, e⟩
  | .inr x, v, h => by
    obtain ⟨t, e⟩ := Value.isStrOf_shape (x := x) (v := v) h
    exact .inr ⟨x, t, rfl, e⟩
theorem key_ll (a b : Int) : decide ((Sum.inl a : Key) = Sum.inl b) = (a == b) := by
  by_cases e : a = b
  · subst e; simp
  · have h : ¬ (Sum.inl a : Key) = Sum.inl b := fun q => e (Sum.inl.inj q)
    rw [decide_eq_false h]
    exact (beq_eq_false_iff_ne.mpr e).symm
theorem key_rr (a b : Str) : decide ((Sum.inr a : Key) = Sum.inr b) = decide (a = b) := by
  by_cases e : a = b
  · subst e; simp
  · have h : ¬ (Sum.inr a : Key) = Sum.inr b := fun q => e (Sum.inr.inj q)
    rw [decide_eq_false h, decide_eq_false e]
theorem key_lr (a : Int) (b : Str) : decide ((Sum.inl a : Key) = Sum.inr b) = false := decide_eq_false (fun q => nomatch q)
theorem key_rl (a : Str) (b : Int) : decide ((Sum.inr a : Key) = Sum.inl b) = false := decide_eq_false (fun q => nomatch q)

def mixKind (prog : Program) (w : World) : PySem.KeyKind prog w Key where
  is := keyIs
  hash := keyH w
  inj := fun v a b ha hb => by
    rcases keyIs_shape ha with ⟨i, t, rfl, rfl⟩ | ⟨x, t, rfl, rfl⟩
    · rcases keyIs_shape hb with ⟨j, u, rfl, e⟩ | ⟨y, u, rfl, e⟩
      · injection e with e1 _; rw [e1]
      · exact nomatch e
    · rcases keyIs_shape hb with ⟨j, u, rfl, e⟩ | ⟨y, u, rfl, e⟩
      · exact nomatch e
      · injection e with e1 _; rw [e1]
  byValue := fun k v h => by
    rcases keyIs_shape h with ⟨i, t, rfl, rfl⟩ | ⟨x, t, rfl, rfl⟩ <;> rfl
  pyHash := fun hv h => by
    rcases keyIs_shape hv with ⟨i, t, rfl, rfl⟩ | ⟨x, t, rfl, rfl⟩
    · exact wpAny_pyHash_int h
    · exact wpAny_pyHash_str h
  eqBool := fun hu hv h => by
    rcases keyIs_shape hu with ⟨i, t, rfl, rfl⟩ | ⟨x, t, rfl, rfl⟩
    · rcases keyIs_shape hv with ⟨j, u, rfl, rfl⟩ | ⟨y, u, rfl, rfl⟩
      · rw [key_ll] at h; exact wpAny_eqBool_int h
      · rw [key_lr] at h; exact SeqAt.EqAt.int_str i t y u _ _ _ _ h
    · rcases keyIs_shape hv with ⟨j, u, rfl, rfl⟩ | ⟨y, u, rfl, rfl⟩
      · rw [key_rl] at h; exact SeqAt.EqAt.str_int x t j u _ _ _ _ h
      · rw [key_rr] at h; exact wpAny_eqBool_str h
  «strs» := fun k x t v h => by
    rcases keyIs_shape h with ⟨i, u, rfl, e⟩ | ⟨y, u, rfl, e⟩
    · exact nomatch e
    · injection e with e1 _
      subst e1
      cases v <;> rfl

end L2

namespace L2
open PySem PySem.Spec PyProof.Rows

inductive V where
  | non | bl (b : Bool) | int (i : Int) | str (x : Str) | byt (b : Array UInt8) | flt (b : UInt64) | ref (a : Addr) | ty (n : String)
  deriving DecidableEq

def RelV : V → Value → Prop
  | .non, u => u = Value.none
  | .bl b, u => u = Value.bool b
  | .int i, u => ∃ t, u = Value.int i t
  | .str x, u => ∃ t, u = Value.str x t
  | .byt b, u => ∃ t, u = Value.bytes b t
  | .flt b, u => ∃ t, u = Value.float b t
  | .ref a, u => u = Value.ref a
  | .ty n, u => u = Value.type n

abbrev Vals : List V → List Value → Prop := Paired RelV
theorem Vals.length {xs : List V} {us : List Value} (r : Vals xs us) : xs.length = us.length := Paired.length r
theorem Vals.get : ∀ {xs : List V} {us : List Value} {i : Nat} {x : V}, Vals xs us → xs[i]? = some x → ∃ u, us[i]? = some u ∧ RelV x u
  | _, _, _, _, .nil, e => by simp at e
  | _, _, 0, _, .cons r _, e => by simp at e; subst e; exact ⟨_, rfl, r⟩
  | _, _, i + 1, x, .cons _ t, e => by
    obtain ⟨u, h1, h2⟩ := Vals.get (i := i) (x := x) t (by simpa using e)
    exact ⟨u, by simpa using h1, h2⟩
theorem Vals.append : ∀ {xs ys : List V} {us ws : List Value}, Vals xs us → Vals ys ws → Vals (xs ++ ys) (us ++ ws)
  | _, _, _, _, .nil, s => s
  | _, _, _, _, .cons r t, s => .cons r (Vals.append t s)
theorem Vals.take : ∀ {xs : List V} {us : List Value} (n : Nat), Vals xs us → Vals (xs.take n) (us.take n)
  | _, _, 0, _ => .nil
  | _, _, _ + 1, .nil => .nil
  | _, _, n + 1, .cons r t => .cons r (Vals.take n t)
theorem Vals.drop : ∀ {xs : List V} {us : List Value} (n : Nat), Vals xs us → Vals (xs.drop n) (us.drop n)
  | _, _, 0, r => r
  | _, _, _ + 1, .nil => .nil
  | _, _, n + 1, .cons _ t => Vals.drop n t
def RelO : Option V → Option Value → Prop
  | some v, some u => RelV v u
  | none, none => True
  | _, _ => False
def KV {κ : Type} : List (κ × V) → List (κ × Value) → Prop := Paired fun (p : κ × V) (q : κ × Value) => p.1 = q.1 ∧ RelV p.2 q.2

def kV : Key → V
  | .inl i => .int i
  | .inr x => .str x

inductive HO where
    | lst (xs : List V)
    | tup (xs : List V)
    | dK (kvs : List (Key × V)) | dT (kvs : List (List Key × V))
    | set (S : Int → Bool) (n : Nat)
    | ins (C dx : Addr) (fs : List (Str × V))
    | own (x : Addr)
    | xd (fs : List (Str × V))
    | met (f x : Addr)
    | rng (lo hi : Int)
    | frz (o : Obj) (u : HO)
    | tbl (ps : Array Value)
    | ext (φ : Heap → Prop)

abbrev Hp := Addr → Option HO
def upd (H : Hp) (a : Addr) (o : HO) : Hp := fun b => if b = a then some o else H b
theorem upd_same {H : Hp} {a : Addr} {o : HO} : upd H a o a = some o := by unfold upd; rw [if_pos rfl]
theorem upd_ne {H : Hp} {a b : Addr} {o : HO} (h : b ≠ a) : upd H a o b = H b := by unfold upd; rw [if_neg h]
theorem upd_upd {H : Hp} {a : Addr} {o u : HO} : upd (upd H a o) a u = upd H a u := by
  funext b; unfold upd; split <;> rfl
theorem ne_of {H : Hp} {a b : Addr} {o u : HO} (h : H a = some o) (h' : H b = some u) (d : o ≠ u) : a ≠ b := by
  intro e; subst e; rw [h] at h'; exact d (Option.some.inj h')
theorem ne_of_none {H : Hp} {a b : Addr} {o : HO} (h : H a = some o) (h' : H b = none) : a ≠ b := by
  intro e; subst e; rw [h] at h'; cases h'

section
variable (P : Program) (w : World)
def ObjOk (H : Hp) (h : Heap) (a : Addr) : HO → Prop
  | .lst xs => xs.length ≤ sizeLine ∧ ∃ (its : List Value) (n : Nat), Vals xs its ∧ h.get? a = some { cls := .type "list", data := .seq its.toArray n }
  | .tup xs => xs.length ≤ sizeLine ∧ ∃ its : List Value, Vals xs its ∧ IsTup h a its.toArray
  | .dK kvs => kvs.length ≤ sizeLine ∧ (a == sysModules) = false ∧ ∃ vs, KV kvs vs ∧ h.DictOf (mixKind P w) a vs
  | .dT kvs => kvs.length ≤ sizeLine ∧ (a == sysModules) = false ∧ ∃ xs : List (List Key × Addr × Value),
      Paired (fun (p : List Key × V) (q : List Key × Addr × Value) => p.1 = q.1 ∧ H q.2.1 = some (.tup (p.1.map kV)) ∧ RelV p.2 q.2.2) kvs xs ∧
      ∃ o es ep, h.get? a = some o ∧ o.ExactDict ∧ o.data = .dict es ep ∧ es.toList = xs.map (entryOfKey (tupleKind (mixKind P w))) ∧ (xs.map (·.1)).Nodup
  | .set S n => h.SetOf (intKind P w) a S n
  | .ins C dx fs => H dx = some (.own a) ∧ fs.length ≤ 1000 ∧ dx ≠ a ∧ h.get? a = some (PySem.W.instObj C dx) ∧
      ∃ mA, h.Ns1 dx mA ∧ (∀ f, RelO (fs.lookup f) (mA f)) ∧ PySem.Within mA (fs.map (·.1))
  | .own _ => ∃ o, h.get? a = some o
  | .xd fs => ∃ mA, h.Ns1 a mA ∧ ∀ f, RelO (fs.lookup f) (mA f)
  | .rng lo hi => ∃ t u v, h.get? a = some { cls := .type "range", data := .fields #[.int lo t, .int hi u, .int 1 v] }
  | .frz o u => h.get? a = some o ∧ ObjOk H h a u
  | .tbl ps => h.get? a = some { cls := .none, data := .fields ps }
  | .met f x => h.get? a = some (PySem.W.methodObj (.ref f) (.ref x))
  | .ext φ => φ h ∧ (∃ o, h.get? a = some o) ∧ ∀ h1 h2 : Heap, φ h1 → (∀ o, h1.get? a = some o → h2.get? a = some o) → φ h2
def HOk (H : Hp) (h : Heap) : Prop := ∀ a o, H a = some o → ObjOk P w H h a o
end

section
variable {P : Program} {w : World} {H H' : Hp} {h h' : Heap} {a : Addr} {o : HO}
theorem ObjOk.lt (x : ObjOk P w H h a o) : a < h.objs.size := by
  cases o with
  | lst xs => obtain ⟨_, _, _, _, e⟩ := x; exact Heap.lt_size e
  | tup xs => obtain ⟨_, _, _, p⟩ := x; exact p.lt
  | dK kvs => obtain ⟨_, _, _, _, o, _, _, e, _⟩ := x; exact Heap.lt_size e
  | dT kvs => obtain ⟨_, _, _, _, o, _, _, e, _⟩ := x; exact Heap.lt_size e
  | set S n => obtain ⟨o, _, _, _, e, _⟩ := x; exact Heap.lt_size e
  | ins C dx fs => obtain ⟨_, _, _, e, _⟩ := x; exact Heap.lt_size e
  | own y => obtain ⟨_, e⟩ := x; exact Heap.lt_size e
  | xd fs => obtain ⟨_, ⟨_, _, _, e, _⟩, _⟩ := x; exact Heap.lt_size e
  | rng lo hi => obtain ⟨_, _, _, e⟩ := x; exact Heap.lt_size e
  | frz ob u => obtain ⟨e, _⟩ := x; exact Heap.lt_size e
  | tbl ps => exact Heap.lt_size (show h.get? a = some _ from x)
  | met f y => exact Heap.lt_size (show h.get? a = some _ from x)
  | ext φ => obtain ⟨_, ⟨_, e⟩, _⟩ := x; exact Heap.lt_size e
theorem Paired.mapP {α β : Type} {F G : α → β → Prop} : ∀ {l₁ : List α} {l₂ : List β}, Paired F l₁ l₂ → (∀ a b, F a b → G a b) → Paired G l₁ l₂
  | _, _, .nil, _ => .nil
  | _, _, .cons r t, f => .cons (f _ _ r) (Paired.mapP t f)
theorem ObjOk.stay (x : ObjOk P w H h a o) (k : ∀ b u, (b = a ∨ H b = some (.own a)) → h.get? b = some u → h'.get? b = some u)
    (ho : ∀ b, H b = some (.own a) → H' b = some (.own a)) (ht : ∀ b xs, H b = some (.tup xs) → H' b = some (.tup xs)) : ObjOk P w H' h' a o := by
  induction o with
  | lst xs => obtain ⟨z, its, n, r, e⟩ := x; exact ⟨z, its, n, r, k _ _ (.inl rfl) e⟩
  | tup xs => obtain ⟨z, its, r, ob, e, c⟩ := x; exact ⟨z, its, r, ob, k _ _ (.inl rfl) e, c⟩
  | dK kvs => obtain ⟨z, y, vs, r, ob, es, ep, e, c⟩ := x; exact ⟨z, y, vs, r, ob, es, ep, k _ _ (.inl rfl) e, c⟩
  | dT kvs =>
    obtain ⟨z, y, xs, r, ob, es, ep, e, c⟩ := x
    exact ⟨z, y, xs, Paired.mapP r fun p q z => ⟨z.1, ht _ _ z.2.1, z.2.2⟩, ob, es, ep, k _ _ (.inl rfl) e, c⟩
  | set S n => obtain ⟨ob, es, ep, t, e, c⟩ := x; exact ⟨ob, es, ep, t, k _ _ (.inl rfl) e, c⟩
  | ins C dx fs =>
    obtain ⟨d, z, ne, e, mA, ⟨od, es, ep, e2, c⟩, r⟩ := x
    exact ⟨ho _ d, z, ne, k _ _ (.inl rfl) e, mA, ⟨od, es, ep, k _ _ (.inr d) e2, c⟩, r⟩
  | own y => obtain ⟨ob, e⟩ := x; exact ⟨ob, k _ _ (.inl rfl) e⟩
  | xd fs => obtain ⟨mA, ⟨od, es, ep, e, c⟩, r⟩ := x; exact ⟨mA, ⟨od, es, ep, k _ _ (.inl rfl) e, c⟩, r⟩
  | rng lo hi => obtain ⟨t, u, v, e⟩ := x; exact ⟨t, u, v, k _ _ (.inl rfl) e⟩
  | frz ob u ih => obtain ⟨e, q⟩ := x; exact ⟨k _ _ (.inl rfl) e, ih q⟩
  | tbl ps =>
    have e : h.get? a = some { cls := .none, data := .fields ps } := x
    show h'.get? a = some { cls := .none, data := .fields ps }
    exact k a _ (.inl rfl) e
  | met f y =>
    have e : h.get? a = some (PySem.W.methodObj (.ref f) (.ref y)) := x
    show h'.get? a = some (PySem.W.methodObj (.ref f) (.ref y))
    exact k a _ (.inl rfl) e
  | ext φ => obtain ⟨p, ⟨o, e⟩, st⟩ := x; exact ⟨st _ _ p fun o q => k _ _ (.inl rfl) q, ⟨o, k _ _ (.inl rfl) e⟩, st⟩
theorem HOk.lt (x : HOk P w H h) (e : H a = some o) : a < h.objs.size := (x a o e).lt
theorem HOk.fresh (x : HOk P w H h) (e : h.objs.size ≤ a) : H a = none := by
  cases q : H a with
  | none => rfl
  | some u => exact absurd (Nat.lt_of_lt_of_le (x.lt q) e) (Nat.lt_irrefl _)
theorem HOk.kept (x : HOk P w H h) (k : ∀ b u, h.get? b = some u → h'.get? b = some u) : HOk P w H h' := fun a o e =>
  (x a o e).stay (fun b u _ q => k b u q) (fun _ q => q) fun _ _ q => q
theorem HOk.laid (x : HOk P w H h) (k : ∀ b u, h.get? b = some u → h'.get? b = some u) (hp : h.objs.size ≤ a) (new : ObjOk P w (upd H a o) h' a o) : HOk P w (upd H a o) h' := fun b u e => by
  have hn := x.fresh hp
  by_cases hb : b = a
  · subst hb; rw [upd_same] at e; cases e; exact new
  · rw [upd_ne hb] at e
    exact (x b u e).stay (fun c v _ q => k c v q) (fun c q => by rw [upd_ne (ne_of_none q hn)]; exact q) fun c xs q => by rw [upd_ne (ne_of_none q hn)]; exact q
end

def Rd (H : Hp) (a : Addr) (u : HO) : Prop := H a = some u ∨ ∃ o, H a = some (.frz o u)
theorem Rd.ok {P : Program} {w : World} {H : Hp} {h : Heap} {a : Addr} {u : HO} (r : Rd H a u) (x : HOk P w H h) : ObjOk P w H h a u := by
  rcases r with r | ⟨o, r⟩
  · exact x a u r
  · obtain ⟨_, q⟩ := x a _ r
    exact q
def Mut : Option HO → Prop
  | some (.lst _) => True
  | some (.dK _) => True
  | some (.dT _) => True
  | some (.set _ _) => True
  | some (.ins _ _ _) => True
  | some (.ext _) => True
  | _ => False
section
variable {P : Program} {w : World} {H : Hp} {h h' : Heap} {x e : Addr} {o' : HO}
theorem HOk.write (ok : HOk P w H h) (mu : Mut (H x)) (he : e = x ∨ H e = some (.own x)) (k : ∀ b u, b ≠ e → h.get? b = some u → h'.get? b = some u) (heo : ∃ u, h'.get? e = some u)
    (new : ObjOk P w (upd H x o') h' x o') : HOk P w (upd H x o') h' := fun b u q => by
  have nown : ∀ c y, H c = some (.own y) → c ≠ x := fun c y r z => by subst z; rw [r] at mu; exact mu
  have ntup : ∀ c xs, H c = some (.tup xs) → c ≠ x := fun c xs r z => by subst z; rw [r] at mu; exact mu
  by_cases hb : b = x
  · subst hb; rw [upd_same] at q; cases q; exact new
  · rw [upd_ne hb] at q
    by_cases hbe : b = e
    · have q' : H b = some (.own x) := by
        rcases he with z | z
        · exact absurd (hbe.trans z) hb
        · rw [hbe]; exact z
      rw [q] at q'; cases q'
      obtain ⟨v, hv⟩ := heo
      exact ⟨v, by rw [hbe]; exact hv⟩
    · refine (ok b u q).stay (fun c v hc r => k c v ?_ r) (fun c r => by rw [upd_ne (nown c b r)]; exact r) fun c xs r => by rw [upd_ne (ntup c xs r)]; exact r
      rcases hc with rfl | hc
      · exact hbe
      · rintro rfl
        rcases he with z | z
        · exact nown c b hc z
        · rw [hc] at z; cases z; exact hb rfl
end

structure Un (fs ex : List Addr) (H H' : Hp) (h h' : Heap) : Prop where
  keep : ∀ b o, h.get? b = some o → H b = none → b ∉ fs → b ∉ ex → h'.get? b = some o
  slot : ∀ b o, h.get? b = some o → H b = none → b ∈ fs → b ∉ ex → ∃ sl, h'.get? b = some { o with slots := sl }
  free : ∀ b o, h.get? b = some o → H b = none → b ∉ ex → H' b = none
  there : ∀ b o, h.get? b = some o → b ∉ ex → ∃ o', h'.get? b = some o'
  tups : ∀ b xs, H b = some (.tup xs) → H' b = some (.tup xs)
  frzs : ∀ b o u, H b = some (.frz o u) → H' b = some (.frz o u)
  tbls : ∀ b ps, H b = some (.tbl ps) → ∃ more, H' b = some (.tbl (ps ++ more))
section
variable {fs fs' ex ex' : List Addr} {H H1 H2 : Hp} {h h1 h2 h' : Heap} {a x e : Addr} {o : HO}
theorem Un.any (u : Un fs ex H H1 h h1) {b : Addr} {ob : Obj} (q : h.get? b = some ob) (n : H b = none) (hx : b ∉ ex) : ∃ sl, h1.get? b = some { ob with slots := sl } := by
  by_cases hb : b ∈ fs
  · exact u.slot b ob q n hb hx
  · exact ⟨ob.slots, u.keep b ob q n hb hx⟩
theorem Un.kept (k : ∀ b u, h.get? b = some u → h'.get? b = some u) : Un fs ex H H h h' :=
  ⟨fun b ob q _ _ _ => k b ob q, fun b ob q _ _ _ => ⟨ob.slots, k b ob q⟩, fun _ _ _ n _ => n, fun b ob q _ => ⟨ob, k b ob q⟩, fun _ _ q => q, fun _ _ _ q => q, fun _ ps q => ⟨#[], by rw [q]; simp⟩⟩
theorem Un.refl : Un fs ex H H h h := Un.kept fun _ _ q => q
theorem Un.laid (k : ∀ b u, h.get? b = some u → h'.get? b = some u) (hp : h.objs.size ≤ a) (hn : H a = none) : Un fs ex H (upd H a o) h h' where
  keep := fun b u q _ _ _ => k b u q
  slot := fun b u q _ _ _ => ⟨u.slots, k b u q⟩
  free := fun b u q n _ => by rw [upd_ne (Nat.ne_of_lt (Nat.lt_of_lt_of_le (Heap.lt_size q) hp))]; exact n
  there := fun b u q _ => ⟨u, k b u q⟩
  tups := fun b xs q => by rw [upd_ne (ne_of_none q hn)]; exact q
  frzs := fun b u xs q => by rw [upd_ne (ne_of_none q hn)]; exact q
  tbls := fun b ps q => ⟨#[], by rw [upd_ne (ne_of_none q hn), q]; simp⟩
theorem Un.write (mu : Mut (H x)) (he : e = x ∨ H e = some (.own x)) (k : ∀ b u, b ≠ e → h.get? b = some u → h'.get? b = some u) (heo : ∃ u, h'.get? e = some u) : Un fs ex H (upd H x o) h h' := by
  have hx : ∀ b, H b = none → b ≠ x := fun b n z => by subst z; rw [n] at mu; exact mu
  have hb : ∀ b, H b = none → b ≠ e := fun b n z => by
    subst z
    rcases he with r | r
    · exact hx b n r
    · rw [n] at r; cases r
  have hm : ∀ b u, H b = some u → ¬ Mut (some u) → b ≠ x := fun b u q nm z => by subst z; rw [q] at mu; exact nm mu
  refine ⟨fun b u q n _ _ => k b u (hb b n) q, fun b u q n _ _ => ⟨u.slots, k b u (hb b n) q⟩, fun b u q n _ => by rw [upd_ne (hx b n)]; exact n, fun b u q _ => ?_,
    fun b xs q => by rw [upd_ne (hm b _ q fun z => z)]; exact q, fun b u xs q => by rw [upd_ne (hm b _ q fun z => z)]; exact q, fun b ps q => ⟨#[], by rw [upd_ne (hm b _ q fun z => z), q]; simp⟩⟩
  by_cases hbe : b = e
  · subst hbe; exact heo
  · exact ⟨u, k b u hbe q⟩
end

def trk (h : Heap) (H : Hp) : List Addr := (List.range h.objs.size).filter fun a => (H a).isSome
def hidT (h : Heap) (H : Hp) : Heap := PySem.W.hideAll h (trk h H)
theorem hidT_size (h : Heap) (H : Hp) : (hidT h H).objs.size = h.objs.size := PySem.W.hideAll_size _ _
theorem hidT_get {h : Heap} {H : Hp} {b : Addr} {o : Obj} (e : h.get? b = some o) (n : H b = none) : (hidT h H).get? b = some o :=
  PySem.W.hideAll_get _ e fun hm => by
    have q : (H b).isSome = true := (List.mem_filter.mp hm).2
    rw [n] at q; simp at q
theorem of_hidT {h : Heap} {H : Hp} {b : Addr} {o : Obj} (e : (hidT h H).get? b = some o) : h.get? b = some o ∧ H b = none := by
  have e' : h.get? b = some o := PySem.W.of_hideAll (trk h H) e
  refine ⟨e', ?_⟩
  cases q : H b with
  | none => rfl
  | some x =>
    have hm : b ∈ trk h H := List.mem_filter.mpr ⟨List.mem_range.mpr (Heap.lt_size e'), by simp [q]⟩
    have z : (hidT h H).get? b = none := PySem.W.hideAll_none (trk h H) hm
    rw [z] at e; cases e

def allNews (g h : Heap) (L : Addr) : List (Addr × Obj) := (List.range h.objs.size).filterMap fun a => if a = L ∨ (g.get? a).isSome = true then none else (h.get? a).map fun o => (a, o)
def rest (g h : Heap) (L d : Addr) : List (Addr × Obj) := (allNews g h L).filter fun p => decide (p.1 ≠ d)
end L2

namespace L2
open PySem PySem.Spec PyProof.Rows

structure Mod (K : PySem.W.Frag) (mg : Str → Option Value) (base : Heap) : Prop where
  kin : K.In base
  glob : base.Ns mainGlobals mg
  blt : ∃ mb, base.Ns builtinsNs mb ∧ ∀ x : Str, x ≠ "__name__" → mb x = bootBuiltins x
  nolimit : base.NoLimit

structure Cx where
  prog : Program
  w : World
  K : PySem.W.Frag
  mg : Str → Option Value
  base : Heap
  A : Around
  N : List Str
  s₀ : Shared
  H₀ : Hp
  env : Env
  outer : List Env
  stack : List Env
  ex : List Addr
  fn : Str → Bool
  calm : Bool
  pn : List (Addr × Obj)
  xe : Value → Shared → Prop
def frs (l : List Env) : List Addr := l.filterMap (·.frame)
abbrev Cx.fs (X : Cx) : List Addr := frs X.outer

def Vis (sc : Scope) (x : Str) : Prop := sc.names.lookup x = some .local ∨ sc.names.lookup x = some .cell ∨ sc.names.lookup x = some .free
def Loc (sc : Scope) (x : Str) : Prop := sc.names.lookup x = some .local ∨ sc.names.lookup x = some .cell
def Look (env : Env) (h : Heap) (m : Str → Option Value) (x : Str) (u : Value) : Prop :=
  (env.kindOf x = some .local ∧ m x = some u) ∨ ((env.kindOf x = some .cell ∨ env.kindOf x = some .free) ∧ ∃ c, env.cells.lookup x = some c ∧ h.IsCell c (some u))

structure Cx.Ok (X : Cx) : Prop where
  mod : Mod X.K X.mg X.base
  kind : X.env.scope.kind = .function
  glob : X.env.globals = mainGlobals
  blt : X.env.builtins = builtinsNs
  above : X.s₀.heap.objs.size ≤ X.env.locals
  inj : ∀ x y c, X.env.cells.lookup x = some c → X.env.cells.lookup y = some c → x = y
  has : ∀ x, (X.env.kindOf x = some .cell ∨ X.env.kindOf x = some .free) → ∃ c, X.env.cells.lookup x = some c
  cab : ∀ x c, X.fn x = true → X.env.cells.lookup x = some c → X.s₀.heap.objs.size ≤ c
  hd : X.calm = true → X.A.handled = none
  frames : X.A.frames = some X.stack
  stk : X.stack = X.outer ∨ (X.stack = X.env :: X.outer ∧ X.env.frame = some X.env.locals)
  exf : ∀ b ∈ X.ex, b ≠ X.env.locals ∧ ∀ x c, X.env.cells.lookup x = some c → c ≠ b
  bs : ∀ b o, X.base.get? b = some o → X.s₀.heap.get? b = some o ∧ X.H₀ b = none
  bsz : X.base.objs.size ≤ X.s₀.heap.objs.size
  noex : ∀ b o, X.base.get? b = some o → b ∉ X.ex
  exfs : ∀ b ∈ X.ex, b ∉ X.fs
  funs : X.s₀.heap.FunFrames X.base X.outer
  frf : ∀ b ∈ X.fs, X.H₀ b = none

structure Inv (X : Cx) (pins : List (Addr × Obj)) (σ : List (Option V)) (H : Hp) (s : Shared) : Prop where
  ok : X.Ok
  os : s.os = X.s₀.os
  bare : AllBare s.gens
  base : Un X.fs X.ex X.H₀ H X.s₀.heap s.heap
  loc : ∃ m, s.heap.Ns X.env.locals m ∧ ∀ (i : Nat) (x : Str) (v : V), X.N[i]? = some x → σ[i]? = some (some v) → Vis X.env.scope x → ∃ u, RelV v u ∧ Look X.env s.heap m x u
  cell : ∀ x c, X.env.cells.lookup x = some c → ∃ v, s.heap.IsCell c v
  free : H X.env.locals = none
  freeC : ∀ x c, X.env.cells.lookup x = some c → H c = none
  pin : ∀ p ∈ X.pn ++ pins, s.heap.get? p.1 = some p.2 ∧ H p.1 = none ∧ p.1 ≠ X.env.locals ∧ p.1 ∉ X.fs ∧ ∀ v, p.2.data ≠ .cell v
  hok : HOk X.prog X.w H s.heap
  len : σ.length = X.N.length

section
variable {X : Cx} {pins : List (Addr × Obj)} {σ : List (Option V)} {H H' : Hp} {s : Shared} {h' : Heap}

theorem Cx.Ok.nofr (ok : X.Ok) {b : Addr} {o : Obj} (e : X.base.get? b = some o) : b ∉ X.fs := fun hb => by
  have := (ok.funs.mem hb).1
  rw [e] at this; cases this
theorem Inv.bs (I : Inv X pins σ H s) : ∀ b o, X.base.get? b = some o → s.heap.get? b = some o ∧ H b = none := fun b o e =>
  ⟨I.base.keep b o (I.ok.bs b o e).1 (I.ok.bs b o e).2 (I.ok.nofr e) (I.ok.noex b o e), I.base.free b o (I.ok.bs b o e).1 (I.ok.bs b o e).2 (I.ok.noex b o e)⟩
theorem Inv.bk (I : Inv X pins σ H s) : ∀ b o, X.base.get? b = some o → s.heap.get? b = some o := fun b o e => (I.bs b o e).1
theorem Inv.mod (I : Inv X pins σ H s) : Mod X.K X.mg X.base := I.ok.mod
theorem Inv.kIn (I : Inv X pins σ H s) : X.K.In s.heap := I.ok.mod.kin.keeps I.bk
theorem Inv.lt (I : Inv X pins σ H s) : X.env.locals < s.heap.objs.size := let ⟨_, hn, _⟩ := I.loc; hn.lt
theorem Inv.sz (I : Inv X pins σ H s) : X.s₀.heap.objs.size ≤ s.heap.objs.size := Nat.le_trans I.ok.above (Nat.le_of_lt I.lt)
theorem Inv.nofs (I : Inv X pins σ H s) {a : Addr} (h : s.heap.objs.size ≤ a) : a ∉ X.fs := fun hb => by
  obtain ⟨_, o, ho, _⟩ := I.ok.funs.mem hb
  exact absurd (Nat.lt_of_lt_of_le (Heap.lt_size ho) (Nat.le_trans I.sz h)) (Nat.lt_irrefl _)
theorem Inv.cne (I : Inv X pins σ H s) : ∀ x c, X.env.cells.lookup x = some c → c ≠ X.env.locals := fun x c e z => by
  obtain ⟨v, o, ho, hd⟩ := I.cell x c e
  obtain ⟨m, ⟨o', es, ep, ho', hd', _⟩, _⟩ := I.loc
  rw [z, ho'] at ho; cases ho; rw [hd'] at hd; cases hd
theorem Inv.funs (I : Inv X pins σ H s) : s.heap.FunFrames X.base X.outer := by
  have all : ∀ (l : List Env), (∀ b ∈ frs l, b ∈ X.fs) → X.s₀.heap.FunFrames X.base l → s.heap.FunFrames X.base l := by
    intro l
    induction l with
    | nil => intro _ _; trivial
    | cons env r ih =>
      intro hs hl
      obtain ⟨hk, ⟨L, o, hf, hn, ho, hd⟩, hr⟩ := hl
      have hL : L ∈ X.fs := hs L (by unfold frs; rw [List.filterMap_cons, hf]; exact List.mem_cons_self)
      obtain ⟨sl, e⟩ := I.base.slot L o ho (I.ok.frf L hL) hL fun z => I.ok.exfs L z hL
      exact ⟨hk, ⟨L, _, hf, hn, e, hd⟩, ih (fun b hb => hs b (by unfold frs; rw [List.filterMap_cons, hf]; exact List.mem_cons_of_mem _ hb)) hr⟩
  exact all X.outer (fun _ hb => hb) I.ok.funs

theorem Inv.stack (I : Inv X pins σ H s) : s.heap.FunFrames X.base X.stack := by
  rcases I.ok.stk with e | ⟨e, hf⟩
  · rw [e]; exact I.funs
  · rw [e]
    obtain ⟨m, hn, _⟩ := I.loc
    refine .cons (by rw [I.ok.kind]; decide) hf hn ?_ I.funs
    exact Heap.get?_none_of_le (Nat.le_trans I.ok.bsz I.ok.above)
theorem Inv.stkSub (I : Inv X pins σ H s) : ∀ b ∈ frs X.stack, b ∈ X.env.locals :: X.fs := fun b hb => by
  rcases I.ok.stk with e | ⟨e, hf⟩
  · rw [e] at hb; exact List.mem_cons_of_mem _ hb
  · rw [e] at hb
    unfold frs at hb
    rw [List.filterMap_cons, hf] at hb
    exact hb
theorem Inv.stkFree (I : Inv X pins σ H s) : ∀ b ∈ frs X.stack, H b = none := fun b hb => by
  rcases List.mem_cons.mp (I.stkSub b hb) with e | hb
  · rw [e]; exact I.free
  · obtain ⟨_, o, ho, _⟩ := I.ok.funs.mem hb
    exact I.base.free b o ho (I.ok.frf b hb) fun z => I.ok.exfs b z hb

theorem Inv.step {g' : Array GenState} {t' : Nat} {d' : Drawn} {ch : List Addr} (I : Inv X pins σ H s)
    (hch : ∀ b ∈ ch, (b ∈ X.ex ∨ X.s₀.heap.objs.size ≤ b) ∧ b ≠ X.env.locals ∧ (∀ x c, X.env.cells.lookup x = some c → c ≠ b) ∧ ∀ p ∈ X.pn ++ pins, p.1 ≠ b)
    (keep : ∀ b o, b ≠ X.env.locals → b ∉ X.fs → b ∉ ch → s.heap.get? b = some o → H b = none → h'.get? b = some o)
    (slot : ∀ b o, b ≠ X.env.locals → b ∈ X.fs → b ∉ ch → s.heap.get? b = some o → H b = none → ∃ sl, h'.get? b = some { o with slots := sl }) (free : ∀ b o, b ∉ ch → s.heap.get? b = some o → H b = none → H' b = none)
    (there : ∀ b o, b ∉ ch → s.heap.get? b = some o → ∃ o', h'.get? b = some o')
    (tups : ∀ b xs, H b = some (.tup xs) → H' b = some (.tup xs)) (frzs : ∀ b o u, H b = some (.frz o u) → H' b = some (.frz o u)) (tbls : ∀ b ps, H b = some (.tbl ps) → ∃ more, H' b = some (.tbl (ps ++ more)))
    (ns : ∀ m, s.heap.Ns X.env.locals m → h'.Ns X.env.locals m) (hok : HOk X.prog X.w H' h') (hg : AllBare g') :
    Inv X pins σ H' { s with heap := h', gens := g', drawn := d', toks := t' } := by
  have neL : ∀ b o, X.s₀.heap.get? b = some o → b ≠ X.env.locals := fun b o e => Nat.ne_of_lt (Nat.lt_of_lt_of_le (Heap.lt_size e) I.ok.above)
  have neC : ∀ b o, X.s₀.heap.get? b = some o → b ∉ X.ex → b ∉ ch := fun b o e hx hb => by
    rcases (hch b hb).1 with z | z
    · exact hx z
    · exact absurd (Nat.lt_of_lt_of_le (Heap.lt_size e) z) (Nat.lt_irrefl _)
  have cellK : ∀ x c, X.env.cells.lookup x = some c → ∀ v, s.heap.IsCell c v → h'.IsCell c v := fun x c e v ⟨o, ho, hd⟩ => by
    have nch : c ∉ ch := fun z => (hch c z).2.2.1 x c e rfl
    by_cases hc : c ∈ X.fs
    · obtain ⟨sl, q⟩ := slot c o (I.cne x c e) hc nch ho (I.freeC x c e)
      exact ⟨_, q, hd⟩
    · exact ⟨o, keep c o (I.cne x c e) hc nch ho (I.freeC x c e), hd⟩
  refine ⟨I.ok, I.os, hg, ⟨fun b o e n hb hx => ?_, fun b o e n hb hx => ?_, fun b o e n hx => ?_, fun b o e hx => ?_, fun b xs e => tups b xs (I.base.tups b xs e), fun b o xs e => frzs b o xs (I.base.frzs b o xs e), fun b ps e => ?_⟩, ?_, fun x c e => ?_, ?_, fun x c e => ?_, fun p hp => ?_, hok, I.len⟩
  · exact keep b o (neL b o e) hb (neC b o e hx) (I.base.keep b o e n hb hx) (I.base.free b o e n hx)
  · obtain ⟨sl, e1⟩ := I.base.slot b o e n hb hx
    obtain ⟨sl', e2⟩ := slot b _ (neL b o e) hb (neC b o e hx) e1 (I.base.free b o e n hx)
    exact ⟨sl', e2⟩
  · obtain ⟨o', e1⟩ := I.base.there b o e hx
    exact free b o' (neC b o e hx) e1 (I.base.free b o e n hx)
  · obtain ⟨o', e1⟩ := I.base.there b o e hx
    exact there b o' (neC b o e hx) e1
  · obtain ⟨m1, e1⟩ := I.base.tbls b ps e
    obtain ⟨m2, e2⟩ := tbls b _ e1
    exact ⟨m1 ++ m2, by rw [e2, Array.append_assoc]⟩
  · obtain ⟨m, hn, hl⟩ := I.loc
    refine ⟨m, ns m hn, fun i x v e1 e2 e3 => ?_⟩
    obtain ⟨u, r, l⟩ := hl i x v e1 e2 e3
    refine ⟨u, r, ?_⟩
    rcases l with l | ⟨k, c, e, z⟩
    · exact .inl l
    · exact .inr ⟨k, c, e, cellK x c e _ z⟩
  · obtain ⟨v, z⟩ := I.cell x c e
    exact ⟨v, cellK x c e v z⟩
  · obtain ⟨m, ⟨o, _, _, ho, _⟩, _⟩ := I.loc
    exact free _ o (fun z => (hch _ z).2.1 rfl) ho I.free
  · obtain ⟨v, o, ho, hd⟩ := I.cell x c e
    exact free c o (fun z => (hch c z).2.2.1 x c e rfl) ho (I.freeC x c e)
  · obtain ⟨e, n, ne, nf, d⟩ := I.pin p hp
    have nch : p.1 ∉ ch := fun z => (hch p.1 z).2.2.2 p hp rfl
    exact ⟨keep p.1 p.2 ne nf nch e n, free p.1 p.2 nch e n, ne, nf, d⟩
theorem Inv.un {t' : Nat} (I : Inv X pins σ H s) (u : Un X.fs [] H H' s.heap h') (hok : HOk X.prog X.w H' h') : Inv X pins σ H' { s with heap := h', toks := t' } := by
  obtain ⟨m, ⟨o, es, ep, ho, r⟩, _⟩ := id I.loc
  obtain ⟨sl, hL⟩ := u.any ho I.free (by simp)
  exact I.step (g' := s.gens) (d' := s.drawn) (ch := []) (fun _ z => nomatch z) (fun b o _ hb _ e n => u.keep b o e n hb (by simp)) (fun b o _ hb _ e n => u.slot b o e n hb (by simp)) (fun b o _ e n => u.free b o e n (by simp)) (fun b o _ e => u.there b o e (by simp)) u.tups u.frzs u.tbls (fun m' hm => by
    obtain ⟨o', es', ep', ho', r'⟩ := hm
    rw [ho] at ho'; cases ho'
    exact ⟨_, es', ep', hL, r'⟩) hok I.bare
theorem Inv.call {g' : Array GenState} {t' : Nat} {d' : Drawn} {ch : List Addr} (I : Inv X pins σ H s) (u : Un (frs X.stack) ch H H' s.heap h') (hok : HOk X.prog X.w H' h') (hg : AllBare g')
    (hch : ∀ b ∈ ch, (b ∈ X.ex ∨ X.s₀.heap.objs.size ≤ b) ∧ b ≠ X.env.locals ∧ (∀ x c, X.env.cells.lookup x = some c → c ≠ b) ∧ ∀ p ∈ X.pn ++ pins, p.1 ≠ b) :
    Inv X pins σ H' { s with heap := h', gens := g', drawn := d', toks := t' } := by
  obtain ⟨m, ⟨o, es, ep, ho, r⟩, _⟩ := id I.loc
  obtain ⟨sl, hL⟩ := u.any ho I.free fun z => (hch _ z).2.1 rfl
  exact I.step (ch := ch) hch (fun b o hL hb hc e n => u.keep b o e n (fun z => (List.mem_cons.mp (I.stkSub b z)).elim hL hb) hc) (fun b o _ _ hc e n => u.any e n hc) (fun b o hc e n => u.free b o e n hc) (fun b o hc e => u.there b o e hc) u.tups u.frzs u.tbls (fun m' hm => by
    obtain ⟨o', es', ep', ho', r'⟩ := hm
    rw [ho] at ho'; cases ho'
    exact ⟨_, es', ep', hL, r'⟩) hok hg
theorem Inv.turned {t' : Nat} {it : Addr} (I : Inv X pins σ H s) (k : ∀ b o, b ≠ it → s.heap.get? b = some o → h'.get? b = some o) (hn : H it = none) (hL : it ≠ X.env.locals)
    (h1 : it ∈ X.ex ∨ X.s₀.heap.objs.size ≤ it) (h2 : ∀ x c, X.env.cells.lookup x = some c → c ≠ it) (h3 : ∀ p ∈ X.pn ++ pins, p.1 ≠ it) : Inv X pins σ H { s with heap := h', toks := t' } := by
  have nit : ∀ b u, H b = some u → b ≠ it := fun b u e z => by rw [z, hn] at e; cases e
  refine I.step (g' := s.gens) (d' := s.drawn) (ch := [it]) (fun b hb => ?_) (fun b o _ _ hc e _ => k b o (fun z => hc (by simp [z])) e) (fun b o _ _ hc e _ => ⟨o.slots, k b o (fun z => hc (by simp [z])) e⟩) (fun _ _ _ _ n => n)
    (fun b o hc e => ⟨o, k b o (fun z => hc (by simp [z])) e⟩) (fun _ _ e => e) (fun _ _ _ e => e) (fun b ps e => ⟨#[], by rw [e]; simp⟩) (fun m hm => ?_) (fun b u e => ?_) I.bare
  · have e : b = it := by simpa using hb
    subst e
    exact ⟨h1, hL, h2, h3⟩
  · obtain ⟨o, es, ep, ho, r⟩ := hm
    exact ⟨o, es, ep, k _ o (Ne.symm hL) ho, r⟩
  · refine (I.hok b u e).stay (fun c v hc q => k c v ?_ q) (fun _ q => q) fun _ _ q => q
    rcases hc with z | z
    · rw [z]; exact nit b u e
    · exact nit c _ z
theorem Inv.tok (I : Inv X pins σ H s) (t : Nat) : Inv X pins σ H { s with toks := t } := I.un (h' := s.heap) (t' := t) Un.refl I.hok
theorem Inv.kept {t' : Nat} (I : Inv X pins σ H s) (k : ∀ b u, s.heap.get? b = some u → h'.get? b = some u) : Inv X pins σ H { s with heap := h', toks := t' } := I.un (Un.kept k) (I.hok.kept k)
theorem Inv.laid {a : Addr} {o : HO} {t' : Nat} (I : Inv X pins σ H s) (k : ∀ b u, s.heap.get? b = some u → h'.get? b = some u) (hp : s.heap.objs.size ≤ a) (new : ObjOk X.prog X.w (upd H a o) h' a o) :
    Inv X pins σ (upd H a o) { s with heap := h', toks := t' } := I.un (Un.laid k hp (I.hok.fresh hp)) (I.hok.laid k hp new)
theorem Inv.write {x e : Addr} {o : HO} {t' : Nat} (I : Inv X pins σ H s) (mu : Mut (H x)) (he : e = x ∨ H e = some (.own x)) (k : ∀ b u, b ≠ e → s.heap.get? b = some u → h'.get? b = some u) (heo : ∃ u, h'.get? e = some u)
    (new : ObjOk X.prog X.w (upd H x o) h' x o) : Inv X pins σ (upd H x o) { s with heap := h', toks := t' } := I.un (Un.write mu he k heo) (I.hok.write mu he k heo new)
theorem Inv.pins_of {pins' : List (Addr × Obj)} (I : Inv X pins σ H s) (h : ∀ p ∈ pins', s.heap.get? p.1 = some p.2 ∧ H p.1 = none ∧ p.1 ≠ X.env.locals ∧ p.1 ∉ X.fs ∧ ∀ v, p.2.data ≠ .cell v) : Inv X pins' σ H s :=
  ⟨I.ok, I.os, I.bare, I.base, I.loc, I.cell, I.free, I.freeC, fun p hp => (List.mem_append.mp hp).elim (fun z => I.pin p (List.mem_append_left _ z)) (h p), I.hok, I.len⟩

theorem nodup_ix {N : List Str} (hN : N.Nodup) {i j : Nat} {x : Str} (a : N[i]? = some x) (b : N[j]? = some x) : i = j := by
  obtain ⟨h1, e1⟩ := List.getElem?_eq_some_iff.mp a
  obtain ⟨h2, e2⟩ := List.getElem?_eq_some_iff.mp b
  exact (List.getElem_inj hN).mp (e1.trans e2.symm)

theorem store_ok2 {M : Model} {A : Around} {E : Value → Shared → Prop} {i : Nat} {x : Str} {v : V} {u : Value} {Q : Unit → Shared → Prop} (I : Inv X pins σ H s) (hN : X.N.Nodup) (hi : X.N[i]? = some x) (hx : Loc X.env.scope x) (r : RelV v u)
    (h : ∀ s', Inv X pins (σ.set i (some v)) H s' → (∃ a, Heap.SameBut a s.heap s'.heap ∧ (a = X.env.locals ∨ X.env.cells.lookup x = some a)) → Q () s') (hf : X.fn x = true ∨ X.env.scope.names.lookup x = some .local := by first | exact .inl rfl | exact .inr rfl | assumption) : wpAny M A (storeName X.env x u) Q E s := by
  obtain ⟨m, hn, hl⟩ := id I.loc
  have hcls : (X.env.scope.kind == .class || (X.env.scope.kind == .module && X.env.locals != X.env.globals)) = false := by rw [I.ok.kind]; rfl
  have hiσ : i < σ.length := by rw [I.len]; exact (List.getElem?_eq_some_iff.mp hi).1
  have cne := I.cne
  have tracked : ∀ {a : Addr} {h' : Heap}, (∃ o, s.heap.get? a = some o ∧ H a = none) → Heap.SameBut a s.heap h' → HOk X.prog X.w H h' := fun {a h'} ha hs b ob e => by
    obtain ⟨_, _, hfree⟩ := ha
    refine (I.hok b ob e).stay (fun c w' hc q => (hs.2 c ?_).trans q) (fun _ q => q) fun _ _ q => q
    rintro rfl
    rcases hc with rfl | hc
    · rw [hfree] at e; cases e
    · rw [hfree] at hc; cases hc
  rcases hx with hk | hk
  · refine wpAny_storeName_local hk hn (fun h' hn' hs => ?_) hcls
    obtain ⟨oL, _, _, hoL, _⟩ := id hn
    refine h _ ⟨I.ok, I.os, I.bare, ⟨fun b o e n hb hx => ?_, fun b o e n hb hx => ?_, I.base.free, fun b o e hx => ?_, I.base.tups, I.base.frzs, I.base.tbls⟩, ⟨_, hn', fun j y v' e1 e2 e3 => ?_⟩, fun y c e => ?_, I.free, I.freeC, fun p hp => ?_, tracked ⟨oL, hoL, I.free⟩ hs, by simpa using I.len⟩ ⟨_, hs, .inl rfl⟩
    · exact (hs.2 b (Nat.ne_of_lt (Nat.lt_of_lt_of_le (Heap.lt_size e) I.ok.above))).trans (I.base.keep b o e n hb hx)
    · obtain ⟨sl, e1⟩ := I.base.slot b o e n hb hx
      exact ⟨sl, (hs.2 b (Nat.ne_of_lt (Nat.lt_of_lt_of_le (Heap.lt_size e) I.ok.above))).trans e1⟩
    · obtain ⟨o', e1⟩ := I.base.there b o e hx
      exact ⟨o', (hs.2 b (Nat.ne_of_lt (Nat.lt_of_lt_of_le (Heap.lt_size e) I.ok.above))).trans e1⟩
    · by_cases hj : j = i
      · subst hj
        rw [hi] at e1; cases e1
        rw [List.getElem?_set_self hiσ] at e2
        cases e2
        exact ⟨u, r, .inl ⟨hk, by simp⟩⟩
      · rw [List.getElem?_set_ne (Ne.symm hj)] at e2
        obtain ⟨u', r', q⟩ := hl j y v' e1 e2 e3
        refine ⟨u', r', ?_⟩
        rcases q with ⟨k, e⟩ | ⟨k, c, e, z⟩
        · refine .inl ⟨k, ?_⟩
          have : y ≠ x := fun e => hj (nodup_ix hN e1 (e ▸ hi))
          simp [this, e]
        · exact .inr ⟨k, c, e, z.sameBut hs (cne y c e)⟩
    · obtain ⟨w', z⟩ := I.cell y c e
      exact ⟨w', z.sameBut hs (cne y c e)⟩
    · obtain ⟨e, n, ne, nf, d⟩ := I.pin p hp
      exact ⟨(hs.2 p.1 ne).trans e, n, ne, nf, d⟩
  · have hfn : X.fn x = true := by
      rcases hf with z | z
      · exact z
      · rw [z] at hk; cases hk
    obtain ⟨c, hc⟩ := I.ok.has x (.inl hk)
    obtain ⟨w', z⟩ := I.cell x c hc
    refine wpAny_storeName_cell I.ok.kind hk hc z (fun h' hc' hs => ?_)
    obtain ⟨oc, hoc, hocd⟩ := id z
    refine h { s with heap := h' } ⟨I.ok, I.os, I.bare, ⟨fun b o e n hb hx => ?_, fun b o e n hb hx => ?_, I.base.free, fun b o e hx => ?_, I.base.tups, I.base.frzs, I.base.tbls⟩, ⟨m, hn.sameBut hs (Ne.symm (cne x c hc)), fun j y v' e1 e2 e3 => ?_⟩, fun y c' e => ?_, I.free, I.freeC, fun p hp => ?_, tracked ⟨oc, hoc, I.freeC x c hc⟩ hs, by simpa using I.len⟩ ⟨c, hs, .inr hc⟩
    · exact (hs.2 b (Nat.ne_of_lt (Nat.lt_of_lt_of_le (Heap.lt_size e) (I.ok.cab x c hfn hc)))).trans (I.base.keep b o e n hb hx)
    · obtain ⟨sl, e1⟩ := I.base.slot b o e n hb hx
      exact ⟨sl, (hs.2 b (Nat.ne_of_lt (Nat.lt_of_lt_of_le (Heap.lt_size e) (I.ok.cab x c hfn hc)))).trans e1⟩
    · obtain ⟨o', e1⟩ := I.base.there b o e hx
      exact ⟨o', (hs.2 b (Nat.ne_of_lt (Nat.lt_of_lt_of_le (Heap.lt_size e) (I.ok.cab x c hfn hc)))).trans e1⟩
    · by_cases hj : j = i
      · subst hj
        rw [hi] at e1; cases e1
        rw [List.getElem?_set_self hiσ] at e2
        cases e2
        exact ⟨u, r, .inr ⟨.inl hk, c, hc, hc'⟩⟩
      · rw [List.getElem?_set_ne (Ne.symm hj)] at e2
        obtain ⟨u', r', q⟩ := hl j y v' e1 e2 e3
        refine ⟨u', r', ?_⟩
        rcases q with q | ⟨k, c', e, z'⟩
        · exact .inl q
        · refine .inr ⟨k, c', e, z'.sameBut hs ?_⟩
          rintro rfl
          exact hj (nodup_ix hN e1 (I.ok.inj _ _ _ e hc ▸ hi))
    · by_cases hcc : c' = c
      · subst hcc; exact ⟨_, hc'⟩
      · obtain ⟨w2, z2⟩ := I.cell y c' e
        exact ⟨w2, z2.sameBut hs hcc⟩
    · obtain ⟨e, n, ne, nf, d⟩ := I.pin p hp
      refine ⟨(hs.2 p.1 ?_).trans e, n, ne, nf, d⟩
      intro q
      rw [q, hoc] at e
      have q' : oc = p.2 := Option.some.inj e
      exact d w' (by rw [← q']; exact hocd)
theorem store_ok {M : Model} {A : Around} {E : Value → Shared → Prop} {i : Nat} {x : Str} {v : V} {u : Value} {Q : Unit → Shared → Prop} (I : Inv X pins σ H s) (hN : X.N.Nodup) (hi : X.N[i]? = some x) (hx : Loc X.env.scope x) (r : RelV v u)
    (h : ∀ s', Inv X pins (σ.set i (some v)) H s' → Q () s') (hf : X.fn x = true ∨ X.env.scope.names.lookup x = some .local := by first | exact .inl rfl | exact .inr rfl | assumption) : wpAny M A (storeName X.env x u) Q E s :=
  store_ok2 I hN hi hx r (fun s' I' _ => h s' I') hf
theorem Inv.call' {s' : Shared} {ch : List Addr} (I : Inv X pins σ H s) (ho : s'.os = s.os) (u : Un (frs X.stack) ch H H' s.heap s'.heap) (hok : HOk X.prog X.w H' s'.heap) (hg : AllBare s'.gens)
    (hch : ∀ b ∈ ch, (b ∈ X.ex ∨ X.s₀.heap.objs.size ≤ b) ∧ b ≠ X.env.locals ∧ (∀ x c, X.env.cells.lookup x = some c → c ≠ b) ∧ ∀ p ∈ X.pn ++ pins, p.1 ≠ b) : Inv X pins σ H' s' := by
  obtain ⟨h', g', d', t', o'⟩ := s'
  have e : o' = s.os := ho
  subst e
  exact I.call (g' := g') (t' := t') (d' := d') u hok hg hch
end

abbrev XK := Value → Option Addr → Hp → Prop
abbrev St := List (Option V)
abbrev VK := V → Hp → Prop
abbrev TE := St → Hp → VK → Prop
abbrev TT := St → Hp → (Bool → Hp → Prop) → Prop
abbrev TA := St → Hp → (List V → Hp → Prop) → Prop
structure Ends where
  nx : St → Hp → Prop
  rt : VK
  bk : St → Hp → Prop := fun _ _ => False
  ct : St → Hp → Prop := fun _ _ => False
abbrev TS := Ends → St → Hp → Prop

def EP (X : Cx) (pins : List (Addr × Obj)) (σ : St) (Q : VK) (u : Value) (s' : Shared) : Prop := ∃ v H', Inv X pins σ H' s' ∧ RelV v u ∧ Q v H'
def TP (X : Cx) (pins : List (Addr × Obj)) (σ : St) (Q : Bool → Hp → Prop) (b : Bool) (s' : Shared) : Prop := ∃ H', Inv X pins σ H' s' ∧ Q b H'
def AP (X : Cx) (pins : List (Addr × Obj)) (σ : St) (Q : List V → Hp → Prop) (us : List Value) (s' : Shared) : Prop := ∃ vs H', Inv X pins σ H' s' ∧ Vals vs us ∧ Q vs H'
def SP (X : Cx) (pins : List (Addr × Obj)) (D : Ends) (f : Flow) (s' : Shared) : Prop :=
  match f with
  | .next => ∃ σ' H', Inv X pins σ' H' s' ∧ D.nx σ' H'
  | .brk => ∃ σ' H', Inv X pins σ' H' s' ∧ D.bk σ' H'
  | .cont => ∃ σ' H', Inv X pins σ' H' s' ∧ D.ct σ' H'
  | .ret u => ∃ v σ' H', Inv X pins σ' H' s' ∧ RelV v u ∧ D.rt v H'

def PE (X : Cx) (e : Expr) (t : TE) : Prop :=
  ∀ (pins : List (Addr × Obj)) (s : Shared) (σ : St) (H : Hp) (Q : VK), Inv X pins σ H s → t σ H Q → wpAny (model X.prog X.w) X.A (eval e X.env) (EP X pins σ Q) X.xe s
def PT (X : Cx) (e : Expr) (t : TT) : Prop :=
  ∀ (pins : List (Addr × Obj)) (s : Shared) (σ : St) (H : Hp) (Q : Bool → Hp → Prop), Inv X pins σ H s → t σ H Q → wpAny (model X.prog X.w) X.A (isTrue e X.env (eval e X.env)) (TP X pins σ Q) X.xe s
def PW (X : Cx) (e : Expr) (t : TT) : Prop :=
  ∀ (whole : Sem Value) (pins : List (Addr × Obj)) (s : Shared) (σ : St) (H : Hp) (Q : Bool → Hp → Prop), Inv X pins σ H s → t σ H Q → wpAny (model X.prog X.w) X.A (isTrue e X.env whole) (TP X pins σ Q) X.xe s
theorem PW.pt {X : Cx} {e : Expr} {t : TT} (h : PW X e t) : PT X e t := h _
def PA (X : Cx) (es : List Expr) (t : TA) : Prop :=
  ∀ (pos : Pos) (pins : List (Addr × Obj)) (s : Shared) (σ : St) (H : Hp) (Q : List V → Hp → Prop), Inv X pins σ H s → t σ H Q → wpAny (model X.prog X.w) X.A (spliced (backTo pos (starEach es X.env))) (AP X pins σ Q) X.xe s
def PS (X : Cx) (st : Stmt) (t : TS) : Prop :=
  ∀ (pins : List (Addr × Obj)) (s : Shared) (σ : St) (H : Hp) (D : Ends), Inv X pins σ H s → t D σ H → wpAny (model X.prog X.w) X.A (exec st X.env) (SP X pins D) X.xe s
def PSs (X : Cx) (st : List Stmt) (t : TS) : Prop :=
  ∀ (pins : List (Addr × Obj)) (s : Shared) (σ : St) (H : Hp) (D : Ends), Inv X pins σ H s → t D σ H → wpAny (model X.prog X.w) X.A (execs st X.env) (SP X pins D) X.xe s
theorem thn {α : Type} {t : Sem α} {Q Q' : α → Shared → Prop} {M : Model} {A : Around} {E : Value → Shared → Prop} {s : Shared} (h : wpAny M A t Q E s) (hQ : ∀ a s, Q a s → Q' a s) : wpAny M A t Q' E s := wpAny_mono h hQ fun _ _ x => x
end L2

namespace L2
open PySem PySem.Spec PyProof.Rows
section
variable {X : Cx}

theorem bin {a b : Expr} {ta tb : TE} (ha : PE X a ta) (hb : PE X b tb) {pins : List (Addr × Obj)} {s : Shared} {σ : St} {H : Hp} {R : V → V → Hp → Prop} (I : Inv X pins σ H s) (h : ta σ H fun x H1 => tb σ H1 fun y H2 => R x y H2)
    {α : Type} {Q : α → Shared → Prop} {f : Value → Value → Sem α}
    (hf : ∀ v u s2 x y H2, Inv X pins σ H2 s2 → RelV x v → RelV y u → R x y H2 → wpAny (model X.prog X.w) X.A (f v u) Q X.xe s2) :
    wpAny (model X.prog X.w) X.A (eval a X.env) (fun v s₁ => wpAny (model X.prog X.w) X.A (eval b X.env) (fun u s₂ => wpAny (model X.prog X.w) X.A (f v u) Q X.xe s₂) X.xe s₁) X.xe s := by
  refine thn (ha pins s σ H _ I h) fun v s1 ⟨x, H1, I1, r1, q1⟩ => ?_
  refine thn (hb pins s1 σ H1 _ I1 q1) fun u s2 ⟨y, H2, I2, r2, q2⟩ => ?_
  exact hf v u s2 x y H2 I2 r1 r2 q2

def tVar (i : Nat) : TE := fun σ H Q => ∃ v, σ[i]? = some (some v) ∧ Q v H
def tC (v : V) : TE := fun _ H Q => Q v H
theorem pe_var {i : Nat} {x : Str} {pos : Pos} (hN : X.N[i]? = some x) (hv : Vis X.env.scope x) (hd : (x == ("__debug__" : Str)) = false := by decide) (hcd : (x == ("__classdict__" : Str)) = false := by decide) : PE X (.Name x pos) (tVar i) := by
  intro pins s σ H Q I h
  obtain ⟨v, e, h⟩ := h
  obtain ⟨m, hn, hl⟩ := I.loc
  obtain ⟨u, r, l⟩ := hl i x v hN e hv
  have fin : EP X pins σ Q u s := ⟨v, H, I, r, h⟩
  rcases l with ⟨hk, hm⟩ | ⟨hk, c, hc, hcell⟩
  · exact wpAny_Name (wpAny_loadName_local I.ok.kind hk hn hm fin) hd
  · rcases hk with hk | hk
    · exact wpAny_Name (wpAny_loadName_cell I.ok.kind hk hc hcell fin) hd
    · exact wpAny_Name (wpAny_loadName_free I.ok.kind hk hc hcell fin hcd) hd
theorem pe_int {i j pos} : PE X (.Constant (.int i) j pos) (tC (.int i)) := fun _ _ _ H _ I h => wpAny_Constant_int ⟨.int i, H, I.tok _, ⟨_, rfl⟩, h⟩
theorem pe_bl {b j pos} : PE X (.Constant (.bool b) j pos) (tC (.bl b)) := fun _ _ _ H _ I h => Constant_bool ⟨.bl b, H, I, rfl, h⟩
theorem pe_non {j pos} : PE X (.Constant .none j pos) (tC .non) := fun _ _ _ H _ I h => Constant_none ⟨.non, H, I, rfl, h⟩
theorem pe_str {x j pos} : PE X (.Constant (.str x) j pos) (tC (.str x)) := fun _ _ _ H _ I h => Calls.Constant_str ⟨.str x, H, I.tok _, ⟨_, rfl⟩, h⟩

def Gl (X : Cx) (x : Str) : Prop := X.env.kindOf x = some .globalImplicit
theorem ld_glob {E : Value → Shared → Prop} {pins : List (Addr × Obj)} {s : Shared} {σ : St} {H : Hp} {x : Str} {u : Value} {pos : Pos} {Q : Value → Shared → Prop} (I : Inv X pins σ H s) (hg : Gl X x) (hm : X.mg x = some u) (h : Q u s)
    (hd : (x == ("__debug__" : Str)) = false := by decide) : wpAny (model X.prog X.w) X.A (eval (.Name x pos) X.env) Q E s :=
  Calls.Name_function_global I.ok.kind hg (Calls.loadGlobal_global (by rw [I.ok.glob]; exact I.mod.glob.keeps I.bk) hm h) hd
theorem ld_blt {E : Value → Shared → Prop} {pins : List (Addr × Obj)} {s : Shared} {σ : St} {H : Hp} {x : Str} {u : Value} {pos : Pos} {Q : Value → Shared → Prop} (I : Inv X pins σ H s) (hg : Gl X x) (hm : X.mg x = none) (hv : bootBuiltins x = some u) (h : Q u s)
    (hn : x ≠ "__name__" := by decide) (hd : (x == ("__debug__" : Str)) = false := by decide) : wpAny (model X.prog X.w) X.A (eval (.Name x pos) X.env) Q E s := by
  obtain ⟨mb, h1, h2⟩ := I.mod.blt
  exact Calls.Name_function_global I.ok.kind hg (Calls.loadGlobal_builtin (by rw [I.ok.glob]; exact I.mod.glob.keeps I.bk) hm (by rw [I.ok.blt]; exact h1.keeps I.bk) ((h2 x hn).trans hv) h) hd
theorem pe_glob {x : Str} {v : V} {u : Value} {pos : Pos} (hg : Gl X x) (hm : X.mg x = some u) (r : RelV v u) (hd : (x == ("__debug__" : Str)) = false := by decide) : PE X (.Name x pos) (tC v) :=
  fun _ _ _ H _ I h => ld_glob I hg hm ⟨v, H, I, r, h⟩ hd
theorem pe_bltn {x : Str} {v : V} {u : Value} {pos : Pos} (hg : Gl X x) (hm : X.mg x = none) (hv : bootBuiltins x = some u) (r : RelV v u) (hn : x ≠ "__name__" := by decide) (hd : (x == ("__debug__" : Str)) = false := by decide) : PE X (.Name x pos) (tC v) :=
  fun _ _ _ H _ I h => ld_blt I hg hm hv ⟨v, H, I, r, h⟩ hn hd

variable {a b : Expr} {ta tb : TE} {pos : Pos}
def PC (X : Cx) (op : CmpOp) (a b : Expr) (t : TE) : Prop :=
  ∀ (pins : List (Addr × Obj)) (s : Shared) (σ : St) (H : Hp) (Q : VK), Inv X pins σ H s → t σ H Q →
    wpAny (model X.prog X.w) X.A (eval a X.env) (fun v s₁ => wpAny (model X.prog X.w) X.A (eval b X.env) (fun u s₂ => wpAny (model X.prog X.w) X.A (compareOp op v u) (EP X pins σ Q) X.xe s₂) X.xe s₁) X.xe s
theorem nobehind (b : Expr) {op : CmpOp} (h : op ≠ .In) (h2 : op ≠ .NotIn) : behindInMarks op b = false := by
  have e1 : (op == CmpOp.In) = false := by cases op <;> first | rfl | exact absurd rfl h
  have e2 : (op == CmpOp.NotIn) = false := by cases op <;> first | rfl | exact absurd rfl h2
  cases b <;> simp [behindInMarks, e1, e2]
def tB (t : TE) : TT := fun σ H Q => t σ H fun x H1 => ∃ c, x = .bl c ∧ Q c H1
theorem pt_cmp {op : CmpOp} {t : TE} (h : PC X op a b t) (h1 : behindInMarks op b = false := by first | exact nobehind _ (by decide) (by decide) | rfl) : PT X (.Compare a [op] [b] pos) (tB t) := by
  intro pins s σ H Q I hw
  refine wpAny_isTrue_Compare1 (thn (h pins s σ H _ I hw) fun v s1 h1 => thn h1 fun u s2 h2 => thn h2 fun c s3 ⟨x, H1, I1, r1, q1⟩ => ?_) h1
  obtain ⟨d, rfl, q⟩ := q1
  cases r1
  exact wpAny_truthy_bool ⟨H1, I1, q⟩
theorem pt_val {e : Expr} {t : TE} (h : PE X e t) (he : ∀ whole, isTrue e X.env whole = (do let v ← whole; standAt e.pos; holding [v] (truthy v)) := by intro _; rfl) : PT X e (tB t) := by
  intro pins s σ H Q I hw
  refine isTrue_plain (thn (h pins s σ H _ I hw) fun v s1 ⟨x, H1, I1, r1, q1⟩ => ?_) (he _)
  obtain ⟨d, rfl, q⟩ := q1
  cases r1
  exact wpAny_truthy_bool ⟨H1, I1, q⟩

variable {tA tB' : TT} {rest : List Expr}
def tAnd (t u : TT) : TT := fun σ H Q => t σ H fun c H1 => if c = true then u σ H1 Q else Q false H1
def tOr (t u : TT) : TT := fun σ H Q => t σ H fun c H1 => if c = true then Q true H1 else u σ H1 Q
def tNot (t : TT) : TT := fun σ H Q => t σ H fun c H1 => Q (!c) H1
theorem pw_and1 (ha : PT X a tA) : PW X (.BoolOp .And [a] pos) tA := by
  intro wh pins s σ H Q I h
  refine isTrue_and (thn (ha pins s σ H Q I h) fun c s1 e => ?_)
  cases c with
  | true => exact isTrue_and_nil e
  | false => exact e
theorem pw_or1 (ha : PT X a tA) : PW X (.BoolOp .Or [a] pos) tA := by
  intro wh pins s σ H Q I h
  refine isTrue_or (thn (ha pins s σ H Q I h) fun c s1 e => ?_)
  cases c with
  | false => exact isTrue_or_nil e
  | true => exact e
theorem pw_and (ha : PT X a tA) (hb : PW X (.BoolOp .And (b :: rest) pos) tB') : PW X (.BoolOp .And (a :: b :: rest) pos) (tAnd tA tB') := by
  intro wh pins s σ H Q I h
  refine isTrue_and (thn (ha pins s σ H _ I h) fun c s1 ⟨H1, I1, q1⟩ => ?_)
  cases c with
  | true => exact hb wh pins s1 σ H1 Q I1 q1
  | false => exact ⟨H1, I1, q1⟩
theorem pw_or (ha : PT X a tA) (hb : PW X (.BoolOp .Or (b :: rest) pos) tB') : PW X (.BoolOp .Or (a :: b :: rest) pos) (tOr tA tB') := by
  intro wh pins s σ H Q I h
  refine isTrue_or (thn (ha pins s σ H _ I h) fun c s1 ⟨H1, I1, q1⟩ => ?_)
  cases c with
  | true => exact ⟨H1, I1, q1⟩
  | false => exact hb wh pins s1 σ H1 Q I1 q1
theorem pt_not (ha : PT X a tA) : PT X (.UnaryOp .Not a pos) (tNot tA) := by
  intro pins s σ H Q I h
  exact isTrue_not (ha pins s σ H (fun c H1 => Q (!c) H1) I h)
def tAndV (ta tb : TE) : TE := fun σ H Q => ta σ H fun x H1 => ∃ c, x = .bl c ∧ if c = true then tb σ H1 Q else Q (.bl false) H1
def tNotV (ta : TE) : TE := fun σ H Q => ta σ H fun x H1 => ∃ c, x = .bl c ∧ Q (.bl (!c)) H1
theorem pe_one {op} {t : TE} (h : PE X a t) : PE X (.BoolOp op [a] pos) t := fun pins s σ H Q I hw => BoolOp_one (h pins s σ H Q I hw)
theorem pe_and (ha : PE X a ta) (hb : PE X (.BoolOp .And (b :: rest) pos) tb) : PE X (.BoolOp .And (a :: b :: rest) pos) (tAndV ta tb) := by
  intro pins s σ H Q I h
  refine BoolOp_and (thn (ha pins s σ H _ I h) fun v s1 ⟨x, H1, I1, r1, q1⟩ => ?_)
  obtain ⟨c, rfl, q1⟩ := q1
  cases r1
  refine wpAny_truthy_bool ?_
  cases c with
  | true => exact hb pins s1 σ H1 Q I1 q1
  | false => exact ⟨.bl false, H1, I1, rfl, q1⟩
theorem pe_not (ha : PE X a ta) : PE X (.UnaryOp .Not a pos) (tNotV ta) := by
  intro pins s σ H Q I h
  refine UnaryOp_ (thn (ha pins s σ H _ I h) fun v s1 ⟨x, H1, I1, r1, q1⟩ => ?_)
  obtain ⟨c, rfl, q1⟩ := q1
  cases r1
  exact not_of (wpAny_truthy_bool ⟨.bl (!c), H1, I1, rfl, q1⟩)
end
end L2

namespace L2
open PySem PySem.Spec PyProof.Rows

def SqL (K : PySem.W.Frag) (H : Hp) (a : Addr) (xs : List V) : Prop :=
  Rd H a (.lst xs) ∨
    ∃ (o : Obj) (its : Array Value) (n : Nat), K.lookup a = some o ∧ o.cls = .type "list" ∧ o.dict = none ∧ o.data = .seq its n ∧ its.size ≤ sizeLine ∧ Vals xs its.toList
def SqT (K : PySem.W.Frag) (H : Hp) (a : Addr) (xs : List V) : Prop :=
  Rd H a (.tup xs) ∨
    ∃ (o : Obj) (its : Array Value) (n : Nat), K.lookup a = some o ∧ o.cls = .type "tuple" ∧ o.data = .seq its n ∧ its.size ≤ sizeLine ∧ Vals xs its.toList
def absV : Value → Option V
  | .none => some .non
  | .bool b => some (.bl b)
  | .int i _ => some (.int i)
  | .str x _ => some (.str x)
  | .bytes b _ => some (.byt b)
  | .float b _ => some (.flt b)
  | .ref a => some (.ref a)
  | .type n => some (.ty n)
  | _ => none
theorem RelV.abs {x : V} {u : Value} (r : RelV x u) : absV u = some x := by
  cases x with
  | non => cases r; rfl
  | bl _ => cases r; rfl
  | int _ => obtain ⟨t, rfl⟩ := r; rfl
  | str _ => obtain ⟨t, rfl⟩ := r; rfl
  | byt _ => obtain ⟨t, rfl⟩ := r; rfl
  | flt _ => obtain ⟨t, rfl⟩ := r; rfl
  | ref _ => cases r; rfl
  | ty _ => cases r; rfl
theorem RelV.inj {x y : V} {u : Value} (r : RelV x u) (q : RelV y u) : x = y := Option.some.inj (r.abs.symm.trans q.abs)
theorem Vals.inj : ∀ {xs ys : List V} {us : List Value}, Vals xs us → Vals ys us → xs = ys
  | _, _, _, .nil, .nil => rfl
  | _, _, _, .cons r t, .cons r' t' => by rw [r.inj r', Vals.inj t t']
section
variable {X : Cx} {pins : List (Addr × Obj)} {σ : St} {H : Hp} {s : Shared} {a : Addr} {xs ys : List V}
theorem SqL.of {K : PySem.W.Frag} (h : H a = some (.lst xs)) : SqL K H a xs := .inl (.inl h)
theorem SqT.of {K : PySem.W.Frag} (h : H a = some (.tup xs)) : SqT K H a xs := .inl (.inl h)
theorem Inv.list (I : Inv X pins σ H s) (h : SqL X.K H a xs) : ∃ its : List Value, Vals xs its ∧ PlainL s.heap a its.toArray ∧ xs.length ≤ sizeLine := by
  rcases h with h | ⟨o, its, n, hk, hc, hd, hs, hz, r⟩
  · obtain ⟨z, its, n, r, e⟩ := h.ok I.hok
    exact ⟨its, r, ⟨_, n, e, rfl, rfl, rfl⟩, z⟩
  · refine ⟨its.toList, r, ⟨o, n, I.kIn a o hk, hc, hd, by simpa using hs⟩, ?_⟩
    have e := r.length
    simp only [Array.length_toList] at e
    omega
theorem Inv.tuple (I : Inv X pins σ H s) (h : SqT X.K H a xs) : ∃ its : List Value, Vals xs its ∧ IsTup s.heap a its.toArray ∧ xs.length ≤ sizeLine := by
  rcases h with h | ⟨o, its, n, hk, hc, hs, hz, r⟩
  · obtain ⟨z, its, r, p⟩ := h.ok I.hok
    exact ⟨its, r, p, z⟩
  · refine ⟨its.toList, r, ⟨o, I.kIn a o hk, hc, n, by simpa using hs⟩, ?_⟩
    have e := r.length
    simp only [Array.length_toList] at e
    omega
theorem Inv.list_inj (I : Inv X pins σ H s) (h : SqL X.K H a xs) (h' : SqL X.K H a ys) : xs = ys := by
  obtain ⟨its, r, ⟨o, n, e, _, _, d⟩, _⟩ := I.list h
  obtain ⟨its', r', ⟨o', n', e', _, _, d'⟩, _⟩ := I.list h'
  rw [e] at e'; cases e'
  rw [d] at d'
  injection d' with d1 _
  have : its = its' := by simpa using congrArg Array.toList d1
  subst this
  exact r.inj r'
theorem Inv.tuple_inj (I : Inv X pins σ H s) (h : SqT X.K H a xs) (h' : SqT X.K H a ys) : xs = ys := by
  obtain ⟨its, r, ⟨o, e, _, n, d⟩, _⟩ := I.tuple h
  obtain ⟨its', r', ⟨o', e', _, n', d'⟩, _⟩ := I.tuple h'
  rw [e] at e'; cases e'
  rw [d] at d'
  injection d' with d1 _
  have : its = its' := by simpa using congrArg Array.toList d1
  subst this
  exact r.inj r'
end

abbrev Cx.wish (X : Cx) (E : Value → Shared → Prop) : Cx := { X with xe := E }
abbrev Cx.nox (X : Cx) : Cx := X.wish fun _ _ => False
theorem Cx.Ok.wish {X : Cx} (ok : X.Ok) (E : Value → Shared → Prop) : (X.wish E).Ok :=
  ⟨ok.mod, ok.kind, ok.glob, ok.blt, ok.above, ok.inj, ok.has, ok.cab, ok.hd, ok.frames, ok.stk, ok.exf, ok.bs, ok.bsz, ok.noex, ok.exfs, ok.funs, ok.frf⟩
theorem Cx.Ok.unwish {X : Cx} {E : Value → Shared → Prop} (ok : (X.wish E).Ok) : X.Ok :=
  ⟨ok.mod, ok.kind, ok.glob, ok.blt, ok.above, ok.inj, ok.has, ok.cab, ok.hd, ok.frames, ok.stk, ok.exf, ok.bs, ok.bsz, ok.noex, ok.exfs, ok.funs, ok.frf⟩
section
variable {X : Cx} {pins : List (Addr × Obj)} {σ : St} {H : Hp} {s : Shared} {E : Value → Shared → Prop}
theorem Inv.wish (I : Inv X pins σ H s) (E : Value → Shared → Prop) : Inv (X.wish E) pins σ H s := ⟨I.ok.wish E, I.os, I.bare, I.base, I.loc, I.cell, I.free, I.freeC, I.pin, I.hok, I.len⟩
theorem Inv.unwish (I : Inv (X.wish E) pins σ H s) : Inv X pins σ H s := ⟨I.ok.unwish, I.os, I.bare, I.base, I.loc, I.cell, I.free, I.freeC, I.pin, I.hok, I.len⟩
theorem SP.unwish {D : Ends} {f : Flow} {s' : Shared} (h : SP (X.wish E) pins D f s') : SP X pins D f s' := by
  cases f with
  | next => obtain ⟨σ', H', I, q⟩ := h; exact ⟨σ', H', I.unwish, q⟩
  | brk => obtain ⟨σ', H', I, q⟩ := h; exact ⟨σ', H', I.unwish, q⟩
  | cont => obtain ⟨σ', H', I, q⟩ := h; exact ⟨σ', H', I.unwish, q⟩
  | ret u => obtain ⟨v, σ', H', I, r, q⟩ := h; exact ⟨v, σ', H', I.unwish, r, q⟩
theorem PSs.nox {st : List Stmt} {t : TS} (h : PSs X.nox st t) : PSs X st t := fun pins s σ H D I hw =>
  wpAny_mono (h pins s σ H D (I.wish _) hw) (fun _ _ q => q.unwish) fun _ _ z => False.elim z
end

section
variable {X : Cx} {st : Stmt} {rest : List Stmt} {t u : TS} {e : Expr} {te : TE} {pos : Pos}
def tNext : TS := fun D σ H => D.nx σ H
def tSeq (t u : TS) : TS := fun D σ H => t { D with nx := u D } σ H
theorem pss_nil : PSs X [] tNext := fun _ _ σ H _ I h => wpAny_execs_nil ⟨σ, H, I, h⟩
theorem pss_cons (h1 : PS X st t) (h2 : PSs X rest u) : PSs X (st :: rest) (tSeq t u) := by
  intro pins s σ H D I h
  refine wpAny_execs_cons (thn (h1 pins s σ H { D with nx := u D } I h) fun f s1 q => ?_)
  cases f with
  | next =>
    obtain ⟨σ', H', I', q⟩ := q
    exact h2 pins s1 σ' H' D I' q
  | ret v => exact q
  | brk => exact q
  | cont => exact q
theorem pss_one (h1 : PS X st t) : PSs X [st] t := by
  intro pins s σ H D I h
  refine wpAny_execs_cons (thn (h1 pins s σ H D I h) fun f s1 q => ?_)
  cases f with
  | next => exact wpAny_execs_nil q
  | ret v => exact q
  | brk => exact q
  | cont => exact q
theorem Inv.quiet {pins : List (Addr × Obj)} {σ : St} {H : Hp} {s : Shared} (I : Inv X pins σ H s) : interactive X.env = false := by simp [interactive, I.ok.kind]
def tDrop (te : TE) : TS := fun D σ H => te σ H fun _ H1 => D.nx σ H1
theorem ps_expr (he : PE X e te) (hs : swapsWith e none pos.line X.env = pure false := by rfl) : PS X (.Expr e pos) (tDrop te) := by
  intro pins s σ H D I h
  exact wpAny_Expr_any (thn (he pins s σ H _ I h) fun v s1 ⟨x, H1, I1, r1, q1⟩ => ⟨σ, H1, I1, q1⟩) I.quiet hs
def tRet (te : TE) : TS := fun D σ H => te σ H D.rt
theorem ps_ret (he : PE X e te) : PS X (.Return (some e) pos) (tRet te) := by
  intro pins s σ H D I h
  exact wpAny_Return_some (thn (he pins s σ H _ I h) fun v s1 ⟨x, H1, I1, r1, q1⟩ => ⟨x, σ, H1, I1, r1, q1⟩)
def tIfS (c : TT) (t u : TS) : TS := fun D σ H => c σ H fun b H1 => if b = true then t D σ H1 else u D σ H1
theorem ps_if {c : Expr} {a b : List Stmt} {tc : TT} (hc : PT X c tc) (ha : PSs X a t) (hb : PSs X b u) : PS X (.If c a b pos) (tIfS tc t u) := by
  intro pins s σ H D I h
  refine wpAny_If (thn (hc pins s σ H _ I h) fun d s1 ⟨H1, I1, q1⟩ => ?_)
  cases d with
  | true => exact ha pins s1 σ H1 D I1 q1
  | false => exact hb pins s1 σ H1 D I1 q1
end

abbrev TG := V → St → Hp → (St → Hp → Prop) → Prop
abbrev TGs := List V → St → Hp → (St → Hp → Prop) → Prop
def PG (X : Cx) (target : Expr) (t : TG) : Prop :=
  ∀ (pins : List (Addr × Obj)) (s : Shared) (σ : St) (H : Hp) (v : V) (u : Value) (Q : St → Hp → Prop), Inv X pins σ H s → RelV v u → t v σ H Q →
    wpAny (model X.prog X.w) X.A (assign target X.env u) (fun _ s' => ∃ σ' H', Inv X pins σ' H' s' ∧ Q σ' H') X.xe s
def PGs (X : Cx) (ts : List Expr) (t : TGs) : Prop :=
  ∀ (pins : List (Addr × Obj)) (s : Shared) (σ : St) (H : Hp) (vs : List V) (us : List Value) (Q : St → Hp → Prop), Inv X pins σ H s → Vals vs us → t vs σ H Q →
    wpAny (model X.prog X.w) X.A (assignInOrder ((assignEach ts X.env).map (·.2)) us) (fun _ s' => ∃ σ' H', Inv X pins σ' H' s' ∧ Q σ' H') X.xe s
section
variable {X : Cx} {pos : Pos}
def gName (i : Nat) : TG := fun v σ H Q => Q (σ.set i (some v)) H
theorem pg_name {i : Nat} {x : Str} (hN : X.N.Nodup) (hi : X.N[i]? = some x) (hx : Loc X.env.scope x) (hf : X.fn x = true ∨ X.env.scope.names.lookup x = some .local := by first | exact .inl rfl | exact .inr rfl | assumption) : PG X (.Name x pos) (gName i) := by
  intro pins s σ H v u Q I r h
  exact wpAny_assign_Name (store_ok I hN hi hx r (fun s' I' => ⟨_, H, I', h⟩) hf)
def gNil : TGs := fun vs σ H Q => vs = [] ∧ Q σ H
def gCons (t : TG) (u : TGs) : TGs := fun vs σ H Q => ∃ v r, vs = v :: r ∧ t v σ H fun σ' H' => u r σ' H' Q
theorem pgs_nil : PGs X [] gNil := by
  intro pins s σ H vs us Q I r h
  obtain ⟨e, h⟩ := h
  subst e
  cases r
  exact assignInOrder_nil ⟨σ, H, I, h⟩
theorem pgs_cons {e : Expr} {es : List Expr} {t : TG} {u : TGs} (h1 : PG X e t) (h2 : PGs X es u)
    (hs : (assignEach (e :: es) X.env).map (·.2) = assign e X.env :: (assignEach es X.env).map (·.2) := by rfl) : PGs X (e :: es) (gCons t u) := by
  intro pins s σ H vs us Q I r h
  obtain ⟨v, vr, e1, h⟩ := h
  subst e1
  cases r with
  | cons r rr =>
    rw [hs]
    refine assignInOrder_cons (thn (h1 pins s σ H _ _ _ I r h) fun _ s1 ⟨σ1, H1, I1, q1⟩ => ?_)
    exact h2 pins s1 σ1 H1 _ _ Q I1 rr q1
def gTup (K : PySem.W.Frag) (n : Nat) (t : TGs) : TG := fun v σ H Q => ∃ a xs, v = .ref a ∧ SqT K H a xs ∧ xs.length = n ∧ t xs σ H Q
theorem pg_tup {es : List Expr} {k : Nat} {t : TGs} {n : Nat} (hc : X.calm = true) (h : PGs X es t)
    (hn : (assignEach es X.env).length = n := by rfl) (hst : (assignEach es X.env).findIdx? (·.1) = none := by rfl) : PG X (.Tuple es k pos) (gTup X.K n t) := by
  intro pins s σ H v u Q I r hw
  obtain ⟨a, xs, e1, hq, hl, hw⟩ := hw
  subst e1
  cases r
  obtain ⟨its, rv, ht, hz⟩ := I.tuple hq
  refine assign_Tuple_tuple (I.ok.hd hc) ht (by simp [hn, ← hl, rv.length]) hst fun h' hx => ?_
  have I1 : Inv X pins σ H { s with heap := h' } := I.kept (t' := s.toks) fun b o e => hx b o (Nat.ne_of_lt (Heap.lt_size e)) e
  exact h pins _ σ H xs _ Q I1 (by simpa using rv) hw
def tAsg (te : TE) (g : TG) : TS := fun D σ H => te σ H fun x H1 => g x σ H1 D.nx
theorem ps_asg {tg e : Expr} {te : TE} {g : TG} (he : PE X e te) (hg : PG X tg g) (hs : swapsWithSole [tg] e pos.line X.env = pure false := by rfl) (hw : swappedStores [tg] e X.env = pure none := by rfl)
    (h1 : (assignEach [tg] X.env).map (·.2) = [assign tg X.env] := by rfl) : PS X (.Assign [tg] e pos) (tAsg te g) := by
  intro pins s σ H D I h
  refine wpAny_Assign_stores (thn (he pins s σ H _ I h) fun v s1 ⟨x, H1, I1, r1, q1⟩ => ?_) hs hw
  rw [h1]
  exact thn (hg pins s1 σ H1 x v _ I1 r1 q1) fun _ s2 q => q
theorem ps_set {i : Nat} {x : Str} {e : Expr} {te : TE} {pos' : Pos} (hN : X.N.Nodup) (hi : X.N[i]? = some x) (hx : Loc X.env.scope x) (he : PE X e te) (hs : swapsWith e (some (.Name x pos')) pos.line X.env = pure false := by rfl) (hf : X.fn x = true ∨ X.env.scope.names.lookup x = some .local := by first | exact .inl rfl | exact .inr rfl | assumption) :
    PS X (.Assign [.Name x pos'] e pos) (tAsg te (gName i)) := by
  intro pins s σ H D I h
  refine wpAny_Assign_Name (thn (he pins s σ H _ I h) fun v s1 ⟨y, H1, I1, r1, q1⟩ => ?_) hs
  exact store_ok I1 hN hi hx r1 (fun s2 I2 => ⟨_, H1, I2, q1⟩) hf
end

section
variable {X : Cx} {pos : Pos}
end

structure It where
  go : Nat → Hp → Prop
  yld : Nat → Hp → V → Hp → Prop
  stop : Nat → Hp → Prop
def FpOk (X : Cx) (pins : List (Addr × Obj)) (H : Hp) (b : Addr) : Prop :=
  H b = none ∧ b ≠ X.env.locals ∧ b ∉ X.fs ∧ (b ∈ X.ex ∨ X.s₀.heap.objs.size ≤ b) ∧ (∀ x c, X.env.cells.lookup x = some c → c ≠ b) ∧ ∀ p ∈ X.pn ++ pins, p.1 ≠ b
theorem Inv.fpOk {X : Cx} {pins : List (Addr × Obj)} {σ : St} {H H' : Hp} {s : Shared} {b : Addr} (I : Inv X pins σ H s) (hb : s.heap.objs.size ≤ b) (hn : H' b = none) : FpOk X pins H' b := by
  refine ⟨hn, Nat.ne_of_gt (Nat.lt_of_lt_of_le I.lt hb), I.nofs hb, .inr (Nat.le_trans I.sz hb), fun x c e z => ?_, fun p hp z => ?_⟩
  · obtain ⟨v, q⟩ := I.cell x c e
    exact absurd (Nat.lt_of_lt_of_le q.lt (by rw [z]; exact hb)) (Nat.lt_irrefl _)
  · exact absurd (Nat.lt_of_lt_of_le (Heap.lt_size (I.pin p hp).1) (by rw [z]; exact hb)) (Nat.lt_irrefl _)
structure Turn (P : Program) (w : World) (K : PySem.W.Frag) (tg : Expr) (J : It) (fp : List Addr) (it : Addr) (tn : Nat → Heap → Prop) : Prop where
  mem : it ∈ fp
  obj : ∀ i h, tn i h → ∀ b ∈ fp, ∃ o, h.get? b = some o ∧ ∀ v, o.data ≠ .cell v
  keep : ∀ i h h', tn i h → (∀ b ∈ fp, ∀ o, h.get? b = some o → h'.get? b = some o) → tn i h'
  item : ∀ (X : Cx), X.prog = P → X.w = w → X.K = K → X.calm = true → ∀ (i : Nat) (pins : List (Addr × Obj)) (s : Shared) (σ : St) (H : Hp) (E : Value → Shared → Prop), Inv X pins σ H s → (∀ b ∈ fp, FpOk X pins H b) → tn i s.heap → J.go i H →
    wpAny (model P w) X.A (pyNext (.ref it)) (fun r s1 => ∃ u, r = some u ∧
      wpAny (model P w) X.A (letOwnedTupleGo tg (.ref it) u) (fun _ s2 => ∃ x H', Inv X pins σ H' s2 ∧ RelV x u ∧ J.yld i H x H' ∧ tn (i + 1) s2.heap ∧ ∀ b ∈ fp, H' b = none) E s1) E s
  done : ∀ (X : Cx), X.prog = P → X.w = w → X.K = K → X.calm = true → ∀ (i : Nat) (pins : List (Addr × Obj)) (s : Shared) (σ : St) (H : Hp) (E : Value → Shared → Prop), Inv X pins σ H s → (∀ b ∈ fp, FpOk X pins H b) → tn i s.heap → J.stop i H →
    wpAny (model P w) X.A (pyNext (.ref it)) (fun r s1 => r = none ∧ Inv X pins σ H s1) E s
  self : ∀ (A : Around) (i : Nat) (s : Shared) (Q : Value → Shared → Prop) (E : Value → Shared → Prop), tn i s.heap → Q (.ref it) s → wpAny (model P w) A (pyIter (.ref it)) Q E s
abbrev TI := St → Hp → (It → Hp → Prop) → Prop
def PIE (X : Cx) (pins : List (Addr × Obj)) (σ : St) (tg : Expr) (R : It → Hp → Prop) (itv : Value) (s2 : Shared) : Prop :=
  ∃ (it : Addr) (fp : List Addr) (tn : Nat → Heap → Prop) (J : It) (H' : Hp), itv = .ref it ∧ Inv X pins σ H' s2 ∧ Turn X.prog X.w X.K tg J fp it tn ∧ tn 0 s2.heap ∧ (∀ b ∈ fp, FpOk X pins H' b) ∧ R J H'
def PI (X : Cx) (tg iter : Expr) (wi : TI) : Prop :=
  ∀ (pins : List (Addr × Obj)) (s : Shared) (σ : St) (H : Hp) (R : It → Hp → Prop), Inv X pins σ H s → wi σ H R →
    wpAny (model X.prog X.w) X.A (eval iter X.env) (fun v s1 => wpAny (model X.prog X.w) X.A (pyIter v) (PIE X pins σ tg R) X.xe s1) X.xe s

theorem go_of {M : Model} {A : Around} {E : Value → Shared → Prop} {s : Shared} {tg : Expr} {it : Addr} {u : Value} {o : Obj} {n : String} {vs : Array Value} {Q : Unit → Shared → Prop} (ho : s.heap.get? it = some o) (hc : o.cls = .type n) (hd : o.data = .fields vs)
    (hn : ["enumerate", "zip", "dict_itemiterator", "dict_reverseitemiterator", "odict_iterator", "itertools.zip_longest", "itertools.pairwise"].contains n = false) (hQ : Q () s) : wpAny M A (letOwnedTupleGo tg (.ref it) u) Q E s := by
  unfold letOwnedTupleGo
  cases tg <;> first
    | exact wpAny_pure hQ
    | (cases u <;> first
        | exact wpAny_pure hQ
        | (refine wpAny_bind (wpAny_load ho ?_)
           rw [hc, hd]
           show wpAny M A (if (["enumerate", "zip", "dict_itemiterator", "dict_reverseitemiterator", "odict_iterator", "itertools.zip_longest", "itertools.pairwise"].contains n && vs[0]? == some (rawInt _)) = true then _ else _) Q E s
           rw [if_neg (by intro h; rw [hn, Bool.false_and] at h; cases h)]
           exact wpAny_pure hQ))

def Itl (K : PySem.W.Frag) (a : Addr) : It :=
  ⟨fun i H => ∃ xs x, SqL K H a xs ∧ xs[i]? = some x, fun i H x H' => H' = H ∧ ∀ xs, SqL K H a xs → xs[i]? = some x, fun i H => ∃ xs, SqL K H a xs ∧ xs.length ≤ i⟩
def Itt (K : PySem.W.Frag) (a : Addr) : It :=
  ⟨fun i H => ∃ xs x, SqT K H a xs ∧ xs[i]? = some x, fun i H x H' => H' = H ∧ ∀ xs, SqT K H a xs → xs[i]? = some x, fun i H => ∃ xs, SqT K H a xs ∧ xs.length ≤ i⟩
def Itr (lo : Int) (n : Nat) : It := ⟨fun i _ => i < n, fun i H x H' => H' = H ∧ x = .int (lo + i), fun i _ => n ≤ i⟩
theorem turn_list {P : Program} {w : World} {K : PySem.W.Frag} {tg : Expr} (a it : Addr) : Turn P w K tg (Itl K a) [it] it (fun i h => h.IsListIter it a i) where
  mem := by simp
  obj := fun i h st b hb => by
    have e : b = it := by simpa using hb
    subst e
    obtain ⟨o, e, c, d⟩ := st
    exact ⟨o, e, fun v z => by rw [d] at z; cases z⟩
  keep := fun i h h' st k => st.at fun o e => k it (by simp) o e
  item := by
    intro X hP hw hK hc i pins s σ H E I hf st hg
    subst hP hw hK
    obtain ⟨xs, x, hq, hx⟩ := hg
    obtain ⟨its, rv, p, hz⟩ := I.list hq
    obtain ⟨u, hu, ru⟩ := rv.get hx
    obtain ⟨f0, f1, f2, f3, f4, f5⟩ := hf it (by simp)
    refine wpAny_pyNext_list_item st p.isList (x := u) (by simpa using hu) fun h' st' sb => ?_
    have I1 : Inv X pins σ H { s with heap := h' } := I.turned (t' := s.toks) (fun b o hb e => (sb.2 b hb).trans e) f0 f1 f3 f4 f5
    obtain ⟨o, e, c, d⟩ := id st'
    exact ⟨u, rfl, go_of (s := { s with heap := h' }) e c d (by decide) ⟨x, H, I1, ru, ⟨rfl, fun ys hy => by rw [I.list_inj hy hq]; exact hx⟩, st', fun b hb => (hf b hb).1⟩⟩
  done := by
    intro X hP hw hK hc i pins s σ H E I hf st hg
    subst hP hw hK
    obtain ⟨xs, hq, hx⟩ := hg
    obtain ⟨its, rv, p, hz⟩ := I.list hq
    obtain ⟨f0, f1, f2, f3, f4, f5⟩ := hf it (by simp)
    have hl := rv.length
    exact wpAny_pyNext_list_end (I.ok.hd hc) st p.isList (by simp; omega) fun h' eb => ⟨rfl, I.turned (t' := s.toks) (fun b o hb e => eb b o hb e) f0 f1 f3 f4 f5⟩
  self := fun _ _ _ _ _ st h => wpAny_pyIter_listiter st h
theorem turn_tuple {P : Program} {w : World} {K : PySem.W.Frag} {tg : Expr} (a it : Addr) : Turn P w K tg (Itt K a) [it] it (fun i h => h.IsTupleIter it a i) where
  mem := by simp
  obj := fun i h st b hb => by
    have e : b = it := by simpa using hb
    subst e
    obtain ⟨o, e, c, d⟩ := st
    exact ⟨o, e, fun v z => by rw [d] at z; cases z⟩
  keep := fun i h h' st k => st.at fun o e => k it (by simp) o e
  item := by
    intro X hP hw hK hc i pins s σ H E I hf st hg
    subst hP hw hK
    obtain ⟨xs, x, hq, hx⟩ := hg
    obtain ⟨its, rv, p, hz⟩ := I.tuple hq
    obtain ⟨u, hu, ru⟩ := rv.get hx
    obtain ⟨f0, f1, f2, f3, f4, f5⟩ := hf it (by simp)
    refine wpAny_pyNext_tuple_item st (show s.heap.IsTuple a its.toArray from p) (x := u) (by simpa using hu) fun h' st' sb => ?_
    have I1 : Inv X pins σ H { s with heap := h' } := I.turned (t' := s.toks) (fun b o hb e => (sb.2 b hb).trans e) f0 f1 f3 f4 f5
    obtain ⟨o, e, c, d⟩ := id st'
    exact ⟨u, rfl, go_of (s := { s with heap := h' }) e c d (by decide) ⟨x, H, I1, ru, ⟨rfl, fun ys hy => by rw [I.tuple_inj hy hq]; exact hx⟩, st', fun b hb => (hf b hb).1⟩⟩
  done := by
    intro X hP hw hK hc i pins s σ H E I hf st hg
    subst hP hw hK
    obtain ⟨xs, hq, hx⟩ := hg
    obtain ⟨its, rv, p, hz⟩ := I.tuple hq
    obtain ⟨f0, f1, f2, f3, f4, f5⟩ := hf it (by simp)
    have hl := rv.length
    exact wpAny_pyNext_tuple_end (I.ok.hd hc) st (show s.heap.IsTuple a its.toArray from p) (by simp; omega) fun h' eb => ⟨rfl, I.turned (t' := s.toks) (fun b o hb e => eb b o hb e) f0 f1 f3 f4 f5⟩
  self := fun _ _ _ _ _ st h => wpAny_pyIter_tupleiter st h
theorem turn_range {P : Program} {w : World} {K : PySem.W.Frag} {tg : Expr} (it : Addr) (lo : Int) (n : Nat) : Turn P w K tg (Itr lo n) [it] it (fun i h => IsRangeIter h it (lo + (i : Nat) * 1) ((n : Int) - (i : Nat)) 1) where
  mem := by simp
  obj := fun i h st b hb => by
    have e : b = it := by simpa using hb
    subst e
    exact ⟨_, st, fun v z => by
      have z' : Data.fields _ = Data.cell v := z
      cases z'⟩
  keep := fun i h h' st k => k it (by simp) _ st
  item := by
    intro X hP hw hK hc i pins s σ H E I hf st hg
    subst hP hw hK
    obtain ⟨f0, f1, f2, f3, f4, f5⟩ := hf it (by simp)
    have W := Walks.range (prog := X.prog) (w := X.w) (I.ok.hd hc) it lo 1 n
    refine W.item i s _ _ hg st fun v h' tk hv st' kk => ?_
    obtain ⟨t, rfl⟩ := hv
    have I1 : Inv X pins σ H { s with heap := h', toks := tk } := I.turned (fun b o hb e => kk b o (by simpa using hb) e) f0 f1 f3 f4 f5
    refine ⟨_, rfl, go_of (s := { s with heap := h', toks := tk }) (n := "range_iterator") st' rfl rfl (by decide) ⟨.int (lo + i), H, I1, ⟨t, ?_⟩, ⟨rfl, rfl⟩, st', fun b hb => (hf b hb).1⟩⟩
    rw [Int.mul_one]
  done := by
    intro X hP hw hK hc i pins s σ H E I hf st hg
    subst hP hw hK
    obtain ⟨f0, f1, f2, f3, f4, f5⟩ := hf it (by simp)
    exact wpAny_pyNext_range_end (I.ok.hd hc) st (by have : n ≤ i := hg; omega) fun h' eb => ⟨rfl, I.turned (t' := s.toks) (fun b o hb e => eb b o hb e) f0 f1 f3 f4 f5⟩
  self := fun _ _ _ _ _ st h => wpAny_pyIter_rangeiter st h
end L2

namespace L2
open PySem PySem.Spec PyProof.Rows
section
variable {X : Cx} {tg : Expr}
theorem range_it {pins : List (Addr × Obj)} {σ : St} {H : Hp} {s : Shared} {R : It → Hp → Prop} {E : Value → Shared → Prop} {lo hi : Int} {t u v : Tok} {tk : Nat} (I : Inv X pins σ H s) (h1 : -(2 ^ 62) ≤ lo) (h2 : lo < 2 ^ 62) (h3 : -(2 ^ 62) ≤ hi) (h4 : hi < 2 ^ 62)
    (q : R (Itr lo (hi - lo).toNat) H) : wpAny (model X.prog X.w) X.A (pyIter (.ref s.heap.objs.size)) (PIE X pins σ tg R) E { s with heap := s.heap.push { cls := .type "range", data := .fields #[.int lo t, .int hi u, .int 1 v] }, toks := tk } := by
  refine wpAny_pyIter_range (IsRange.new ..) (small_one h1 h2 h3 h4) ?_
  have I1 : Inv X pins σ H { s with heap := s.heap.push { cls := .type "range", data := .fields #[.int lo t, .int hi u, .int 1 v] }, toks := tk } := I.kept fun b o e => Heap.get?_push_of_some _ e
  refine ⟨(s.heap.push { cls := .type "range", data := .fields #[.int lo t, .int hi u, .int 1 v] }).objs.size, [(s.heap.push { cls := .type "range", data := .fields #[.int lo t, .int hi u, .int 1 v] }).objs.size], _, _, H, rfl,
    I1.kept (t' := tk) fun b o e => Heap.get?_push_of_some _ e, turn_range _ lo (hi - lo).toNat, ?_, fun b hb => ?_, q⟩
  · have e1 : lo + ((0 : Nat) : Int) * 1 = lo := by simp
    have e2 : (((hi - lo).toNat : Nat) : Int) - ((0 : Nat) : Int) = Builtin.Range.rangeSize lo hi 1 := by rw [rangeSize_one]; split <;> omega
    show IsRangeIter _ _ (lo + ((0 : Nat) : Int) * 1) ((((hi - lo).toNat : Nat) : Int) - ((0 : Nat) : Int)) 1
    rw [e1, e2]
    exact Heap.get?_push_size _ rfl
  · have e : b = (s.heap.push { cls := .type "range", data := .fields #[.int lo t, .int hi u, .int 1 v] }).objs.size := by simpa using hb
    subst e
    exact I1.fpOk (Nat.le_refl _) (I1.hok.fresh (Nat.le_refl _))
def iRng1 (ta : TA) : TI := fun σ H R => ta σ H fun vs H1 => ∃ j : Int, vs = [.int j] ∧ -(2 ^ 62) ≤ j ∧ j < 2 ^ 62 ∧ R (Itr 0 j.toNat) H1
theorem pi_range1 {a : Expr} {ta : TA} {p pos : Pos} (hg : Gl X "range") (hm : X.mg "range" = none) (ha : PA X [a] ta) (hs : starEach [a] X.env = [(false, eval a X.env)] := by rfl) : PI X tg (.Call (.Name "range" p) [a] [] pos) (iRng1 ta) := by
  intro pins s σ H R I h
  refine Call_ (ld_blt I hg hm boot_range (PyProof.Rows.callWith_type1 (thn (ha pos pins s σ H _ I h) fun us s1 ⟨vs, H1, I1, r1, q1⟩ => ?_) hs rfl))
  obtain ⟨j, e, q1, q2, q⟩ := q1
  subst e
  cases r1 with
  | cons r rr =>
    cases rr
    obtain ⟨t, rfl⟩ := r
    exact call_range_1 (range_it I1 (by omega) (by omega) q1 q2 (by simpa using q))
def tFor (wi : TI) (g : TG) (tb : TS) : TS := fun D σ H => wi σ H fun J H1 => ∃ W : Nat → Nat → St → Hp → Prop, (∃ m, W 0 m σ H1) ∧ ∀ i m σ H, W i m σ H →
  (J.stop i H ∧ D.nx σ H) ∨ (J.go i H ∧ ∃ N : St → Hp → Prop, (∀ σ' H', N σ' H' → ∃ m', m' < m ∧ W (i + 1) m' σ' H') ∧ ∀ x H', J.yld i H x H' → g x σ H' fun σ2 H2 => tb { D with nx := N, ct := N, bk := D.nx } σ2 H2)
def pinsAt (fp : List Addr) (h : Heap) : List (Addr × Obj) := fp.filterMap fun b => (h.get? b).map fun o => (b, o)
theorem mem_pinsAt {fp : List Addr} {h : Heap} {b : Addr} {o : Obj} (hb : b ∈ fp) (e : h.get? b = some o) : (b, o) ∈ pinsAt fp h := List.mem_filterMap.mpr ⟨b, hb, by rw [e]; rfl⟩
theorem of_pinsAt {fp : List Addr} {h : Heap} {p : Addr × Obj} (hp : p ∈ pinsAt fp h) : p.1 ∈ fp ∧ h.get? p.1 = some p.2 := by
  obtain ⟨b, hb, e⟩ := List.mem_filterMap.mp hp
  cases q : h.get? b with
  | none => rw [q] at e; cases e
  | some o =>
    rw [q] at e
    have e' : (b, o) = p := Option.some.inj e
    subst e'
    exact ⟨hb, q⟩
theorem Inv.pinned {pins : List (Addr × Obj)} {σ : St} {H : Hp} {s : Shared} {fp : List Addr} (I : Inv X pins σ H s) (hf : ∀ b ∈ fp, FpOk X pins H b) (ho : ∀ b ∈ fp, ∃ o, s.heap.get? b = some o ∧ ∀ v, o.data ≠ .cell v) : Inv X (pins ++ pinsAt fp s.heap) σ H s :=
  I.pins_of fun p hp => (List.mem_append.mp hp).elim (fun z => I.pin p (List.mem_append_right _ z)) fun z => by
    obtain ⟨hb, e⟩ := of_pinsAt z
    obtain ⟨f0, f1, f2, _⟩ := hf p.1 hb
    obtain ⟨o, e', d⟩ := ho p.1 hb
    rw [e] at e'; cases e'
    exact ⟨e, f0, f1, f2, d⟩
theorem Inv.unpinned {pins pl : List (Addr × Obj)} {σ : St} {H : Hp} {s : Shared} (I : Inv X (pins ++ pl) σ H s) : Inv X pins σ H s := I.pins_of fun p hp => I.pin p (List.mem_append_right _ (List.mem_append_left _ hp))
theorem ps_for {iter : Expr} {body : List Stmt} {wi : TI} {g : TG} {tb : TS} {pos : Pos} (hp : PassesOwn (model X.prog X.w) X.A X.env X.xe) (hc : X.calm = true) (hi : PI X tg iter wi) (hg : PG X tg g) (hb : PSs X body tb)
    (hs : ∀ x, foldedSetIterable iter X.env x = pure x := by intro _; rfl) : PS X (.For tg iter body [] pos) (tFor wi g tb) := by
  intro pins s σ H D I h
  refine wpAny_For (thn (hi pins s σ H _ I h) fun v s1 h1 => thn h1 fun itv s2 h2 => ?_) hs
  obtain ⟨it, fp, tn, J, H2, e, I2, T, st2, f2, W, ⟨m0, w0⟩, turn⟩ := h2
  subst e
  -- what stays true of the iterator's objects through the loop
  have stat : ∀ {H' : Hp}, (∀ b ∈ fp, H' b = none) → ∀ b ∈ fp, FpOk X pins H' b := fun hn b hb => ⟨hn b hb, (f2 b hb).2⟩
  refine codeAny_forLoop_any (fun n s' => ∃ i σ' H', Inv X pins σ' H' s' ∧ tn i s'.heap ∧ (∀ b ∈ fp, H' b = none) ∧ W i n σ' H') ?_ m0 ⟨0, σ, H2, I2, st2, fun b hb => (f2 b hb).1, w0⟩
  rintro n s3 ⟨i, σ3, H3, I3, st3, fr3, w3⟩
  rcases turn i n σ3 H3 w3 with ⟨stop, qn⟩ | ⟨go, N, hN, step⟩
  · refine wpAny_passesOwn hp (thn (T.done X rfl rfl rfl hc i pins s3 σ3 H3 X.xe I3 (stat fr3) st3 stop) fun r s4 ⟨hr, I4⟩ => ?_)
    subst hr
    exact wpAny_execs_nil ⟨σ3, H3, I4, qn⟩
  · refine wpAny_passesOwn hp (thn (T.item X rfl rfl rfl hc i pins s3 σ3 H3 X.xe I3 (stat fr3) st3 go) fun r s4 ⟨u, hr, h4⟩ => ?_)
    subst hr
    refine wpAny_passesOwn hp (thn h4 fun _ s5 ⟨x, H5, I5, r5, y5, st5, fr5⟩ => ?_)
    have I5' := I5.pinned (stat fr5) (T.obj _ _ st5)
    refine wpAny_passesOwn hp (thn (hg _ s5 σ3 H5 x u _ I5' r5 (step x H5 y5)) fun _ s6 ⟨σ6, H6, I6, q6⟩ => ?_)
    refine wpAny_passesOwn hp (thn (hb _ s6 σ6 H6 _ I6 q6) fun f s7 q7 => ?_)
    have again : ∀ {σ7 : St} {H7 : Hp}, Inv X (pins ++ pinsAt fp s5.heap) σ7 H7 s7 → N σ7 H7 → ∃ m, m < n ∧ ∃ i σ' H', Inv X pins σ' H' s7 ∧ tn i s7.heap ∧ (∀ b ∈ fp, H' b = none) ∧ W i m σ' H' := fun {σ7 H7} I7 n7 => by
      obtain ⟨m', hm, w7⟩ := hN σ7 H7 n7
      refine ⟨m', hm, i + 1, σ7, H7, I7.unpinned, T.keep _ _ _ st5 fun b hb o e => (I7.pin (b, o) (List.mem_append_right _ (List.mem_append_right _ (mem_pinsAt hb e)))).1, fun b hb => ?_, w7⟩
      obtain ⟨o, e, d⟩ := T.obj _ _ st5 b hb
      exact (I7.pin (b, o) (List.mem_append_right _ (List.mem_append_right _ (mem_pinsAt hb e)))).2.1
    cases f with
    | next => obtain ⟨σ7, H7, I7, n7⟩ := q7; exact again I7 n7
    | cont => obtain ⟨σ7, H7, I7, n7⟩ := q7; exact again I7 n7
    | brk => obtain ⟨σ7, H7, I7, q7⟩ := q7; exact ⟨σ7, H7, I7.unpinned, q7⟩
    | ret v => obtain ⟨x7, σ7, H7, I7, r7, q7⟩ := q7; exact ⟨x7, σ7, H7, I7.unpinned, r7, q7⟩
end

end L2

namespace L2
open PySem PySem.Spec PyProof.Rows

abbrev R2 := V → V → Hp → VK → Prop
def OpR (X : Cx) (f : Value → Value → Sem Value) (r : R2) : Prop :=
  ∀ (pins : List (Addr × Obj)) (s : Shared) (σ : St) (H : Hp) (x y : V) (v u : Value) (Q : VK), Inv X pins σ H s → RelV x v → RelV y u → r x y H Q →
    wpAny (model X.prog X.w) X.A (f v u) (EP X pins σ Q) X.xe s
def UnR (X : Cx) (f : Value → Sem Value) (r : V → Hp → VK → Prop) : Prop :=
  ∀ (pins : List (Addr × Obj)) (s : Shared) (σ : St) (H : Hp) (x : V) (v : Value) (Q : VK), Inv X pins σ H s → RelV x v → r x H Q →
    wpAny (model X.prog X.w) X.A (f v) (EP X pins σ Q) X.xe s
def CallR (X : Cx) (f : Value) (r : List V → Hp → VK → Prop) : Prop :=
  ∀ (pins : List (Addr × Obj)) (s : Shared) (σ : St) (H : Hp) (xs : List V) (us : List Value) (Q : VK), Inv X pins σ H s → Vals xs us → r xs H Q →
    wpAny (model X.prog X.w) X.A (call f us) (EP X pins σ Q) X.xe s
def tOp (r : R2) (ta tb : TE) : TE := fun σ H Q => ta σ H fun x H1 => tb σ H1 fun y H2 => r x y H2 Q
def tUn (r : V → Hp → VK → Prop) (ta : TE) : TE := fun σ H Q => ta σ H fun x H1 => r x H1 Q
def rI (C : Int → Int → Prop) (g : Int → Int → V) : R2 := fun x y H Q => ∃ i j, x = .int i ∧ y = .int j ∧ C i j ∧ Q (g i j) H
def rI0 (g : Int → Int → V) : R2 := fun x y H Q => ∃ i j, x = .int i ∧ y = .int j ∧ Q (g i j) H
def rU (g : Int → V) : V → Hp → VK → Prop := fun x H Q => ∃ i, x = .int i ∧ Q (g i) H

section
variable {X : Cx} {a b c : Expr} {ta tb tc : TE} {pos : Pos}

theorem binT (ha : PE X a ta) (hb : PE X b tb) {pins : List (Addr × Obj)} {s : Shared} {σ : St} {H : Hp} {R : V → V → Hp → Prop} (I : Inv X pins σ H s)
    (h : ta σ H fun x H1 => tb σ H1 fun y H2 => R x y H2) {Q : Value → Shared → Prop} {f : Value → Value → Sem Value}
    (hf : ∀ v u s2 x y H2, Inv X pins σ H2 s2 → RelV x v → RelV y u → R x y H2 → wpAny (model X.prog X.w) X.A (f v u) Q X.xe s2) :
    wpAny (model X.prog X.w) X.A (eval a X.env) (fun v s₁ => wpAny (model X.prog X.w) X.A (eval b X.env) (fun u s₂ => wpAny (model X.prog X.w) X.A (f v u) Q X.xe s₂) X.xe s₁) X.xe s := by
  refine thn (ha pins s σ H _ I h) fun v s1 ⟨x, H1, I1, r1, q1⟩ => ?_
  refine thn (hb pins s1 σ H1 _ I1 q1) fun u s2 ⟨y, H2, I2, r2, q2⟩ => ?_
  exact hf v u s2 x y H2 I2 r1 r2 q2

theorem pe_op {op : Operator} {r : R2} (ho : OpR X (binaryOp op) r) (ha : PE X a ta) (hb : PE X b tb) : PE X (.BinOp a op b pos) (tOp r ta tb) := by
  intro pins s σ H Q I h
  exact wpAny_BinOp (binT ha hb I h fun v u s2 x y H2 I2 rx ry q => ho pins s2 σ H2 x y v u Q I2 rx ry q)
theorem pe_un {op : UnaryOp} {r : V → Hp → VK → Prop} (ho : UnR X (unaryOp op) r) (ha : PE X a ta) : PE X (.UnaryOp op a pos) (tUn r ta) := by
  intro pins s σ H Q I h
  exact UnaryOp_ (thn (ha pins s σ H _ I h) fun v s1 ⟨x, H1, I1, r1, q1⟩ => ho pins s1 σ H1 x v Q I1 r1 q1)
theorem opI {f : Value → Value → Sem Value} {C : Int → Int → Prop} {g : Int → Int → Int}
    (rule : ∀ (i j : Int) (t u : Tok) (s : Shared) (Q : Value → Shared → Prop) (E : Value → Shared → Prop), C i j → Q (.int (g i j) s.toks) { s with toks := s.toks + 1 } → wpAny (model X.prog X.w) X.A (f (.int i t) (.int j u)) Q E s) :
    OpR X f (rI C fun i j => .int (g i j)) := by
  intro pins s σ H x y v u Q I rx ry h
  obtain ⟨i, j, rfl, rfl, hc, q⟩ := h
  obtain ⟨t, rfl⟩ := rx
  obtain ⟨t', rfl⟩ := ry
  exact rule i j t t' s _ _ hc ⟨.int (g i j), H, I.tok _, ⟨_, rfl⟩, q⟩
theorem opI0 {f : Value → Value → Sem Value} {g : Int → Int → Int}
    (rule : ∀ (i j : Int) (t u : Tok) (s : Shared) (Q : Value → Shared → Prop) (E : Value → Shared → Prop), Q (.int (g i j) s.toks) { s with toks := s.toks + 1 } → wpAny (model X.prog X.w) X.A (f (.int i t) (.int j u)) Q E s) :
    OpR X f (rI0 fun i j => .int (g i j)) := by
  intro pins s σ H x y v u Q I rx ry h
  obtain ⟨i, j, rfl, rfl, q⟩ := h
  obtain ⟨t, rfl⟩ := rx
  obtain ⟨t', rfl⟩ := ry
  exact rule i j t t' s _ _ ⟨.int (g i j), H, I.tok _, ⟨_, rfl⟩, q⟩
theorem opB0 {f : Value → Value → Sem Value} {g : Int → Int → Bool}
    (rule : ∀ (i j : Int) (t u : Tok) (s : Shared) (Q : Value → Shared → Prop) (E : Value → Shared → Prop), Q (.bool (g i j)) s → wpAny (model X.prog X.w) X.A (f (.int i t) (.int j u)) Q E s) :
    OpR X f (rI0 fun i j => .bl (g i j)) := by
  intro pins s σ H x y v u Q I rx ry h
  obtain ⟨i, j, rfl, rfl, q⟩ := h
  obtain ⟨t, rfl⟩ := rx
  obtain ⟨t', rfl⟩ := ry
  exact rule i j t t' s _ _ ⟨.bl (g i j), H, I, rfl, q⟩

def CMul (i j : Int) : Prop := (-(2 ^ 64) < i ∧ i < 2 ^ 64) ∨ (-(2 ^ 64) < j ∧ j < 2 ^ 64)
theorem CMul.ok {i j : Int} (h : CMul i j) : IntMulOk i j := by
  rcases h with ⟨h1, h2⟩ | ⟨h1, h2⟩
  · exact .of_left (intBits_le_64 h1 h2)
  · exact .of_right (intBits_le_64 h1 h2)
theorem op_add : OpR X (binaryOp .Add) (rI0 fun i j => .int (i + j)) := opI0 fun _ _ _ _ _ _ _ q => add_int q
theorem op_sub : OpR X (binaryOp .Sub) (rI0 fun i j => .int (i - j)) := opI0 fun _ _ _ _ _ _ _ q => sub_int q
theorem op_modN : OpR X (binaryOp .Mod) (rI (fun _ j => j ≠ 0) fun i j => .int (i.fmod j)) := opI fun _ _ _ _ _ _ _ hc q => mod_int' hc q
theorem unI {f : Value → Sem Value} {g : Int → Int}
    (rule : ∀ (i : Int) (t : Tok) (s : Shared) (Q : Value → Shared → Prop) (E : Value → Shared → Prop), Q (.int (g i) s.toks) { s with toks := s.toks + 1 } → wpAny (model X.prog X.w) X.A (f (.int i t)) Q E s) :
    UnR X f (rU fun i => .int (g i)) := by
  intro pins s σ H x v Q I rx h
  obtain ⟨i, rfl, q⟩ := h
  obtain ⟨t, rfl⟩ := rx
  exact rule i t s _ _ ⟨.int (g i), H, I.tok _, ⟨_, rfl⟩, q⟩
theorem un_neg : UnR X (unaryOp .USub) (rU fun i => .int (-i)) := unI fun _ _ _ _ _ q => neg_int q
end

section
variable {X : Cx} {a b c : Expr} {ta tb tc : TE} {pos : Pos}
theorem fin_bl {pins : List (Addr × Obj)} {σ : St} {H : Hp} {s : Shared} {Q : VK} {k k' : Bool} (I : Inv X pins σ H s) (q : Q (.bl k) H) (e : k = k') : EP X pins σ Q (.bool k') s := by
  subst e
  exact ⟨.bl k, H, I, rfl, q⟩
theorem op_lt : OpR X (compareOp .Lt) (rI0 fun i j => .bl (decide (i < j))) := opB0 fun _ _ _ _ _ _ _ q => lt_int q
theorem op_le : OpR X (compareOp .LtE) (rI0 fun i j => .bl (decide (i ≤ j))) := opB0 fun _ _ _ _ _ _ _ q => le_int q
theorem op_gt : OpR X (compareOp .Gt) (rI0 fun i j => .bl (decide (j < i))) := opB0 fun _ _ _ _ _ _ _ q => gt_int q
theorem op_ge : OpR X (compareOp .GtE) (rI0 fun i j => .bl (decide (j ≤ i))) := opB0 fun _ _ _ _ _ _ _ q => ge_int q
theorem op_in_str : OpR X (compareOp .In) (fun x y H Q => ∃ i j, x = .str i ∧ y = .str j ∧ Q (.bl (!(Builtin.Str.occurrences j i 0 j.length 1).isEmpty)) H) := by
  intro pins s σ H x y v u Q I rx ry h
  obtain ⟨i, j, rfl, rfl, q⟩ := h
  obtain ⟨t, rfl⟩ := rx
  obtain ⟨t', rfl⟩ := ry
  exact in_str (fin_bl I q rfl)

theorem op_isN : OpR X (compareOp .Is) (fun x y H Q => y = .non ∧ Q (.bl (decide (x = .non))) H) := by
  intro pins s σ H x y v u Q I rx ry h
  obtain ⟨rfl, q⟩ := h
  cases ry
  refine is_none_gen (fin_bl I q ?_)
  cases x <;> first
    | (cases rx; rfl)
    | (obtain ⟨t, rfl⟩ := rx; rfl)
theorem op_notN : OpR X (compareOp .IsNot) (fun x y H Q => y = .non ∧ Q (.bl (!decide (x = .non))) H) := by
  intro pins s σ H x y v u Q I rx ry h
  obtain ⟨rfl, q⟩ := h
  cases ry
  refine isnot_none_gen (fin_bl I q ?_)
  cases x <;> first
    | (cases rx; rfl)
    | (obtain ⟨t, rfl⟩ := rx; rfl)

theorem nomark (b : Expr) {op : CmpOp} (h : op ≠ .In := by decide) (h2 : op ≠ .NotIn := by decide) : behindInMarks op b = false := by
  have e1 : (op == CmpOp.In) = false := by cases op <;> first | rfl | exact absurd rfl h
  have e2 : (op == CmpOp.NotIn) = false := by cases op <;> first | rfl | exact absurd rfl h2
  cases b <;> simp [behindInMarks, e1, e2]
theorem pe_cmpR {op : CmpOp} {r : R2} (ho : OpR X (compareOp op) r) (ha : PE X a ta) (hb : PE X b tb) (hm : behindInMarks op b = false) : PE X (.Compare a [op] [b] pos) (tOp r ta tb) := by
  intro pins s σ H Q I h
  exact wpAny_Compare1 (binT ha hb I h fun v u s2 x y H2 I2 rx ry q => ho pins s2 σ H2 x y v u Q I2 rx ry q) hm
def tTest (t : TE) : TT := fun σ H Q => t σ H fun x H' => ∃ k, x = .bl k ∧ Q k H'
theorem pt_cmpR {op : CmpOp} {r : R2} (ho : OpR X (compareOp op) r) (ha : PE X a ta) (hb : PE X b tb) (hm : behindInMarks op b = false) : PT X (.Compare a [op] [b] pos) (tTest (tOp r ta tb)) := by
  intro pins s σ H Q I h
  refine wpAny_isTrue_Compare1 (thn (ha pins s σ H _ I h) fun v s1 ⟨x, H1, I1, r1, q1⟩ => thn (hb pins s1 σ H1 _ I1 q1) fun u s2 ⟨y, H2, I2, r2, q2⟩ =>
    thn (ho pins s2 σ H2 x y v u _ I2 r1 r2 q2) fun c s3 ⟨z, H3, I3, r3, k, e, q3⟩ => ?_) hm
  subst e
  cases r3
  exact wpAny_truthy_bool ⟨H3, I3, q3⟩
theorem line63 : (sizeLine : Nat) < 2 ^ 63 := by rw [sizeLine_eq]; decide
theorem op_add_str : OpR X (binaryOp .Add) (fun x y H Q => ∃ i j, x = .str i ∧ y = .str j ∧ i.length + j.length ≤ sizeLine ∧ Q (.str (i ++ j)) H) := by
  intro pins s σ H x y v u Q I rx ry h
  obtain ⟨i, j, rfl, rfl, hz, q⟩ := h
  obtain ⟨t, rfl⟩ := rx
  obtain ⟨t', rfl⟩ := ry
  exact add_str (fun t' tk => ⟨.str (i ++ j), H, I.tok _, ⟨_, rfl⟩, q⟩) hz
theorem vals1 {x : V} {us : List Value} (r : Vals [x] us) : ∃ u, us = [u] ∧ RelV x u := by
  cases r with
  | cons r1 r2 => cases r2; exact ⟨_, rfl, r1⟩
theorem vals2 {x y : V} {us : List Value} (r : Vals [x, y] us) : ∃ u w', us = [u, w'] ∧ RelV x u ∧ RelV y w' := by
  cases r with
  | cons r1 r2 =>
    cases r2 with
    | cons r3 r4 => cases r4; exact ⟨_, _, rfl, r1, r3⟩
theorem call_str_int : CallR X (.type "str") (fun xs H Q => ∃ i, xs = [.int i] ∧ i.natAbs.log2 < 1920 ∧ Q (.str (toString i)) H) := by
  intro pins s σ H xs us Q I r h
  obtain ⟨i, rfl, hz, q⟩ := h
  obtain ⟨u, rfl, t, rfl⟩ := vals1 r
  exact PySem.P.str_of_int hz ⟨.str _, H, I.tok _, ⟨_, rfl⟩, q⟩
end
end L2

namespace L2
open PySem PySem.Spec PyProof.Rows

structure ObjM (h : Heap) (x dx C : Addr) (mA : Str → Option Value) : Prop where
  obj : h.get? x = some (PySem.W.instObj C dx)
  ns : h.Ns1 dx mA
  ne : dx ≠ x

theorem lookIn_ns {h : Heap} {dx : Addr} {mA : Str → Option Value} (n : h.Ns1 dx mA) : ∃ od, h.get? dx = some od ∧ ∀ name, PySem.W.lookIn name od = some (mA name) := by
  obtain ⟨o, es, ep, ho, hd, hk, _, hm⟩ := n
  refine ⟨o, ho, fun name => ?_⟩
  have e := hm name
  unfold nsFind findBy at e
  rw [← Array.find?_toList] at e
  unfold PySem.W.lookIn
  rw [hd]
  dsimp only
  split
  · rename_i y q
    rw [q] at e
    exact congrArg some e
  · rename_i q
    rw [q] at e
    have a : es.toList.any (·.refKey) = false := by
      rw [List.any_eq_false]
      intro y hy
      obtain ⟨z, t, hkey⟩ := hk y (Array.mem_toList_iff.mp hy)
      simp [DictEntry.refKey, hkey]
    have a' : ¬ es.toList.any (·.refKey) = true := by rw [a]; exact Bool.false_ne_true
    rw [if_neg a']
    exact congrArg some e

theorem ObjM.look {h : Heap} {x dx C : Addr} {mA : Str → Option Value} (I : ObjM h x dx C mA) : ∃ od, PySem.W.InstAt h x (PySem.W.instObj C dx) C (some od) ∧ ∀ name, PySem.W.lookIn name od = some (mA name) :=
  let ⟨od, ho, hl⟩ := lookIn_ns I.ns
  ⟨od, ⟨I.obj, rfl, rfl, ho⟩, hl⟩

section
variable {prog : Program} {w : World} {A : Around} {E : Value → Shared → Prop} {s : Shared} {K : PySem.W.Frag} {x dx C f : Addr} {mA : Str → Option Value} {name : Str} {v : Value}

theorem get_map {expr : Bool} {Q : Value → Shared → Prop} (X : K.In s.heap) (I : ObjM s.heap x dx C mA) (hg : PySem.W.plainGet K C name = true) (hh : PySem.W.hasDictIn K C = true)
    (ha : PySem.W.findIn K (.ref C) name = some none) (hv : mA name = some v) (hv' : PySem.W.handedIn v = true) (h : Q v { s with toks := s.toks + 1 }) :
    wpAny (model prog w) A (getAttr (.ref x) name expr) Q E s := by
  obtain ⟨od, J, hl⟩ := I.look
  exact PySem.W.get_value X J (PySem.W.plainGet_of hg).1 (PySem.W.findObj_own hh ha rfl (by rw [hl, hv])) hv' h

theorem get_meth {pl : Sem Bool} {Q : Value × List Value → Shared → Prop} (X : K.In s.heap) (I : ObjM s.heap x dx C mA) (hg : PySem.W.plainGet K C name = true)
    (hf : PySem.W.findIn K (.ref C) name = some (some (.ref f))) (ht : PySem.W.isFn K (.ref f) = true) (hv : mA name = none) (h : Q (.ref f, [.ref x]) s) :
    wpAny (model prog w) A (getMethod (.ref x) name pl) Q E s := by
  obtain ⟨od, J, hl⟩ := I.look
  exact PySem.W.method_fn X J (PySem.W.plainGet_of hg).1 (PySem.W.plainGet_of hg).2 hf (beq_iff_eq.mp ht) (by show (PySem.W.lookIn name od).map (·.isSome) = some false; rw [hl, hv]; rfl) h

theorem set_map {ns : List Str} {Q : Unit → Shared → Prop} (X : K.In s.heap) (I : ObjM s.heap x dx C mA)
    (hs : PySem.W.findIn K (.ref C) "__setattr__" = some (some (.builtin "object.__setattr__"))) (hp : PySem.W.plainOver K C = true) (ht : PySem.W.takerIn K C name = some none) (hh : PySem.W.hasDictIn K C = true)
    (hw : PySem.Within mA ns) (hsz : ns.length ≤ sizeLine)
    (h : ∀ h', ObjM h' x dx C (fun y => if y = name then some v else mA y) → Heap.SameBut dx s.heap h' → Q () { s with heap := h', toks := s.toks + 2 }) :
    wpAny (model prog w) A (setAttr (.ref x) name v) Q E s := by
  obtain ⟨od, J, hl⟩ := I.look
  refine PySem.W.set_plain X J hs (PySem.W.osa_open (s := { s with toks := s.toks + 1 }) (r := none) X J hp ht fun b => ?_)
  obtain ⟨cd, hc, hd'⟩ := PySem.W.any_some hh
  have hx : s.heap.get? x = some ⟨.ref C, some dx, .plain, #[]⟩ := I.obj
  refine wpAny_bind (wpAny_pure (wpAny_bind (wpAny_bind (wpAny_loadPart hx (wpAny_bind (PySem.W.Looks.here (s := { s with toks := s.toks + 1 }) (PySem.W.looks_clsIn X hc) ?_))))))
  rw [hd']
  refine wpAny_pure (a := some dx) (wpAny_bind (wpAny_pure (wpAny_bind ?_)))
  refine wpAny_nsSet1 (s := { s with toks := s.toks + 1 }) I.ns fun h' hn2 hs2 => ?_
  obtain ⟨oD, esD, epD, hoD, hdD, hcD⟩ := hn2.count (PySem.Within.cons name v hw)
  refine wpAny_bind (wpAny_lookBehind hoD (by rw [hdD]; exact pastItsLine_dict (Nat.le_trans hcD (by rw [List.length_cons]; omega))) ?_)
  exact wpAny_pure (h _ ⟨(hs2.2 _ (Ne.symm I.ne)).trans I.obj, hn2, I.ne⟩ hs2)

theorem make_map {R : Result → Shared → Prop} {vs : List Value} {kw : List (Str × Value)} (X : K.In s.heap) (hm : PySem.W.makesIn K C = true)
    (hi : PySem.W.findIn K (.ref C) "__init__" = some (some (.ref f))) (hf : PySem.W.typeIn K (.ref f) = some (.type "function"))
    (h : codeAny (model prog w) (A.under (.builtin "type.__call__" ⟨.ref C :: vs, kw⟩)) (.call (.ref f) ⟨.ref (s.heap.objs.size + 1) :: vs, kw⟩) (PySem.W.InitBack (s.heap.objs.size + 1) R)
      { s with heap := (s.heap.push PySem.W.emptyDict).push (PySem.W.instObj C s.heap.objs.size) }) :
    codeAny (model prog w) A (.call (.ref C) ⟨vs, kw⟩) R s := by
  obtain ⟨hh, g, d, t, os⟩ := s
  exact PySem.W.make_core (PySem.W.makes_of X hm) (PySem.W.looks_findIn X hi) (fun self => PySem.W.bind_fn X self hf) (.inl rfl) h
end

def putF (f : Str) (v : V) : List (Str × V) → List (Str × V)
  | [] => [(f, v)]
  | (g, x) :: r => if g = f then (g, v) :: r else (g, x) :: putF f v r
theorem lookup_putF (f g : Str) (v : V) : ∀ fs : List (Str × V), (putF f v fs).lookup g = if g = f then some v else fs.lookup g
  | [] => by
    show List.lookup g [(f, v)] = _
    by_cases h : g = f
    · have hb : (g == f) = true := beq_iff_eq.mpr h
      simp only [List.lookup, hb, if_pos h]
    · have hb : (g == f) = false := beq_eq_false_iff_ne.mpr h
      simp only [List.lookup, hb, if_neg h]
  | (k, x) :: r => by
    have ih := lookup_putF f g v r
    rw [show putF f v ((k, x) :: r) = (if k = f then (k, v) :: r else (k, x) :: putF f v r) from rfl]
    by_cases hk : k = f
    · rw [if_pos hk]
      by_cases h : g = k
      · have hb : (g == k) = true := beq_iff_eq.mpr h
        simp only [List.lookup, hb, if_pos (h.trans hk)]
      · have hb : (g == k) = false := beq_eq_false_iff_ne.mpr h
        simp only [List.lookup, hb, if_neg (fun e : g = f => h (e.trans hk.symm))]
    · rw [if_neg hk]
      by_cases h : g = k
      · have hb : (g == k) = true := beq_iff_eq.mpr h
        simp only [List.lookup, hb, if_neg (fun e : g = f => hk (h.symm.trans e))]
      · have hb : (g == k) = false := beq_eq_false_iff_ne.mpr h
        simp only [List.lookup, hb]
        exact ih
theorem keys_putF (f : Str) (v : V) : ∀ fs : List (Str × V), f ∈ (putF f v fs).map (·.1) ∧ ∀ g, g ∈ fs.map (·.1) → g ∈ (putF f v fs).map (·.1)
  | [] => ⟨by simp [putF], fun g h => by simp at h⟩
  | (k, x) :: r => by
    obtain ⟨i1, i2⟩ := keys_putF f v r
    rw [show putF f v ((k, x) :: r) = (if k = f then (k, v) :: r else (k, x) :: putF f v r) from rfl]
    by_cases hk : k = f
    · rw [if_pos hk]
      subst hk
      exact ⟨by simp, fun g h => by simpa using h⟩
    · rw [if_neg hk]
      refine ⟨?_, fun g h => ?_⟩
      · rw [List.map_cons]
        exact List.mem_cons_of_mem _ i1
      · rw [List.map_cons] at h ⊢
        rcases List.mem_cons.mp h with e | e
        · exact List.mem_cons.mpr (.inl e)
        · exact List.mem_cons_of_mem _ (i2 g e)
theorem length_putF (f : Str) (v : V) : ∀ fs : List (Str × V), (putF f v fs).length ≤ fs.length + 1
  | [] => by simp [putF]
  | (k, x) :: r => by
    have ih := length_putF f v r
    rw [show putF f v ((k, x) :: r) = (if k = f then (k, v) :: r else (k, x) :: putF f v r) from rfl]
    by_cases hk : k = f
    · rw [if_pos hk, List.length_cons, List.length_cons]; omega
    · rw [if_neg hk, List.length_cons, List.length_cons]; omega

theorem RelO.some_of {v : V} {o : Option Value} (r : RelO (some v) o) : ∃ u, o = some u ∧ RelV v u := by
  cases o with
  | none => exact (show False from r).elim
  | some u => exact ⟨u, rfl, r⟩
theorem RelO.none_of {o : Option Value} (r : RelO none o) : o = none := by
  cases o with
  | none => rfl
  | some u => exact (show False from r).elim
theorem handed_of {v : V} {u : Value} (r : RelV v u) : PySem.W.handedIn u = true := by
  cases v with
  | non => cases (show u = Value.none from r); rfl
  | bl b => cases (show u = Value.bool b from r); rfl
  | int i => obtain ⟨t, e⟩ := (show ∃ t, u = Value.int i t from r); cases e; rfl
  | str x => obtain ⟨t, e⟩ := (show ∃ t, u = Value.str x t from r); cases e; rfl
  | byt b => obtain ⟨t, e⟩ := (show ∃ t, u = Value.bytes b t from r); cases e; rfl
  | flt b => obtain ⟨t, e⟩ := (show ∃ t, u = Value.float b t from r); cases e; rfl
  | ref a => cases (show u = Value.ref a from r); rfl
  | ty n => cases (show u = Value.type n from r); rfl

section
variable {P : Program} {w : World} {H H' : Hp} {h h' : Heap} {a C dx : Addr} {fs fs' : List (Str × V)}
theorem ins_get (hok : HOk P w H h) (e : H a = some (.ins C dx fs)) : ∃ mA, ObjM h a dx C mA ∧ (∀ f, RelO (fs.lookup f) (mA f)) ∧ PySem.Within mA (fs.map (·.1)) ∧ fs.length ≤ 1000 ∧ H dx = some (.own a) := by
  obtain ⟨d, z, ne, ob, mA, n, r, q⟩ := (show ObjOk P w H h a (.ins C dx fs) from hok a _ e)
  exact ⟨mA, ⟨ob, n, ne⟩, r, q, z, d⟩
end

structure Cls (K : PySem.W.Frag) (C : Addr) : Prop where
  pg : PySem.W.plainGet K C Str.empty = true
  hd : PySem.W.hasDictIn K C = true
  po : PySem.W.plainOver K C = true
  sa : PySem.W.findIn K (.ref C) "__setattr__" = some (some (.builtin "object.__setattr__"))
theorem Cls.get {K : PySem.W.Frag} {C : Addr} (c : Cls K C) (f : Str) : PySem.W.plainGet K C f = true := c.pg
def NoAttr (K : PySem.W.Frag) (C : Addr) (f : Str) : Prop := PySem.W.findIn K (.ref C) f = some none
theorem NoAttr.taker {K : PySem.W.Frag} {C : Addr} {f : Str} (n : NoAttr K C f) : PySem.W.takerIn K C f = some none := by
  unfold PySem.W.takerIn
  rw [show PySem.W.findIn K (.ref C) f = some none from n]
  rfl
structure Meth (K : PySem.W.Frag) (C : Addr) (m : Str) (f : Addr) : Prop where
  at_ : PySem.W.findIn K (.ref C) m = some (some (.ref f))
  fn : PySem.W.isFn K (.ref f) = true
  kp : PySem.W.keepIn K (.ref f) = true

section
variable {X : Cx} {pins : List (Addr × Obj)} {σ : St} {H : Hp} {s : Shared} {a C dx : Addr} {fs : List (Str × V)} {f : Str} {v : V} {A : Around} {E : Value → Shared → Prop}

theorem getattr_ok {b : Bool} {Q : Value → Shared → Prop} (I : Inv X pins σ H s) (e : H a = some (.ins C dx fs)) (c : Cls X.K C) (n : NoAttr X.K C f) (l : fs.lookup f = some v)
    (h : ∀ u s', Inv X pins σ H s' → RelV v u → Q u s') : wpAny (model X.prog X.w) A (getAttr (.ref a) f b) Q E s := by
  obtain ⟨mA, O, r, _, _, _⟩ := ins_get I.hok e
  obtain ⟨u, hu, ru⟩ := RelO.some_of (v := v) (o := mA f) (by rw [← l]; exact r f)
  exact get_map I.kIn O (c.get f) c.hd n hu (handed_of ru) (h u _ (I.tok _) ru)

theorem getmeth_ok {m : Str} {g : Addr} {pl : Sem Bool} {Q : Value × List Value → Shared → Prop} (I : Inv X pins σ H s) (e : H a = some (.ins C dx fs)) (c : Cls X.K C) (k : Meth X.K C m g) (l : fs.lookup m = none)
    (h : Q (.ref g, [.ref a]) s) : wpAny (model X.prog X.w) A (getMethod (.ref a) m pl) Q E s := by
  obtain ⟨mA, O, r, _, _, _⟩ := ins_get I.hok e
  have hn : mA m = none := RelO.none_of (by rw [← l]; exact r m)
  exact get_meth I.kIn O (c.get m) k.at_ k.fn hn h

theorem setattr_ok {y : V} {u : Value} {Q : Unit → Shared → Prop} (I : Inv X pins σ H s) (e : H a = some (.ins C dx fs)) (c : Cls X.K C) (n : NoAttr X.K C f) (hl : fs.length < 1000) (ry : RelV y u)
    (h : ∀ s', Inv X pins σ (upd H a (.ins C dx (putF f y fs))) s' → Q () s') : wpAny (model X.prog X.w) A (setAttr (.ref a) f u) Q E s := by
  obtain ⟨mA, O, r, wi, _, ho⟩ := ins_get I.hok e
  have hz : (fs.map (·.1)).length ≤ sizeLine := by rw [List.length_map, sizeLine_eq]; omega
  refine set_map I.kIn O c.sa c.po n.taker c.hd wi hz fun h' O' sb => h _ ?_
  have hd : ∃ o, h'.get? dx = some o := let ⟨o, _, _, e', _⟩ := O'.ns; ⟨o, e'⟩
  refine I.write (x := a) (e := dx) (by rw [e]; exact True.intro) (.inr ho) (fun b q hb z => (sb.2 b hb).trans z) hd ?_
  refine ⟨by rw [upd_ne O.ne]; exact ho, ?_, O.ne, O'.obj, _, O'.ns, fun g => ?_, fun g hg => ?_⟩
  · have := length_putF f y fs; omega
  · show RelO ((putF f y fs).lookup g) (if g = f then some u else mA g)
    rw [lookup_putF]
    by_cases q : g = f
    · rw [if_pos q, if_pos q]; exact ry
    · rw [if_neg q, if_neg q]; exact r g
  · by_cases q : g = f
    · rw [q]; exact (keys_putF f y fs).1
    · refine (keys_putF f y fs).2 g (wi g fun z => hg ?_)
      show (if g = f then some u else mA g) = none
      rw [if_neg q]; exact z

theorem Inv.made (I : Inv X pins σ H s) : Inv X pins σ (upd (upd H s.heap.objs.size (.own (s.heap.objs.size + 1))) (s.heap.objs.size + 1) (.ins C s.heap.objs.size []))
    { s with heap := (s.heap.push PySem.W.emptyDict).push (PySem.W.instObj C s.heap.objs.size) } := by
  have e1 : (s.heap.push PySem.W.emptyDict).get? s.heap.objs.size = some PySem.W.emptyDict := Heap.get?_push_size s.heap rfl
  have e2 : ((s.heap.push PySem.W.emptyDict).push (PySem.W.instObj C s.heap.objs.size)).get? (s.heap.objs.size + 1) = some (PySem.W.instObj C s.heap.objs.size) := by
    have := Heap.get?_push_size (s.heap.push PySem.W.emptyDict) (o := PySem.W.instObj C s.heap.objs.size) rfl
    rwa [Heap.size_push] at this
  have e3 : (s.heap.push PySem.W.emptyDict).Ns s.heap.objs.size (fun _ => none) := ⟨PySem.W.emptyDict, #[], _, e1, rfl, (fun e he => absurd he (by simp)), fun _ => rfl⟩
  have I1 := I.laid (a := s.heap.objs.size) (o := .own (s.heap.objs.size + 1)) (h' := s.heap.push PySem.W.emptyDict) (t' := s.toks) (fun b u q => Heap.get?_push_of_some _ q) (Nat.le_refl _) ⟨_, e1⟩
  refine I1.laid (a := s.heap.objs.size + 1) (o := .ins C s.heap.objs.size []) (t' := s.toks) (fun b u q => Heap.get?_push_of_some _ q) (Nat.le_of_eq (Heap.size_push _ _)) ?_
  have ne : s.heap.objs.size ≠ s.heap.objs.size + 1 := Nat.ne_of_lt (Nat.lt_succ_self _)
  refine ⟨by rw [upd_ne ne, upd_same], Nat.zero_le _, ne, e2, fun _ => none, (Heap.Ns1.of_empty e3).at fun o q => Heap.get?_push_of_some _ q, fun _ => True.intro, fun y hy => absurd rfl hy⟩

theorem attr_of {prog : Program} {w : World} {env : Env} {e : Expr} {f : Str} {pos : Pos} {s : Shared} {Q : Value → Shared → Prop} (hb : attributeBase e f env (eval e env) = eval e env)
    (h : wpAny (model prog w) A (eval e env) (fun o s₁ => wpAny (model prog w) A (getAttr o f true) Q E s₁) E s) : wpAny (model prog w) A (eval (.Attribute e f pos) env) Q E s :=
  Attribute_any_ h (by rw [arm_eval_Attribute, hb])
end

def tFld (K : PySem.W.Frag) (ta : TE) (f : Str) : TE := fun σ H Q => ta σ H fun x H1 => ∃ a C dx fs v, x = .ref a ∧ H1 a = some (.ins C dx fs) ∧ Cls K C ∧ NoAttr K C f ∧ fs.lookup f = some v ∧ Q v H1
def sFld (K : PySem.W.Frag) (ta tv : TE) (f : Str) : TS := fun D σ H => tv σ H fun y H1 => ta σ H1 fun x H2 => ∃ a C dx fs, x = .ref a ∧ H2 a = some (.ins C dx fs) ∧ Cls K C ∧ NoAttr K C f ∧ fs.length < 1000 ∧
  D.nx σ (upd H2 a (.ins C dx (putF f y fs)))
section
variable {X : Cx} {o e value : Expr} {f : Str} {pos pos' tpos : Pos} {ta tv : TE}
theorem pe_fld (he : PE X e ta) (hb : attributeBase e f X.env (eval e X.env) = eval e X.env) : PE X (.Attribute e f pos) (tFld X.K ta f) := by
  intro pins s σ H Q I h
  refine attr_of hb (thn (he pins s σ H _ I h) fun u s1 ⟨x, H1, I1, rx, a, C, dx, fs, v, ex, ea, c, n, l, q⟩ => ?_)
  subst ex
  obtain rfl : u = Value.ref a := rx
  exact getattr_ok I1 ea c n l fun u' s2 I2 ru => ⟨v, H1, I2, ru, q⟩
theorem ps_fld (ha : PE X o ta) (hv : PE X value tv) (hs : swapsWith value (some (.Attribute o f pos')) pos.line X.env = pure false) : PS X (.Assign [.Attribute o f pos'] value pos) (sFld X.K ta tv f) := by
  intro pins s σ H D I h
  refine plainObj_wpAny_Assign_Attribute (thn (hv pins s σ H _ I h) fun u s1 ⟨y, H1, I1, ry, q⟩ => thn (ha pins s1 σ H1 _ I1 q) fun ov s2 ⟨x, H2, I2, rx, a, C, dx, fs, ex, ea, c, n, l, q2⟩ => ?_) hs
  subst ex
  obtain rfl : ov = Value.ref a := rx
  exact setattr_ok I2 ea c n l ry fun s3 I3 => ⟨σ, _, I3, q2⟩
end

section
variable {X : Cx} {pins : List (Addr × Obj)} {σ : St} {H : Hp} {s : Shared} {A : Around} {E : Value → Shared → Prop} {Q : Value → Shared → Prop} {c : Value} {b : Bool}
inductive TyOf (K : PySem.W.Frag) (H : Hp) : V → Value → Prop where
  | non : TyOf K H .non (.type "NoneType")
  | bl (x : Bool) : TyOf K H (.bl x) (.type "bool")
  | int (i : Int) : TyOf K H (.int i) (.type "int")
  | str (x : Str) : TyOf K H (.str x) (.type "str")
  | flt (x : UInt64) : TyOf K H (.flt x) (.type "float")
  | lst {a : Addr} {xs : List V} (e : H a = some (.lst xs)) : TyOf K H (.ref a) (.type "list")
  | frz {a : Addr} {o : Obj} {xs : List V} (e : H a = some (.frz o (.lst xs))) : TyOf K H (.ref a) (.type "list")
  | tup {a : Addr} {xs : List V} (e : H a = some (.tup xs)) : TyOf K H (.ref a) (.type "tuple")
  | dK {a : Addr} {kvs : List (Key × V)} (e : H a = some (.dK kvs)) : TyOf K H (.ref a) (.type "dict")
  | dT {a : Addr} {kvs : List (List Key × V)} (e : H a = some (.dT kvs)) : TyOf K H (.ref a) (.type "dict")
  | ins {a C dx : Addr} {fs : List (Str × V)} (e : H a = some (.ins C dx fs)) (cl : Cls K C) (ha : PySem.W.findIn K (.ref C) "__class__" = some (some (.builtin "object.__class__")))
      (hn : PySem.W.specialIn K (.builtin "object.__class__") "__get__" = some (some (.builtin "getset_descriptor.__get__"))) (htk : PySem.W.takesIn K (.builtin "object.__class__") = some true)
      (hm : PySem.W.mroIn K C (.type "object") = some true) : TyOf K H (.ref a) (.ref C)
theorem isinst_ok {x : V} {u t : Value} (I : Inv X pins σ H s) (rx : RelV x u) (ty : TyOf X.K H x t) (e : PySem.W.kitOne X.K t c = some b) (h : ∀ tk, Q (.bool b) { s with toks := tk }) :
    wpAny (model X.prog X.w) A (call (.builtin "isinstance") [u, c]) Q E s := by
  cases ty with
  | non => cases (show u = Value.none from rx); exact PySem.W.kia_one PySem.W.kitx_none I.kIn True.intro e (fun z => nomatch z) h
  | bl y => cases (show u = Value.bool y from rx); exact PySem.W.kia_one PySem.W.kitx_bool I.kIn True.intro e (fun z => nomatch z) h
  | int i => obtain ⟨t, q⟩ := (show ∃ t, u = Value.int i t from rx); cases q; exact PySem.W.kia_one PySem.W.kitx_int I.kIn True.intro e (fun z => nomatch z) h
  | str y => obtain ⟨t, q⟩ := (show ∃ t, u = Value.str y t from rx); cases q; exact PySem.W.kia_one PySem.W.kitx_str I.kIn True.intro e (fun z => nomatch z) h
  | flt y => obtain ⟨t, q⟩ := (show ∃ t, u = Value.float y t from rx); cases q; exact PySem.W.kia_one PySem.W.kitx_float I.kIn True.intro e (fun z => nomatch z) h
  | @lst a xs ea =>
    cases (show u = Value.ref a from rx)
    obtain ⟨_, _, n, _, h1⟩ := (show ObjOk X.prog X.w H s.heap a (.lst xs) from I.hok a _ ea)
    exact PySem.W.kia_one PySem.W.kitx_list I.kIn ⟨_, h1, rfl⟩ e (fun z => nomatch z) h
  | @frz a ob xs ea =>
    cases (show u = Value.ref a from rx)
    obtain ⟨_, _, _, n, _, h1⟩ := (show ObjOk X.prog X.w H s.heap a (.frz ob (.lst xs)) from I.hok a _ ea)
    exact PySem.W.kia_one PySem.W.kitx_list I.kIn ⟨_, h1, rfl⟩ e (fun z => nomatch z) h
  | @tup a xs ea =>
    cases (show u = Value.ref a from rx)
    obtain ⟨_, _, _, p⟩ := (show ObjOk X.prog X.w H s.heap a (.tup xs) from I.hok a _ ea)
    obtain ⟨o, h1, h2, _⟩ := p
    exact PySem.W.kia_one PySem.W.kitx_tuple I.kIn ⟨o, h1, h2⟩ e (fun z => nomatch z) h
  | @dK a kvs ea =>
    cases (show u = Value.ref a from rx)
    obtain ⟨_, _, vs, _, p⟩ := (show ObjOk X.prog X.w H s.heap a (.dK kvs) from I.hok a _ ea)
    obtain ⟨o, es, ep, h1, h2, _⟩ := p
    exact PySem.W.kia_one PySem.W.kitx_dict I.kIn ⟨o, h1, h2.1⟩ e (fun z => nomatch z) h
  | @dT a kvs ea =>
    cases (show u = Value.ref a from rx)
    obtain ⟨_, _, xs, _, o, es, ep, h1, h2, _⟩ := (show ObjOk X.prog X.w H s.heap a (.dT kvs) from I.hok a _ ea)
    exact PySem.W.kia_one PySem.W.kitx_dict I.kIn ⟨o, h1, h2.1⟩ e (fun z => nomatch z) h
  | @ins a C dx fs ea cl ha hn htk hm =>
    cases (show u = Value.ref a from rx)
    obtain ⟨mA, O, _⟩ := ins_get I.hok ea
    obtain ⟨od, J, _⟩ := O.look
    exact PySem.W.kia_one (PySem.W.kitx_own (cl.get _) cl.hd ha hn htk hm) I.kIn J e (fun z => nomatch z) h
end
end L2

namespace L2
open PySem PySem.Spec PyProof.Rows

structure Room (k : Nat) (A : Around) : Prop where
  hd : A.handled = none
  dp : A.depth + 3 * k + 5 < recursionLimit
  un : A.units + 16 * k + 200 < cLine
theorem Room.mono {j k : Nat} {A : Around} (r : Room k A) (h : j ≤ k) : Room j A := ⟨r.hd, by have := r.dp; omega, by have := r.un; omega⟩
theorem Room.deeper {k : Nat} {A : Around} (r : Room (k + 1) A) (env : Env) : Room k (A.deeper env) :=
  ⟨r.hd, by have := r.dp; show A.depth + 1 + 3 * k + 5 < _; omega, by have := r.un; show A.units + 3 + 16 * k + 200 < _; omega⟩
theorem make_depth {A : Around} {C : Addr} {us : List Value} {kw : List (Str × Value)} : (A.under (.builtin "type.__call__" ⟨.ref C :: us, kw⟩)).depth = A.depth + 1 := by
  first | rfl | simp [Around.under, Code.weight, Code.isCreation, Code.isGuard, Code.isCaller, Code.frames, Code.isFrame, guardIds]
theorem make_units {A : Around} {C : Addr} {us : List Value} {kw : List (Str × Value)} : (A.under (.builtin "type.__call__" ⟨.ref C :: us, kw⟩)).units = A.units + 1 := by
  first | rfl | simp [Around.under, Code.cUnits, Code.frames, Code.isFrame]
theorem Room.make {k : Nat} {A : Around} (r : Room (k + 1) A) (C : Addr) (us : List Value) (kw : List (Str × Value)) : Room k (A.under (.builtin "type.__call__" ⟨.ref C :: us, kw⟩)) :=
  ⟨r.hd, by have := r.dp; rw [make_depth]; omega, by have := r.un; rw [make_units]; omega⟩
theorem Room.depth {k : Nat} {A : Around} (r : Room k A) : A.depth < recursionLimit := by have := r.dp; omega
theorem Room.units {k : Nat} {A : Around} (r : Room k A) : A.units + 64 < cLine := by have := r.un; omega
def tNil : TA := fun _ H Q => Q [] H
def tCons (ta : TE) (tr : TA) : TA := fun σ H Q => ta σ H fun x H1 => tr σ H1 fun xs H2 => Q (x :: xs) H2
section
variable {X : Cx} {e : Expr} {es : List Expr} {te : TE} {t : TA} {pos : Pos}
theorem pa_nil : PA X [] tNil := fun _ _ _ _ H Q I h => Calls.spliced_nil ⟨[], H, I, .nil, h⟩
theorem pa_cons (ha : PE X e te) (hr : PA X es t) (hs : starEach (e :: es) X.env = (false, eval e X.env) :: starEach es X.env := by rfl) : PA X (e :: es) (tCons te t) := by
  intro pos pins s σ H Q I h
  rw [hs]
  show wpAny _ _ (spliced ((false, eval e X.env) :: backTo pos (starEach es X.env))) _ _ s
  refine Calls.spliced_cons (thn (ha pins s σ H _ I h) fun u s1 ⟨x, H1, I1, r1, q1⟩ => ?_)
  exact thn (hr pos pins s1 σ H1 _ I1 q1) fun us s2 ⟨xs, H2, I2, r2, q2⟩ => ⟨x :: xs, H2, I2, .cons r1 r2, q2⟩

def tTup (t : TA) : TE := fun σ H Q => t σ H fun xs H1 => xs.length ≤ sizeLine ∧ ∀ p, H1 p = none → Q (.ref p) (upd H1 p (.tup xs))
def tLst (t : TA) : TE := fun σ H Q => t σ H fun xs H1 => xs.length ≤ sizeLine ∧ ∀ p, H1 p = none → Q (.ref p) (upd H1 p (.lst xs))
theorem pe_tup {x1} (h : PA X es t) : PE X (.Tuple es x1 pos) (tTup t) := by
  intro pins s σ H Q I hq
  refine wpAny_Tuple_spliced (thn (h pos pins s σ H _ I hq) fun us s1 ⟨xs, H1, I1, r, z, q⟩ => ⟨by rw [← r.length]; exact z, ?_⟩)
  have hf : H1 s1.heap.objs.size = none := I1.hok.fresh (Nat.le_refl _)
  refine ⟨.ref s1.heap.objs.size, upd H1 s1.heap.objs.size (.tup xs), I1.laid (t' := s1.toks) (fun b u e => Heap.get?_push_of_some _ e) (Nat.le_refl _) ?_, rfl, q _ hf⟩
  exact ⟨z, us, r, ⟨_, Heap.get?_push_size _ rfl, rfl, _, rfl⟩⟩
theorem pe_lst (h : PA X es t) : PE X (.List es pos) (tLst t) := by
  intro pins s σ H Q I hq
  refine wpAny_List_spliced (thn (h pos pins s σ H _ I hq) fun us s1 ⟨xs, H1, I1, r, z, q⟩ => ⟨by rw [← r.length]; exact z, ?_⟩)
  have hf : H1 s1.heap.objs.size = none := I1.hok.fresh (Nat.le_refl _)
  refine ⟨.ref s1.heap.objs.size, upd H1 s1.heap.objs.size (.lst xs), I1.laid (t' := s1.toks) (fun b u e => Heap.get?_push_of_some _ e) (Nat.le_refl _) ?_, rfl, q _ hf⟩
  exact ⟨z, us, 0, r, Heap.get?_push_size _ rfl⟩
end

abbrev Sp := List V → Hp → VK → XK → Prop
abbrev CXT := List Env → Hp → Shared → XK → Value → Shared → Prop

structure Env0 (P : Program) (w : World) (K : PySem.W.Frag) (mg : Str → Option Value) (base : Heap) (A : Around) (outer : List Env) (s : Shared) (H : Hp) : Prop where
  frames : A.frames = some outer
  mod : Mod K mg base
  bs : ∀ b o, base.get? b = some o → s.heap.get? b = some o ∧ H b = none
  bsz : base.objs.size ≤ s.heap.objs.size
  funs : s.heap.FunFrames base outer
  frf : ∀ b ∈ frs outer, H b = none
  hok : HOk P w H s.heap
  bare : AllBare s.gens
def CE (outer : List Env) (P : Program) (w : World) (H : Hp) (s : Shared) (Q : VK) (u : Value) (s' : Shared) : Prop :=
  ∃ v H', s'.os = s.os ∧ AllBare s'.gens ∧ Un (frs outer) [] H H' s.heap s'.heap ∧ HOk P w H' s'.heap ∧ RelV v u ∧ Q v H'
def CR (CX : CXT) (outer : List Env) (P : Program) (w : World) (H : Hp) (s : Shared) (Q : VK) (E : XK) (r : Result) (s' : Shared) : Prop :=
  match r with
  | .ok (.ret u) => CE outer P w H s Q u s'
  | .ok _ => False
  | .error e => CX outer H s E e s'
structure FnOk (P : Program) (w : World) (K : PySem.W.Frag) (mg : Str → Option Value) (base : Heap) (CX : CXT) (k : Nat) (f : Addr) (fd : FuncData) (ps : List Str) (sp : Sp) : Prop where
  len : ∀ vs H Q E, sp vs H Q E → vs.length = ps.length
  run : ∀ (A : Around) (outer : List Env) (s : Shared) (H : Hp) (args : Args) (us : List Value) (vs : List V) (Q : VK) (E : XK), Room k A → Env0 P w K mg base A outer s H → BindsTo s fd args (ps.zip us) → Vals vs us → sp vs H Q E →
    codeAny (model P w) A (.call (.ref f) args) (CR CX outer P w H s Q E) s
theorem Env0.make {P : Program} {w : World} {K : PySem.W.Frag} {mg : Str → Option Value} {base : Heap} {A : Around} {outer : List Env} {s : Shared} {H : Hp} (e : Env0 P w K mg base A outer s H) (C : Addr) (us : List Value) (kw : List (Str × Value)) :
    Env0 P w K mg base (A.under (.builtin "type.__call__" ⟨.ref C :: us, kw⟩)) outer s H := ⟨by first | exact e.frames | (simpa [Around.under, Code.envs, Code.isFrame, pushEnvs] using e.frames), e.mod, e.bs, e.bsz, e.funs, e.frf, e.hok, e.bare⟩
section
variable {X : Cx} {pins : List (Addr × Obj)} {σ : St} {H : Hp} {s s' : Shared}
theorem Inv.env0 (I : Inv X pins σ H s) : Env0 X.prog X.w X.K X.mg X.base X.A X.stack s H :=
  ⟨I.ok.frames, I.ok.mod, I.bs, Nat.le_trans I.ok.bsz I.sz, I.stack, I.stkFree, I.hok, I.bare⟩
theorem Inv.after {Q : VK} {u : Value} (I : Inv X pins σ H s) (h : CE X.stack X.prog X.w H s Q u s') : EP X pins σ Q u s' := by
  obtain ⟨v, H', os, bare, un, hok, r, q⟩ := h
  obtain ⟨hh, g, d, t, os'⟩ := s'
  obtain rfl : os' = s.os := os
  exact ⟨v, H', I.call (h' := hh) (g' := g) (d' := d) (t' := t) (ch := []) un hok bare (fun b z => absurd z (by simp)), r, q⟩
end

def tCall (sp : Sp) (dvs : List V) (E : XK) (t : TA) : TE := fun σ H Q => t σ H fun vs H1 => sp (vs ++ dvs) H1 Q E
def Binds (K : PySem.W.Frag) (fd : FuncData) (ps : List Str) (ds : List Value) : Prop :=
  ∀ (s : Shared) (us : List Value), K.In s.heap → (us ++ ds).length = ps.length → BindsTo s fd ⟨us, []⟩ (ps.zip (us ++ ds))
theorem Binds.all {K : PySem.W.Frag} {fd : FuncData} {ps : List Str} (h : ∀ us : List Value, us.length = ps.length → bindArgs fd ⟨us, []⟩ = pure (ps.zip us)) : Binds K fd ps [] := fun s us _ hl => by
  rw [List.append_nil] at hl ⊢
  exact .of_eq (h us hl)

def Passes (CX : CXT) (X : Cx) (E : XK) : Prop := ∀ (pins : List (Addr × Obj)) (σ : St) (H : Hp) (s : Shared) (e : Value) (s' : Shared), Inv X pins σ H s → CX X.stack H s E e s' → X.xe e s'

section
variable {X : Cx} {CX : CXT} {k : Nat} {f C : Addr} {fd : FuncData} {ps : List Str} {sp : Sp} {dvs : List V} {ds : List Value} {E : XK} {x m : Str} {p pos apos : Pos} {e o : Expr} {es : List Expr} {ta : TE} {t : TA}

theorem run_fn {pins : List (Addr × Obj)} {σ : St} {H : Hp} {s : Shared} {Q : VK} {us : List Value} {vs : List V} (F : FnOk X.prog X.w X.K X.mg X.base CX k f fd ps sp) (hr : Room k X.A) (hb : Binds X.K fd ps ds) (hd : Vals dvs ds) (hx : Passes CX X E)
    (I : Inv X pins σ H s) (r : Vals vs us) (h : sp (vs ++ dvs) H Q E) : wpAny (model X.prog X.w) X.A (call (.ref f) us) (EP X pins σ Q) X.xe s := by
  have r2 : Vals (vs ++ dvs) (us ++ ds) := r.append hd
  have hl : (us ++ ds).length = ps.length := by rw [← r2.length]; exact F.len _ _ _ _ h
  refine wpAny_call (codeAny_mono (F.run X.A X.stack s H ⟨us, []⟩ (us ++ ds) (vs ++ dvs) Q E hr I.env0 (hb s us I.kIn hl) r2 h) fun r s' hq => ?_)
  cases r with
  | error e => exact hx pins σ H s e s' I hq
  | ok fl =>
    cases fl with
    | ret u => exact I.after hq
    | next => exact False.elim hq
    | brk => exact False.elim hq
    | cont => exact False.elim hq

theorem pe_call (F : FnOk X.prog X.w X.K X.mg X.base CX k f fd ps sp) (hr : Room k X.A) (hg : Gl X x) (hm : X.mg x = some (.ref f)) (hk : PySem.W.keepIn X.K (.ref f) = true) (hb : Binds X.K fd ps ds) (hd : Vals dvs ds) (hx : Passes CX X E)
    (ha : PA X (e :: es) t) (hdb : (x == ("__debug__" : Str)) = false := by decide) (he : starEach (e :: es) X.env = (false, eval e X.env) :: starEach es X.env := by rfl) (hpl : (backTo pos (starEach es X.env)).any (·.1) = false := by rfl) :
    PE X (.Call (.Name x p) (e :: es) [] pos) (tCall sp dvs E t) := by
  intro pins s σ H Q I h
  refine wpAny_Call_Name_kw (ld_glob I hg hm ?_ hdb)
  refine PySem.W.callWith_K (h₀ := X.base) I.ok.mod.kin hk (thn (ha pos pins s σ H _ I h) fun us s1 ⟨vs, H1, I1, r, q⟩ => ⟨I1.kIn, ?_⟩) he hpl
  exact run_fn F hr hb hd hx I1 r q
structure Mk (K : PySem.W.Frag) (C f : Addr) : Prop where
  makes : PySem.W.makesIn K C = true
  init : PySem.W.findIn K (.ref C) "__init__" = some (some (.ref f))
  fn : PySem.W.isFn K (.ref f) = true
  kp : PySem.W.keepIn K (.ref C) = true

end

section
variable {X : Cx} {CX : CXT} {k : Nat} {f C : Addr} {fd : FuncData} {ps ks : List Str} {sp : Sp} {E : XK} {x m : Str} {p pos apos kpos : Pos} {e o : Expr} {es : List Expr} {kws : List Keyword} {te ta : TE} {t tk : TA} {nm : Option Str}
variable {g : List Value → List Value → List Value} {gV : List V → List V → List V}
end

structure FnScope (N P : List Str) (sc : Scope) : Prop where
  kind : sc.kind = .function
  co : sc.isCoroutine = false
  gen : sc.isGenerator = false
  nd : N.Nodup
  pre : N.take P.length = P
  par : ∀ x ∈ P, sc.names.lookup x = some .local ∨ sc.names.lookup x = some .cell
  nofree : ∀ y ∈ sc.names, y.2 ≠ .free

theorem bindL_out {kindOf : Str → Option NameKind} {x : Str} : ∀ {binds : List (Str × Value)} {m : Str → Option Value}, (∀ v, (x, v) ∉ binds) → bindL kindOf binds m x = m x
  | [], _, _ => rfl
  | (n, v) :: r, m, h => by
    unfold bindL
    rw [bindL_out fun w hw => h w (List.mem_cons_of_mem _ hw)]
    split
    · have : x ≠ n := by rintro rfl; exact h v List.mem_cons_self
      simp [this]
    · rfl
theorem bindC_out {kindOf : Str → Option NameKind} {x : Str} : ∀ {binds : List (Str × Value)} {m : Str → Option Value}, (∀ v, (x, v) ∉ binds) → bindC kindOf binds m x = m x
  | [], _, _ => rfl
  | (n, v) :: r, m, h => by
    unfold bindC
    rw [bindC_out fun w hw => h w (List.mem_cons_of_mem _ hw)]
    split
    · rfl
    · have : x ≠ n := by rintro rfl; exact h v List.mem_cons_self
      simp [this]
theorem bindL_get {kindOf : Str → Option NameKind} {x : Str} {v : Value} : ∀ {P : List Str} {vs : List Value} {i : Nat} {m : Str → Option Value}, P.Nodup → P[i]? = some x → vs[i]? = some v → kindOf x = some .local →
    bindL kindOf (P.zip vs) m x = some v
  | [], _, _, _, _, h, _, _ => by simp at h
  | _ :: _, [], _, _, _, _, h, _ => by simp at h
  | p :: P, w :: vs, 0, m, nd, h1, h2, hk => by
    simp at h1 h2; subst h1; subst h2
    show bindL kindOf ((p, w) :: P.zip vs) m p = _
    unfold bindL
    rw [bindL_out fun v hv => (List.nodup_cons.mp nd).1 (List.of_mem_zip hv).1, if_pos hk]
    simp
  | p :: P, w :: vs, i + 1, m, nd, h1, h2, hk => by
    show bindL kindOf ((p, w) :: P.zip vs) m x = _
    unfold bindL
    exact bindL_get (i := i) (List.nodup_cons.mp nd).2 (by simpa using h1) (by simpa using h2) hk
theorem bindC_get {kindOf : Str → Option NameKind} {x : Str} {v : Value} : ∀ {P : List Str} {vs : List Value} {i : Nat} {m : Str → Option Value}, P.Nodup → P[i]? = some x → vs[i]? = some v → kindOf x ≠ some .local →
    bindC kindOf (P.zip vs) m x = some v
  | [], _, _, _, _, h, _, _ => by simp at h
  | _ :: _, [], _, _, _, _, h, _ => by simp at h
  | p :: P, w :: vs, 0, m, nd, h1, h2, hk => by
    simp at h1 h2; subst h1; subst h2
    show bindC kindOf ((p, w) :: P.zip vs) m p = _
    unfold bindC
    rw [bindC_out fun v hv => (List.nodup_cons.mp nd).1 (List.of_mem_zip hv).1, if_neg hk]
    simp
  | p :: P, w :: vs, i + 1, m, nd, h1, h2, hk => by
    show bindC kindOf ((p, w) :: P.zip vs) m x = _
    unfold bindC
    exact bindC_get (i := i) (List.nodup_cons.mp nd).2 (by simpa using h1) (by simpa using h2) hk

def start (N : List Str) (vs : List V) : St := vs.map some ++ List.replicate (N.length - vs.length) none

def cxOf (CX : CXT) (P : Program) (w : World) (K : PySem.W.Frag) (mg : Str → Option Value) (base : Heap) (N : List Str) (qual : Str) (scope : Scope) (f : Addr) (cd : Value) (A : Around) (outer : List Env) (s : Shared) (H : Hp) (E : XK) : Cx where
  prog := P
  w := w
  K := K
  mg := mg
  base := base
  A := A.deeper (envOfC qual scope s.heap.objs.size f cd)
  N := N
  s₀ := s
  H₀ := H
  env := envOfC qual scope s.heap.objs.size f cd
  outer := outer
  stack := envOfC qual scope s.heap.objs.size f cd :: outer
  ex := []
  calm := true
  fn := fun _ => true
  pn := []
  xe := fun e s' => wpAny (model P w) (A.deeper (envOfC qual scope s.heap.objs.size f cd)) (leaving (envOfC qual scope s.heap.objs.size f cd) e) (fun _ s'' => CX outer H s E e s'') (fun e' s'' => CX outer H s E e' s'') s'

theorem cell_has {sc : Scope} {n : Nat} {x : Str} (h : sc.names.lookup x = some .cell) : ∃ c, (cellsFrom n sc.names []).lookup x = some c := by
  have q := PySem.W.cellsFrom_some sc.names n [] (.inl h)
  exact Option.isSome_iff_exists.mp q

theorem inv_start {CX : CXT} {P : Program} {w : World} {K : PySem.W.Frag} {mg : Str → Option Value} {base : Heap} {N ps : List Str} {qual : Str} {scope : Scope} {f : Addr} {cd : Value} {A : Around} {outer : List Env} {s s1 : Shared} {H : Hp} {E : XK} {us : List Value} {vs : List V}
    (S : FnScope N ps scope) (hd : A.handled = none) (e0 : Env0 P w K mg base A outer s H) (hl : vs.length = ps.length) (r : Vals vs us)
    (x : InCallC s s.heap.objs.size (bindL (envOfC qual scope s.heap.objs.size f cd).kindOf (ps.zip us) fun _ => none) (cellsFrom (s.heap.objs.size + 1) scope.names []) (bindC (envOfC qual scope s.heap.objs.size f cd).kindOf (ps.zip us) fun _ => none) s1) :
    Inv (cxOf CX P w K mg base N qual scope f cd A outer s H E) [] (start N vs) H s1 := by
  have hpl : ps.length ≤ N.length := by have := congrArg List.length S.pre; rw [List.length_take] at this; omega
  obtain ⟨h1, tk, rfl, hk⟩ := x.done
  have noA : ∀ b : Addr, b ∉ (cxOf CX P w K mg base N qual scope f cd A outer s H E).ex := fun b z => absurd (show b ∈ ([] : List Addr) from z) (by simp)
  refine ⟨⟨e0.mod, S.kind, rfl, rfl, Nat.le_refl _, fun y z c h1 h2 => ?_, fun y hy => ?_, fun y c _ h => ?_, fun _ => hd, Around.frames_deeper e0.frames, .inr ⟨rfl, rfl⟩, fun b z => absurd z (noA b), e0.bs, e0.bsz, fun b _ _ => noA b, fun b z => absurd z (noA b), e0.funs, e0.frf⟩,
    rfl, e0.bare, Un.kept hk, ⟨_, x.toInCall.ns, fun i y v h1 h2 h3 => ?_⟩, fun y c h => ⟨_, x.cell y c h⟩, e0.hok.fresh (Nat.le_refl _), fun y c h => ?_, fun p hp => absurd (show p ∈ ([] : List (Addr × Obj)) from hp) (by simp), e0.hok.kept hk, ?_⟩
  · exact name_of_addr x.apart (PySem.mem_of_lookup h1) (PySem.mem_of_lookup h2)
  · have hy : scope.names.lookup y = some .cell ∨ scope.names.lookup y = some .free := hy
    rcases hy with hy | hy
    · exact cell_has hy
    · exact absurd rfl (S.nofree _ (PySem.mem_of_lookup hy))
  · exact Nat.le_of_lt (x.above y c (PySem.mem_of_lookup h))
  · have hi : i < vs.length := by
      unfold start at h2
      by_cases hi : i < vs.length
      · exact hi
      · rw [List.getElem?_append_right (by simpa using hi)] at h2
        rw [List.getElem?_replicate] at h2
        split at h2 <;> cases h2
    have ha : vs[i]? = some v := by
      unfold start at h2
      rw [List.getElem?_append_left (by simpa using hi), List.getElem?_map] at h2
      cases e : vs[i]? with
      | none => rw [e] at h2; cases h2
      | some a => rw [e] at h2; cases h2; rfl
    obtain ⟨u, hu, rv⟩ := r.get ha
    have hp : ps[i]? = some y := by
      rw [← S.pre, List.getElem?_take_of_lt (by omega)]; exact h1
    have ndP : ps.Nodup := by rw [← S.pre]; exact S.nd.sublist (List.take_sublist _ _)
    refine ⟨u, rv, ?_⟩
    rcases S.par y (List.mem_of_getElem? hp) with k | k
    · exact .inl ⟨k, bindL_get ndP hp hu k⟩
    · obtain ⟨c, e⟩ := cell_has (n := s.heap.objs.size + 1) k
      refine .inr ⟨.inl k, c, e, ?_⟩
      have q := x.cell y c e
      rw [bindC_get ndP hp hu (by show scope.names.lookup y ≠ _; rw [k]; decide)] at q
      exact q
  · exact e0.hok.fresh (Nat.le_of_lt (x.above y c (PySem.mem_of_lookup h)))
  · unfold start
    show _ = N.length
    rw [List.length_append, List.length_map, List.length_replicate]
    omega

theorem fn_of {CX : CXT} {P : Program} {w : World} {K : PySem.W.Frag} {mg : Str → Option Value} {base : Heap} {k : Nat} {f : Addr} {name qual : Str} {params : Arguments} {body : List Stmt} {scope : Scope} {dV kV doc pm cdv ct oc : Value} {an od : Option Addr}
    {osl : Array (Option Value)} {N ps : List Str} {sp : Sp} (lk : K.lookup f = some ⟨oc, od, .func (PySem.W.fnOf name qual params body scope dV kV doc pm an cdv ct), osl⟩) (hcd : PySem.W.codeIn K cdv qual = true) (S : FnScope N ps scope)
    (len : ∀ vs H Q E, sp vs H Q E → vs.length = ps.length)
    (hbody : ∀ (A : Around) (outer : List Env) (s : Shared) (H : Hp) (vs : List V) (Q : VK) (E : XK), Room k (A.deeper (envOfC qual scope s.heap.objs.size f cdv)) → sp vs H Q E →
      ∃ t, PSs (cxOf CX P w K mg base N qual scope f cdv A outer s H E) body t ∧ t { nx := fun _ H' => Q .non H', rt := Q } (start N vs) H) :
    FnOk P w K mg base CX (k + 1) f (PySem.W.fnOf name qual params body scope dV kV doc pm an cdv ct) ps sp := by
  refine ⟨len, fun A outer s H args us vs Q E hr e0 hb r hsp => ?_⟩
  have hl := len _ _ _ _ hsp
  have KX : K.In s.heap := e0.mod.kin.keeps fun b o e => (e0.bs b o e).1
  have lim : s.heap.NoLimit := e0.mod.nolimit.keeps fun b o e => (e0.bs b o e).1
  have hkind : ∀ y ∈ ps.zip us, scope.names.lookup y.1 = some .local ∨ (scope.names.lookup y.1 = some .cell ∧ ((cellsFrom (s.heap.objs.size + 1) scope.names []).lookup y.1).isSome = true) := fun ⟨n, v⟩ hy => by
    rcases S.par n (List.of_mem_zip hy).1 with q | q
    · exact .inl q
    · exact .inr ⟨q, PySem.W.cellsFrom_some _ _ _ (.inl q)⟩
  refine codeAny_call_function hr.depth (KX _ _ lk) rfl S.co S.gen rfl (PySem.W.codeRec_of KX hcd) (hb _ _ _ _ ?_)
  refine wpAny_newFunctionEnv_cells S.kind hkind fun env he s1 x => ?_
  subst he
  refine ⟨lim.keeps x.toInCall.keep, codeAny_func ?_⟩
  obtain ⟨t, ht, hq⟩ := hbody A outer s H vs Q E (hr.deeper _) hsp
  have I : Inv (cxOf CX P w K mg base N qual scope f cdv A outer s H E) [] (start N vs) H s1 := inv_start S hr.hd e0 hl r x
  refine wpAny_mono (ht [] s1 (start N vs) H _ I hq) (fun fl s' hs => ?_) fun e s' hs => hs
  have fin : ∀ {σ' : St} {H' : Hp} {v : V} {u : Value}, Inv (cxOf CX P w K mg base N qual scope f cdv A outer s H E) [] σ' H' s' → RelV v u → Q v H' → CE outer P w H s Q u s' :=
    fun {σ' H' v u} J rv q => ⟨v, H', J.os, J.bare, J.base, J.hok, rv, q⟩
  cases fl with
  | ret u =>
    obtain ⟨v, σ', H', J, rv, q⟩ := hs
    exact fin J rv q
  | next =>
    obtain ⟨σ', H', J, q⟩ := hs
    exact fin (v := V.non) (u := Value.none) J rfl q
  | brk =>
    obtain ⟨_, _, _, q⟩ := hs
    exact False.elim q
  | cont =>
    obtain ⟨_, _, _, q⟩ := hs
    exact False.elim q
end L2

namespace L2
open PySem PySem.Spec PyProof.Rows
section
variable {X : Cx} {x : Str} {p pos : Pos} {e : Expr} {es : List Expr} {t : TA} {id T : String} {r : List V → Hp → VK → Prop}

def tCB (r : List V → Hp → VK → Prop) (t : TA) : TE := fun σ H Q => t σ H fun vs H1 => r vs H1 Q
theorem pe_callB (hc : CallR X (.builtin id) r) (hg : Gl X x) (hm : X.mg x = none) (hv : bootBuiltins x = some (.builtin id)) (ha : PA X (e :: es) t) (hn : x ≠ "__name__" := by decide) (hdb : (x == ("__debug__" : Str)) = false := by decide)
    (he : starEach (e :: es) X.env = (false, eval e X.env) :: starEach es X.env := by rfl) (hpl : (backTo pos (starEach es X.env)).any (·.1) = false := by rfl) : PE X (.Call (.Name x p) (e :: es) [] pos) (tCB r t) := by
  intro pins s σ H Q I h
  refine wpAny_Call_Name_kw (ld_blt I hg hm hv ?_ hn hdb)
  exact PyProof.Rows.callWith_builtin1 (thn (ha pos pins s σ H _ I h) fun us s1 ⟨vs, H1, I1, r1, q1⟩ => hc pins s1 σ H1 vs us Q I1 r1 q1) he hpl
theorem pe_callTy (hc : CallR X (.type T) r) (hg : Gl X x) (hm : X.mg x = none) (hv : bootBuiltins x = some (.type T)) (ha : PA X (e :: es) t) (hn : x ≠ "__name__" := by decide) (hdb : (x == ("__debug__" : Str)) = false := by decide)
    (he : starEach (e :: es) X.env = (false, eval e X.env) :: starEach es X.env := by rfl) (hpl : (backTo pos (starEach es X.env)).any (·.1) = false := by rfl) : PE X (.Call (.Name x p) (e :: es) [] pos) (tCB r t) := by
  intro pins s σ H Q I h
  refine wpAny_Call_Name_kw (ld_blt I hg hm hv ?_ hn hdb)
  exact PyProof.Rows.callWith_type1 (thn (ha pos pins s σ H _ I h) fun us s1 ⟨vs, H1, I1, r1, q1⟩ => hc pins s1 σ H1 vs us Q I1 r1 q1) he hpl
end
end L2

namespace HT
open PySem PyProof.Rows

section
open PySem.SeqAt
open PySem.AutoSeq1 (wpAny_loadPart')
open PySem.MeetsSeq PySem.MeetsSeq2 PySem.MeetsSeq3

end

section
variable {prog : Program} {w : World} {A : Around} {E : Value → Shared → Prop} {s : Shared}

def sIx (n d : Nat) : Option Int → Nat
  | none => d
  | some v => if v < 0 then (v + (n : Int)).toNat else min v.toNat n
theorem sIx_none (n d : Nat) : sIx n d none = d := rfl
theorem sIx_nat (n d k : Nat) : sIx n d (some (k : Int)) = min k n := by
  show (if (k : Int) < 0 then ((k : Int) + (n : Int)).toNat else min (k : Int).toNat n) = min k n
  rw [if_neg (by omega), Int.toNat_natCast]
theorem sIx_le (n d : Nat) (hd : d ≤ n) (o : Option Int) : sIx n d o ≤ n := by
  cases o with
  | none => exact hd
  | some v =>
    show (if v < 0 then (v + (n : Int)).toNat else min v.toNat n) ≤ n
    by_cases hv : v < 0
    · rw [if_pos hv]; omega
    · rw [if_neg hv]; exact Nat.min_le_right _ _
theorem clip_eq (v : Int) (n d : Nat) : (if v < 0 then max (v + (n : Int)) 0 else min v (n : Int)) = ((sIx n d (some v) : Nat) : Int) := by
  show (if v < 0 then max (v + (n : Int)) 0 else min v (n : Int)) = (((if v < 0 then (v + (n : Int)).toNat else min v.toNat n) : Nat) : Int)
  by_cases hv : v < 0
  · simp only [if_pos hv]; omega
  · simp only [if_neg hv]; omega
theorem adjust_gen (lo hi : Option Int) (n : Nat) : Builtin.Slice.sliceAdjust lo hi 1 (n : Int) = (((sIx n 0 lo : Nat) : Int), ((sIx n n hi : Nat) : Int)) := by
  have h1 : ¬ ((1 : Int) < 0) := by omega
  unfold Builtin.Slice.sliceAdjust
  simp only [h1, if_false]
  refine Prod.ext ?_ ?_
  · cases lo with
    | none => rfl
    | some v => exact clip_eq v n 0
  · cases hi with
    | none => rfl
    | some v => exact clip_eq v n n
theorem places_gen (i j : Nat) : Builtin.Slice.slicePlaces (i : Int) (j : Int) 1 = j - i := by
  unfold Builtin.Slice.slicePlaces
  have h1 : (1 : Int) > 0 := by omega
  simp only [h1, if_true, Int.ediv_one]
  split <;> omega
theorem slicePart_ {v : Value} {o : Option Int} {Q : Option Int → Shared → Prop} (p : IsPart v o) (h : Q o s) : wpAny (model prog w) A (Builtin.Slice.slicePartIndex v) Q E s := by
  cases p with
  | none => exact slicePart_none h
  | int i t => exact slicePart_int h
theorem sliceApplied_gen {sl : Addr} {vl vu : Value} {lo hi : Option Int} {n : Nat} {Q : Int × Int × Nat → Shared → Prop} (hs : s.heap.IsSliceOf sl vl vu .none) (pl : IsPart vl lo) (pu : IsPart vu hi)
    (h : Q (((sIx n 0 lo : Nat) : Int), 1, sIx n n hi - sIx n 0 lo) s) : wpAny (model prog w) A (Builtin.Slice.sliceApplied (.ref sl) (pure (n : Int))) Q E s := by
  obtain ⟨os, hos, hcs, hds⟩ := id hs
  unfold Builtin.Slice.sliceApplied Builtin.Slice.sliceFields
  refine wpAny_bind (wpAny_bind (wpAny_field hos hds (x := vl) rfl (wpAny_bind (wpAny_field hos hds (x := vu) rfl (wpAny_bind (wpAny_field hos hds (x := .none) rfl (wpAny_pure ?_)))))))
  refine wpAny_bind (slicePart_none ?_)
  show wpAny _ _ (if ((1 : Int) == 0) = true then _ else _) _ _ s
  rw [if_neg (by decide)]
  refine wpAny_bind (slicePart_ pl (wpAny_bind (slicePart_ pu (wpAny_bind (wpAny_pure ?_)))))
  show wpAny _ _ (match Builtin.Slice.sliceAdjust lo hi 1 (n : Int) with | (lo, hi) => pure (lo, (1 : Int), Builtin.Slice.slicePlaces lo hi 1)) _ _ s
  rw [adjust_gen lo hi n]
  show wpAny _ _ (pure (((sIx n 0 lo : Nat) : Int), (1 : Int), Builtin.Slice.slicePlaces ((sIx n 0 lo : Nat) : Int) ((sIx n n hi : Nat) : Int) 1)) _ _ s
  rw [places_gen]
  exact wpAny_pure h
theorem pick_gen (xs : Array Value) (i k : Nat) : ((List.range k).filterMap fun (m : Nat) => xs[((i : Int) + (m : Int) * 1).toNat]?).toArray = ((xs.toList.drop i).take k).toArray := by
  have e : (fun (m : Nat) => xs[((i : Int) + (m : Int) * 1).toNat]?) = fun m => xs[i + m]? := by
    funext m
    have : ((i : Int) + (m : Int) * 1).toNat = i + m := by omega
    rw [this]
  rw [e]
  have := pick_run xs i k
  rw [List.filterMap_map] at this
  have e2 : ((fun x => xs[x]?) ∘ fun x => i + x) = fun m => xs[i + m]? := rfl
  rw [e2] at this
  rw [this]

theorem getItem_tuple_cut {t sl : Addr} {items : Array Value} {vl vu : Value} {lo hi : Option Int} {Q : Value → Shared → Prop} (ht : IsTup s.heap t items) (hs : s.heap.IsSliceOf sl vl vu .none) (pl : IsPart vl lo) (pu : IsPart vu hi)
    (hw : ¬ (sIx items.size 0 lo = 0 ∧ sIx items.size items.size hi = items.size))
    (h : Q (.ref s.heap.objs.size) { s with heap := s.heap.push { cls := .type "tuple", data := .seq ((items.toList.drop (sIx items.size 0 lo)).take (sIx items.size items.size hi - sIx items.size 0 lo)).toArray } })
    (hsz : items.size ≤ sizeLine) : wpAny (model prog w) A (getItem (.ref t) (.ref sl)) Q E s := by
  have htake : sizeOk (.seq ((items.toList.drop (sIx items.size 0 lo)).take (sIx items.size items.size hi - sIx items.size 0 lo)).toArray) := by
    show ((items.toList.drop (sIx items.size 0 lo)).take (sIx items.size items.size hi - sIx items.size 0 lo)).toArray.size ≤ sizeLine
    rw [List.size_toArray, List.length_take, List.length_drop, Array.length_toList]
    omega
  have hj : sIx items.size items.size hi ≤ items.size := sIx_le _ _ (Nat.le_refl _) hi
  obtain ⟨os, hos, hcs, hds⟩ := id hs
  have hTs : s.TypeIs (.ref sl) "slice" := ⟨os, hos, hcs⟩
  unfold getItem
  try with_reducible refine wpAny_holding ?_
  first | refine wpAny_bind (wpAny_pure ?_) | skip
  refine wpAny_bind (wpAny_sequenceKey ht.typeIs (by decide) ?_)
  refine wpAny_bind (wpAny_callSpecial?_slot (name := Str.ofString "__getitem__") ht.typeIs PyProof.Rows.slot_tuple_getitem
    (wpAny_call_entry PyProof.Rows.slot_tuple_getitem ht.typeIs entry_tuple_getitem ?_ (args_tuple_getitem _ _)))
  show wpAny _ _ (Builtin.Tuple.tupleItemsOf (.ref t) >>= _) _ _ s
  refine wpAny_bind (tupleItemsOf_ ht ?_)
  refine wpAny_bind (wpAny_typeOf hTs ?_)
  rw [if_pos (by decide)]
  refine wpAny_bind (sliceApplied_gen hs pl pu ?_)
  have hno : ¬ ((((sIx items.size 0 lo : Nat) : Int) == 0 && (1 : Int) == 1 && (sIx items.size items.size hi - sIx items.size 0 lo) == items.size) = true) := by
    intro q
    rw [Bool.and_eq_true, Bool.and_eq_true] at q
    have q1 : ((sIx items.size 0 lo : Nat) : Int) = 0 := eq_of_beq q.1.1
    have q2 : sIx items.size items.size hi - sIx items.size 0 lo = items.size := eq_of_beq q.2
    exact hw ⟨by omega, by omega⟩
  show wpAny _ _ (if (((sIx items.size 0 lo : Nat) : Int) == 0 && (1 : Int) == 1 && (sIx items.size items.size hi - sIx items.size 0 lo) == items.size) = true then _ else _) _ _ s
  rw [if_neg hno, pick_gen]
  first
    | exact wpAny_bind (m := Builtin.Tuple.tupleExact _) (wpAny_newObj_type (wpAny_pure ⟨_, rfl, wpAny_pure h⟩) htake)
    | exact wpAny_bind (m := Builtin.Tuple.tupleExact _) (wpAny_newObj_type (wpAny_bind (wpAny_pure (wpAny_pure ⟨_, rfl, wpAny_pure h⟩))) htake)
    | exact wpAny_bind (wpAny_bind (m := Builtin.Tuple.tupleExact _) (wpAny_newObj_type (wpAny_pure (wpAny_pure ⟨_, rfl, wpAny_pure h⟩)) htake))
    | exact wpAny_bind (wpAny_bind (m := Builtin.Tuple.tupleExact _) (wpAny_newObj_type (wpAny_pure ⟨_, rfl, wpAny_pure h⟩) htake))
end
end HT

namespace L2
open PySem PySem.Spec PyProof.Rows

abbrev TO := St → Hp → (Option Int → Hp → Prop) → Prop
def PO (X : Cx) (e : Option Expr) (t : TO) : Prop :=
  ∀ (pins : List (Addr × Obj)) (s : Shared) (σ : St) (H : Hp) (Q : Option Int → Hp → Prop), Inv X pins σ H s → t σ H Q →
    wpAny (model X.prog X.w) X.A (evalPart e X.env) (fun u s' => ∃ o H', Inv X pins σ H' s' ∧ IsPart u o ∧ Q o H') X.xe s
def tNoPart : TO := fun _ H Q => Q none H
def tPart (t : TE) : TO := fun σ H Q => t σ H fun x H1 => ∃ i, x = .int i ∧ Q (some i) H1

section
variable {X : Cx} {e : Expr} {te : TE} {lo hi : Option Expr} {tl th : TO} {pos p2 : Pos}

theorem po_none : PO X none tNoPart := by
  intro pins s σ H Q I h
  rw [evalPart_none]
  exact wpAny_pure ⟨none, H, I, .none, h⟩
theorem po_some (h : PE X e te) : PO X (some e) (tPart te) := by
  intro pins s σ H Q I hw
  rw [evalPart_some]
  refine thn (h pins s σ H _ I hw) fun u s1 ⟨x, H1, I1, r1, q1⟩ => ?_
  obtain ⟨i, rfl, q⟩ := q1
  obtain ⟨t, rfl⟩ := r1
  exact ⟨some i, H1, I1, .int i t, q⟩

def SlR (X : Cx) (r : V → Option Int → Option Int → Hp → VK → Prop) : Prop :=
  ∀ (pins : List (Addr × Obj)) (s : Shared) (σ : St) (H : Hp) (x : V) (v vl vu : Value) (lo hi : Option Int) (sl : Addr) (Q : VK), Inv X pins σ H s → RelV x v → s.heap.IsSliceOf sl vl vu .none → IsPart vl lo → IsPart vu hi → r x lo hi H Q →
    ∃ T id, typeLookup (.type T) "__getitem__" = pure (some (.builtin id)) ∧ s.TypeIs v T ∧ wpAny (model X.prog X.w) X.A (getItem v (.ref sl)) (EP X pins σ Q) X.xe s
theorem SlR.or {r r' : V → Option Int → Option Int → Hp → VK → Prop} (h : SlR X r) (h' : SlR X r') : SlR X (fun x lo hi H Q => r x lo hi H Q ∨ r' x lo hi H Q) := by
  intro pins s σ H x v vl vu lo hi sl Q I rx hs pl pu q
  rcases q with q | q
  · exact h pins s σ H x v vl vu lo hi sl Q I rx hs pl pu q
  · exact h' pins s σ H x v vl vu lo hi sl Q I rx hs pl pu q
def tSl (r : V → Option Int → Option Int → Hp → VK → Prop) (te : TE) (tl th : TO) : TE := fun σ H Q => te σ H fun x H1 => tl σ H1 fun l H2 => th σ H2 fun u H3 => r x l u H3 Q
theorem pe_slice {r : V → Option Int → Option Int → Hp → VK → Prop} (hr : SlR X r) (he : PE X e te) (hl : PO X lo tl) (hu : PO X hi th) : PE X (.Subscript e (.Slice lo hi none p2) pos) (tSl r te tl th) := by
  intro pins s σ H Q I h
  refine Subscript_ (thn (he pins s σ H _ I h) fun v s1 ⟨x, H1, I1, r1, q1⟩ => ?_)
  refine wpAny_Slice (thn (hl pins s1 σ H1 _ I1 q1) fun vl s2 ⟨l, H2, I2, pl, q2⟩ => thn (hu pins s2 σ H2 _ I2 q2) fun vu s3 ⟨u, H3, I3, pu, q3⟩ => ?_)
  rw [evalPart_none]
  refine wpAny_pure ?_
  have I4 : Inv X pins σ H3 { s3 with heap := s3.heap.push { cls := .type "slice", data := .fields #[vl, vu, .none] } } := I3.kept (t' := s3.toks) fun b ob q => Heap.get?_push_of_some _ q
  obtain ⟨T, id, hT, ht, hg⟩ := hr pins { s3 with heap := s3.heap.push { cls := .type "slice", data := .fields #[vl, vu, .none] } } σ H3 x v vl vu l u s3.heap.objs.size Q I4 r1 (Heap.IsSliceOf.new ..) pl pu q3
  show wpAny (model X.prog X.w) X.A (subscriptTail e (.Slice lo hi none p2) v (.ref s3.heap.objs.size)) (EP X pins σ Q) X.xe { s3 with heap := s3.heap.push { cls := .type "slice", data := .fields #[vl, vu, .none] } }
  exact tail_any (ops := [.ref s3.heap.objs.size, v]) ht hT hg (by with_unfolding_all rfl)

def cutV (xs : List V) (lo hi : Option Int) : List V := (xs.drop (HT.sIx xs.length 0 lo)).take (HT.sIx xs.length xs.length hi - HT.sIx xs.length 0 lo)
theorem cutV_length (xs : List V) (lo hi : Option Int) : (cutV xs lo hi).length ≤ xs.length := by
  unfold cutV
  rw [List.length_take, List.length_drop]
  omega
def rSlT (K : PySem.W.Frag) : V → Option Int → Option Int → Hp → VK → Prop := fun x lo hi H Q => ∃ a xs, x = .ref a ∧ SqT K H a xs ∧
  ¬ (HT.sIx xs.length 0 lo = 0 ∧ HT.sIx xs.length xs.length hi = xs.length) ∧ ∀ p, H p = none → Q (.ref p) (upd H p (.tup (cutV xs lo hi)))
theorem sl_tup : SlR X (rSlT X.K) := by
  intro pins s σ H x v vl vu lo hi sl Q I rx hs pl pu h
  obtain ⟨a, xs, rfl, hx, hw, q⟩ := h
  cases rx
  obtain ⟨its, r, ht, hz⟩ := I.tuple hx
  have hlen : its.toArray.size = xs.length := by rw [List.size_toArray]; exact r.length.symm
  refine ⟨"tuple", _, PyProof.Rows.slot_tuple_getitem.lookup, ht.typeIs, ?_⟩
  refine HT.getItem_tuple_cut ht hs pl pu (by rw [hlen]; exact hw) ?_ (by rw [hlen]; exact hz)
  rw [hlen]
  refine ⟨.ref s.heap.objs.size, _, I.laid (t' := s.toks) (o := .tup (cutV xs lo hi)) (fun b ob q => Heap.get?_push_of_some _ q) (Nat.le_refl _) ?_, rfl, q _ (I.hok.fresh (Nat.le_refl _))⟩
  exact ⟨Nat.le_trans (cutV_length xs lo hi) hz, _, (r.drop (HT.sIx xs.length 0 lo)).take (HT.sIx xs.length xs.length hi - HT.sIx xs.length 0 lo), IsTup.new _ _⟩

end
end L2

namespace L2
open PySem PySem.Spec PyProof.Rows

def ixN (n : Nat) (i : Int) : Option Nat := if 0 ≤ i then (if i < n then some i.toNat else none) else if -(n : Int) ≤ i then some (i + n).toNat else none
def atI {α : Type} (xs : List α) (i : Int) : Option α := (ixN xs.length i).bind fun j => xs[j]?
theorem ixN_seq {n : Nat} {i : Int} {j : Nat} (h : ixN n i = some j) : seqIndex? i n = some j ∧ j < n ∧ -(n : Int) ≤ i ∧ i < n := by
  unfold ixN at h
  by_cases h0 : 0 ≤ i
  · rw [if_pos h0] at h
    by_cases h1 : i < n
    · rw [if_pos h1] at h
      have e : i.toNat = j := Option.some.inj h
      exact ⟨by rw [seqIndex_of h0 h1, e], by omega, by omega, h1⟩
    · rw [if_neg h1] at h; cases h
  · rw [if_neg h0] at h
    by_cases h1 : -(n : Int) ≤ i
    · rw [if_pos h1] at h
      have e : (i + n).toNat = j := Option.some.inj h
      exact ⟨by rw [seqIndex_neg (by omega) h1, e], by omega, h1, by omega⟩
    · rw [if_neg h1] at h; cases h
theorem atI_get {α : Type} {xs : List α} {i : Int} {v : α} (h : atI xs i = some v) : ∃ j, seqIndex? i xs.length = some j ∧ xs[j]? = some v ∧ j < xs.length ∧ -(xs.length : Int) ≤ i ∧ i < xs.length := by
  unfold atI at h
  cases e : ixN xs.length i with
  | none => rw [e] at h; cases h
  | some j =>
    rw [e] at h
    obtain ⟨h1, h2, h3, h4⟩ := ixN_seq e
    exact ⟨j, h1, h, h2, h3, h4⟩
def PlainIx (b : Expr) : Prop := ∀ o i, subscripted b false o i = operate [o, i] (getItem o i)
def IxR (X : Cx) (r : R2) : Prop :=
  ∀ (value slice : Expr) (pins : List (Addr × Obj)) (s : Shared) (σ : St) (H : Hp) (x y : V) (v u : Value) (Q : VK), Inv X pins σ H s → RelV x v → RelV y u → r x y H Q →
    subscripted slice false v u = operate [v, u] (getItem v u) → wpAny (model X.prog X.w) X.A (subscriptTail value slice v u) (EP X pins σ Q) X.xe s
def MtR (X : Cx) (id : String) (r : V → List V → Hp → VK → Prop) : Prop :=
  ∀ (pins : List (Addr × Obj)) (s : Shared) (σ : St) (H : Hp) (x : V) (xs : List V) (v : Value) (us : List Value) (Q : VK), Inv X pins σ H s → RelV x v → Vals xs us → r x xs H Q →
    wpAny (model X.prog X.w) X.A (call (.builtin id) (v :: us)) (EP X pins σ Q) X.xe s
section
variable {X : Cx} {a b : Expr} {ta tb : TE} {pos : Pos}
theorem IxR.or {r r' : R2} (h : IxR X r) (h' : IxR X r') : IxR X (fun x y H Q => r x y H Q ∨ r' x y H Q) := by
  intro value slice pins s σ H x y v u Q I rx ry q hs
  rcases q with q | q
  · exact h value slice pins s σ H x y v u Q I rx ry q hs
  · exact h' value slice pins s σ H x y v u Q I rx ry q hs
theorem pe_ix {r : R2} (hr : IxR X r) (ha : PE X a ta) (hb : PE X b tb) (hs : PlainIx b) : PE X (.Subscript a b pos) (tOp r ta tb) := by
  intro pins s σ H Q I h
  exact Subscript_ (binT ha hb I h fun v u s2 x y H2 I2 rx ry q => hr a b pins s2 σ H2 x y v u Q I2 rx ry q (hs _ _))

def rIxL (K : PySem.W.Frag) : R2 := fun x y H Q => ∃ p xs i v, x = .ref p ∧ y = .int i ∧ SqL K H p xs ∧ atI xs i = some v ∧ Q v H
def rIxT (K : PySem.W.Frag) : R2 := fun x y H Q => ∃ p xs i v, x = .ref p ∧ y = .int i ∧ SqT K H p xs ∧ atI xs i = some v ∧ Q v H
def rIxS : R2 := fun x y H Q => ∃ z i c, x = .str z ∧ y = .int i ∧ z.length ≤ sizeLine ∧ atI z.cps.toList i = some c ∧ Q (.str ⟨#[c]⟩) H
theorem ix_list : IxR X (rIxL X.K) := by
  intro value slice pins s σ H x y v u Q I rx ry h hs
  obtain ⟨p, xs, i, z, rfl, rfl, hq, he, q⟩ := h
  cases rx
  obtain ⟨t, rfl⟩ := ry
  obtain ⟨its, r, pl, hz⟩ := I.list hq
  obtain ⟨j, h1, h2, h3, h4, h5⟩ := atI_get he
  obtain ⟨w, ew, rw'⟩ := r.get h2
  have hl := r.length
  have hn := line63
  have fin : EP X pins σ Q w s := ⟨z, H, I, rw', q⟩
  by_cases h0 : 0 ≤ i
  · have hj : i.toNat = j := by
      rw [seqIndex_of h0 h5] at h1
      exact Option.some.inj h1
    exact item_listR pl.isList h0 (by omega) (by rw [hj]; simpa using ew) fin hs
  · have hj : (i + (its.toArray.size : Int)).toNat = j := by
      rw [seqIndex_neg (by omega) h4] at h1
      rw [List.size_toArray, ← hl]
      exact Option.some.inj h1
    exact subscriptTail_builtinR (x := w) pl.isList.typeIs slot_list_getitem.lookup
      (wpAny_getItem_list_neg (Q := fun r s' => r = w ∧ EP X pins σ Q r s') pl.isList (by omega) (by rw [List.size_toArray] <;> omega) (by omega) (by rw [hj]; simpa using ew) ⟨rfl, fin⟩) hs
theorem ix_tup : IxR X (rIxT X.K) := by
  intro value slice pins s σ H x y v u Q I rx ry h hs
  obtain ⟨p, xs, i, z, rfl, rfl, hq, he, q⟩ := h
  cases rx
  obtain ⟨t, rfl⟩ := ry
  obtain ⟨its, r, pl, hz⟩ := I.tuple hq
  obtain ⟨j, h1, h2, h3, h4, h5⟩ := atI_get he
  obtain ⟨w, ew, rw'⟩ := r.get h2
  have hl := r.length
  have hn := line63
  have fin : EP X pins σ Q w s := ⟨z, H, I, rw', q⟩
  exact subscriptTail_builtinR (x := w) pl.typeIs slot_tuple_getitem.lookup
    (getItem_tuple (j := j) (Q := fun r s' => r = w ∧ EP X pins σ Q r s') pl (by omega) (by omega) (by rw [List.size_toArray, ← hl]; exact h1) (by simpa using ew) ⟨rfl, fin⟩) hs
theorem ix_str : IxR X rIxS := by
  intro value slice pins s σ H x y v u Q I rx ry h hs
  obtain ⟨z, i, c, rfl, rfl, hz, he, q⟩ := h
  obtain ⟨t, rfl⟩ := rx
  obtain ⟨t', rfl⟩ := ry
  obtain ⟨j, h1, h2, h3, h4, h5⟩ := atI_get he
  have hl : z.cps.toList.length = z.length := by simp [Str.length]
  rw [hl] at h1 h4 h5
  have hn := line63
  exact tail_any (typeIs_str s z t) slot_str_getitem.lookup (getItem_str (c := c) (by
    have e1 : decide (i < -(2 ^ 63 : Int)) = false := decide_eq_false (by omega)
    have e2 : decide (i ≥ 2 ^ 63) = false := decide_eq_false (by omega)
    rw [e1, e2, Bool.or_false]) (by rw [h1]; simpa using h2) ⟨.str ⟨#[c]⟩, H, I.tok _, ⟨_, rfl⟩, q⟩) hs
theorem slice_bounds (lo hi : Option Int) (n : Nat) : (sliceBounds lo hi none n).1 = ((HT.sIx n 0 lo : Nat) : Int) ∧ (sliceBounds lo hi none n).2.1 = ((HT.sIx n n hi : Nat) : Int) ∧ (sliceBounds lo hi none n).2.2 = 1 := by
  refine ⟨?_, ?_, rfl⟩
  · cases lo with
    | none => simp [sliceBounds, HT.sIx]
    | some i =>
      simp only [sliceBounds, HT.sIx, Option.getD_none, show (1 : Int) > 0 by decide, if_true]
      by_cases h : i < 0
      · simp only [h, if_true] <;> omega
      · simp only [h, if_false] <;> omega
  · cases hi with
    | none => simp [sliceBounds, HT.sIx]
    | some i =>
      simp only [sliceBounds, HT.sIx, Option.getD_none, show (1 : Int) > 0 by decide, if_true]
      by_cases h : i < 0
      · simp only [h, if_true] <;> omega
      · simp only [h, if_false] <;> omega
theorem slicePick_cut (its : List Value) (lo hi : Option Int) : slicePick its.toArray lo hi none = ((its.drop (HT.sIx its.length 0 lo)).take (HT.sIx its.length its.length hi - HT.sIx its.length 0 lo)).toArray := by
  obtain ⟨h1, h2, h3⟩ := slice_bounds lo hi its.toArray.size
  unfold slicePick
  rw [h1, h2, h3]
  simp only [sliceRange_one, pick_run, List.size_toArray] <;> rfl
def rSlL (K : PySem.W.Frag) : V → Option Int → Option Int → Hp → VK → Prop := fun x lo hi H Q => ∃ a xs, x = .ref a ∧ SqL K H a xs ∧ ∀ p, H p = none → Q (.ref p) (upd H p (.lst (cutV xs lo hi)))
theorem sl_list : SlR X (rSlL X.K) := by
  intro pins s σ H x v vl vu lo hi sl Q I rx hs pl pu h
  obtain ⟨a, xs, rfl, hx, q⟩ := h
  cases rx
  obtain ⟨its, r, ht, hz⟩ := I.list hx
  have hlen := r.length
  refine ⟨"list", _, slot_list_getitem.lookup, ht.isList.typeIs, ?_⟩
  refine wpAny_getItem_list_slice ht.isList hs pl pu .none (by simp) ?_ (by rw [List.size_toArray] <;> omega)
  rw [slicePick_cut, ← hlen]
  refine ⟨.ref s.heap.objs.size, _, I.laid (t' := s.toks) (o := .lst (cutV xs lo hi)) (fun b ob q => Heap.get?_push_of_some _ q) (Nat.le_refl _) ?_, rfl, q _ (I.hok.fresh (Nat.le_refl _))⟩
  exact ⟨Nat.le_trans (cutV_length xs lo hi) hz, _, 0, (r.drop (HT.sIx xs.length 0 lo)).take (HT.sIx xs.length xs.length hi - HT.sIx xs.length 0 lo), Heap.get?_push_size _ rfl⟩

theorem call_len_seq : CallR X (.builtin "len") (fun xs H Q => ∃ p ys, xs = [.ref p] ∧ (SqL X.K H p ys ∨ SqT X.K H p ys) ∧ Q (.int ys.length) H) := by
  intro pins s σ H xs us Q I r h
  obtain ⟨p, ys, rfl, hq, q⟩ := h
  obtain ⟨u, rfl, rx⟩ := vals1 r
  cases rx
  have hn := line63
  rcases hq with hq | hq
  · obtain ⟨its, r', pl, hz⟩ := I.list hq
    have hlen := r'.length
    exact Calls.call_len_list pl.isList (by simp only [List.size_toArray] <;> omega) ⟨.int ys.length, H, I.tok _, ⟨s.toks + 1, by rw [List.size_toArray, hlen]⟩, q⟩
  · obtain ⟨its, r', pl, hz⟩ := I.tuple hq
    have hlen := r'.length
    exact len_tuple pl (by simp only [List.size_toArray] <;> omega) ⟨.int ys.length, H, I.tok _, ⟨s.toks + 1, by rw [List.size_toArray, hlen]⟩, q⟩
theorem call_len_str : CallR X (.builtin "len") (fun xs H Q => ∃ z, xs = [.str z] ∧ z.length ≤ sizeLine ∧ Q (.int z.length) H) := by
  intro pins s σ H xs us Q I r h
  obtain ⟨z, rfl, hz, q⟩ := h
  obtain ⟨u, rfl, t, rfl⟩ := vals1 r
  have hn := line63
  exact len_str (by omega) ⟨.int z.length, H, I.tok _, ⟨_, rfl⟩, q⟩
theorem call_tuple_of : CallR X (.type "tuple") (fun xs H Q => ∃ p ys, xs = [.ref p] ∧ ((SqL X.K H p ys ∧ ∀ l, H l = none → Q (.ref l) (upd H l (.tup ys))) ∨ (SqT X.K H p ys ∧ Q (.ref p) H))) := by
  intro pins s σ H xs us Q I r h
  obtain ⟨p, ys, rfl, h⟩ := h
  obtain ⟨u, rfl, rx⟩ := vals1 r
  cases rx
  rcases h with ⟨hq, q⟩ | ⟨hq, q⟩
  · obtain ⟨its, r', pl, hz⟩ := I.list hq
    have hlen := r'.length
    refine call_tuple_list pl.isList (fun h' kp => ?_) (by simp only [List.size_toArray] <;> omega)
    have I1 : Inv X pins σ H { s with heap := h' } := I.kept (t' := s.toks) kp
    have I2 : Inv X pins σ (upd H h'.objs.size (.tup ys)) { s with heap := h'.push { cls := .type "tuple", data := .seq its.toArray } } :=
      I1.laid (t' := s.toks) (fun b o e => Heap.get?_push_of_some _ e) (Nat.le_refl _) (show ObjOk X.prog X.w _ _ _ (.tup ys) from ⟨hz, its, r', IsTup.new _ _⟩)
    exact ⟨.ref h'.objs.size, _, I2, rfl, q _ (I1.hok.fresh (Nat.le_refl _))⟩
  · obtain ⟨its, r', pl, hz⟩ := I.tuple hq
    exact call_tuple_same pl ⟨.ref p, H, I, rfl, q⟩

def tyV (K : PySem.W.Frag) (T : String) (x : V) (H : Hp) : Prop := match x with
  | .str _ => T = "str"
  | .int _ => T = "int"
  | .ref p => (T = "list" ∧ ∃ xs, SqL K H p xs) ∨ (T = "tuple" ∧ ∃ o, K.lookup p = some o ∧ o.cls = .type "tuple" ∧ o.dict = none) ∨
      (T = "dict" ∧ ((∃ kvs, H p = some (.dK kvs)) ∨ ∃ kvs, H p = some (.dT kvs))) ∨ (T = "set" ∧ ∃ S n, H p = some (.set S n))
  | _ => False
theorem tyV_is {pins : List (Addr × Obj)} {σ : St} {H : Hp} {s : Shared} {T : String} {x : V} {v : Value} (I : Inv X pins σ H s) (r : RelV x v) (ty : tyV X.K T x H) :
    s.TypeIs v T ∧ ∀ a, v = .ref a → ∃ ob, s.heap.get? a = some ob ∧ ob.dict = none := by
  cases x with
  | str z =>
    obtain ⟨t, rfl⟩ := r
    cases (show T = "str" from ty)
    exact ⟨typeIs_str s z t, fun _ e => nomatch e⟩
  | int i =>
    obtain ⟨t, rfl⟩ := r
    cases (show T = "int" from ty)
    exact ⟨typeIs_int s i t, fun _ e => nomatch e⟩
  | ref p =>
    cases r
    rcases ty with ⟨rfl, xs, hq⟩ | ⟨rfl, o, hk, hc, hd⟩ | ⟨rfl, hk⟩ | ⟨rfl, S, n, hk⟩
    · obtain ⟨its, _, pl, _⟩ := I.list hq
      refine ⟨pl.isList.typeIs, fun a e => ?_⟩
      cases e
      obtain ⟨o, n, e, c, hd, _⟩ := pl
      exact ⟨o, e, hd⟩
    · refine ⟨⟨o, I.kIn p o hk, hc⟩, fun a e => ?_⟩
      cases e
      exact ⟨o, I.kIn _ o hk, hd⟩
    · have z : ∃ o, s.heap.get? p = some o ∧ o.ExactDict := by
        rcases hk with ⟨kvs, hk⟩ | ⟨kvs, hk⟩
        · obtain ⟨_, _, _, _, o, _, _, e, ex, _⟩ := I.hok p _ hk
          exact ⟨o, e, ex⟩
        · obtain ⟨_, _, _, _, o, _, _, e, ex, _⟩ := I.hok p _ hk
          exact ⟨o, e, ex⟩
      obtain ⟨o, e, ex⟩ := z
      refine ⟨⟨o, e, ex.1⟩, fun a e2 => ?_⟩
      cases e2
      exact ⟨o, e, ex.2.1⟩
    · obtain ⟨o, _, _, _, e, ex, _⟩ := I.hok p _ hk
      refine ⟨⟨o, e, ex.1⟩, fun a e2 => ?_⟩
      cases e2
      exact ⟨o, e, ex.2.1⟩
  | _ => exact False.elim ty
def tBM (K : PySem.W.Frag) (T : String) (r : V → List V → Hp → VK → Prop) (to : TE) (t : TA) : TE := fun σ H Q => to σ H fun x H1 => tyV K T x H1 ∧ t σ H1 fun xs H2 => r x xs H2 Q
variable {o e : Expr} {es : List Expr} {to : TE} {t : TA} {name : Str} {apos cpos : Pos} {T id : String} {r : V → List V → Hp → VK → Prop}
theorem pe_bm (pa : PlainAttrs T) (slot : Slot T name id) (hty : typeOf (.builtin id) = pure (.type "method_descriptor")) (hm : MtR X id r) (ho : PE X o to) (ha : PA X (e :: es) t)
    (hbase : attributeBase o name X.env (eval o X.env) = eval o X.env := by rfl)
    (hfew : ((backTo cpos (starEach (e :: es) X.env)).all (fun x => !x.1) && (backToKw cpos (keywordEach [] X.env)).all (fun x => x.1.isSome)
      && decide ((e :: es).length + ([] : List Keyword).length + (if ([] : List Keyword).isEmpty then 0 else 1) < 30)) = true := by rfl)
    (hline : (apos.endLine == cpos.line) = true := by rfl) (hs : starEach (e :: es) X.env = (false, eval e X.env) :: starEach es X.env := by rfl) (hplain : (backTo cpos (starEach es X.env)).any (·.1) = false := by rfl) :
    PE X (.Call (.Attribute o name apos) (e :: es) [] cpos) (tBM X.K T r to t) := by
  intro pins s σ H Q I h
  refine wpAny_Call_method_late hbase hfew hline rfl (thn (ho pins s σ H _ I h) fun v s1 ⟨x, H1, I1, r1, ty, q1⟩ => ?_)
  obtain ⟨h1, h2⟩ := tyV_is I1 r1 ty
  refine ⟨T, id, pa, slot, hty, h1, h2, ?_⟩
  have hA := ha cpos pins s1 σ H1 _ I1 q1
  rw [hs] at hA ⊢
  refine Calls.callWith_builtin (by show (false || (backTo cpos (starEach es X.env)).any (·.1)) = false; rw [hplain] <;> rfl) (Calls.evalArgs_plain ?_)
  exact thn hA fun us s2 ⟨vs, H2, I2, r2, q2⟩ => hm pins s2 σ H2 x vs v us Q I2 r1 r2 q2
/- xs.append(e), list.index on a module's tuple .. are MtR facts of 06m -/
end
end L2

namespace L2
open PySem PySem.Spec PyProof.Rows

def MtM (X : Cx) (id : String) (r : V → List V → Hp → VK → Prop) : Prop :=
  ∀ (pins : List (Addr × Obj)) (s : Shared) (σ : St) (H : Hp) (x : V) (xs : List V) (v : Value) (us : List Value) (Q : VK), Inv X pins σ H s → RelV x v → Vals xs us → r x xs H Q →
    wpAny (model X.prog X.w) X.A (call (.builtin id) (v :: us)) (EP X pins σ Q) X.xe s

theorem Vals.one : ∀ {x : V} {us : List Value}, Vals [x] us → ∃ u, us = [u] ∧ RelV x u
  | _, _, .cons r .nil => ⟨_, rfl, r⟩
theorem Vals.dropLast {xs : List V} {us : List Value} (h : Vals xs us) : Vals xs.dropLast us.dropLast := by
  induction h with
  | nil => exact .nil
  | cons r t ih =>
    cases t with
    | nil => exact .nil
    | cons q t' => exact .cons r ih
theorem erase_last {α : Type} (l : List α) : l.eraseIdx (l.length - 1) = l.dropLast := by
  induction l with
  | nil => rfl
  | cons a r ih =>
    cases r with
    | nil => rfl
    | cons b r =>
      have e : (a :: b :: r).length - 1 = ((b :: r).length - 1) + 1 := by
        have h1 : (a :: b :: r).length = r.length + 2 := rfl
        have h2 : (b :: r).length = r.length + 1 := rfl
        omega
      rw [e, List.eraseIdx_cons_succ, ih]
      all_goals rfl
section
variable {X : Cx} {pins : List (Addr × Obj)} {σ : St} {H : Hp} {s : Shared} {l b : Addr} {xs ys zs : List V}

theorem Inv.lset {its its' : List Value} {n : Nat} {f : Array Value → Array Value} {t' : Nat} (I : Inv X pins σ H s) (hH : H l = some (.lst xs))
    (e : s.heap.get? l = some { cls := .type "list", data := .seq its.toArray n }) (hf : f its.toArray = its'.toArray) (hv : Vals ys its') (hz : ys.length ≤ sizeLine) :
    Inv X pins σ (upd H l (.lst ys)) { s with heap := s.heap.update l (Obj.mapSeq f), toks := t' } := by
  have q := PySem.IsL.update e f
  rw [hf] at q
  refine I.write (x := l) (e := l) (by rw [hH]; exact trivial) (.inl rfl) (fun b' u hb hu => (Heap.get?_update_other s.heap (Obj.mapSeq f) (Ne.symm hb)).trans hu) ⟨_, q⟩ ?_
  exact ⟨hz, its', _, hv, q⟩
theorem Inv.lnew {its : List Value} {t' : Nat} (I : Inv X pins σ H s) (hv : Vals ys its) (hz : ys.length ≤ sizeLine) :
    Inv X pins σ (upd H s.heap.objs.size (.lst ys)) { s with heap := s.heap.push { cls := .type "list", data := .seq its.toArray }, toks := t' } :=
  I.laid (fun _ _ q => Heap.get?_push_of_some _ q) (Nat.le_refl _) ⟨hz, its, 0, hv, Heap.get?_push_size _ rfl⟩
theorem Inv.fresh (I : Inv X pins σ H s) : H s.heap.objs.size = none := I.hok.fresh (Nat.le_refl _)
theorem Inv.lstM (I : Inv X pins σ H s) (hH : H l = some (.lst xs)) : xs.length ≤ sizeLine ∧ ∃ (its : List Value) (n : Nat), Vals xs its ∧ xs.length = its.length ∧ s.heap.get? l = some { cls := .type "list", data := .seq its.toArray n } := by
  obtain ⟨z, its, n, r, e⟩ := I.hok l _ hH
  exact ⟨z, its, n, r, r.length, e⟩

theorem notLongL {n : Nat} (h : n ≤ sizeLine) : Builtin.List.listTooLong n = false := by
  unfold Builtin.List.listTooLong
  exact decide_eq_false (by omega)
end

section
variable {X : Cx}

def rAppend : V → List V → Hp → VK → Prop := fun x vs H Q => ∃ l xs y, x = .ref l ∧ vs = [y] ∧ H l = some (.lst xs) ∧ xs.length < sizeLine ∧ Q .non (upd H l (.lst (xs ++ [y])))
theorem mt_append : MtM X "list.append" rAppend := by
  intro pins s σ H x vs v us Q I rx rv h
  obtain ⟨l, xs, y, rfl, rfl, hH, hz, q⟩ := h
  cases rx
  obtain ⟨u, rfl, ru⟩ := rv.one
  obtain ⟨z, its, n, r, hl, e⟩ := I.lstM hH
  refine call_meets F.slot_list_append ⟨_, e, rfl⟩ F.entry_list_append (F.args_list_append_2 _ _) (PySem.list_append l its.toArray n u (by rw [List.size_toArray]; omega)) ⟨e, ?_⟩
  refine ⟨.non, _, I.lset (its' := its ++ [u]) hH e (by simp) (r.append (.cons ru .nil)) ?_, rfl, q⟩
  rw [List.length_append, List.length_singleton]
  omega

def rExtend : V → List V → Hp → VK → Prop := fun x vs H Q => ∃ l b xs zs, x = .ref l ∧ vs = [.ref b] ∧ H l = some (.lst xs) ∧ H b = some (.lst zs) ∧ xs.length + zs.length ≤ sizeLine ∧ Q .non (upd H l (.lst (xs ++ zs)))
theorem mt_extend : MtM X "list.extend" rExtend := by
  intro pins s σ H x vs v us Q I rx rv h
  obtain ⟨l, b, xs, zs, rfl, rfl, hH, hB, hz, q⟩ := h
  cases rx
  obtain ⟨u, rfl, ru⟩ := rv.one
  cases ru
  obtain ⟨z, its, n, r, hl, e⟩ := I.lstM hH
  obtain ⟨z2, its2, n2, r2, hl2, e2⟩ := I.lstM hB
  have hsz : its.toArray.size + its2.toArray.size ≤ sizeLine := by rw [List.size_toArray, List.size_toArray]; omega
  have hlong : ¬ (!its.toArray.isEmpty && Builtin.List.listTooLong (its.toArray.size + its2.toArray.size)) = true := by
    rw [notLongL hsz, Bool.and_false]
    exact Bool.false_ne_true
  refine call_meets F.slot_list_extend ⟨_, e, rfl⟩ F.entry_list_extend (F.args_list_extend_2 _ _)
    (AutoSeq1.list_extend_list_list_0 l its.toArray n b its2.toArray n2 hlong (by rw [List.size_toArray]; omega) (by omega)) ⟨e, e2, ?_⟩
  refine ⟨.non, _, I.lset (its' := its ++ its2) hH e (by simp) (r.append r2) ?_, rfl, q⟩
  rw [List.length_append]
  omega

def rCat : R2 := fun x y H Q => ∃ l b xs zs, x = .ref l ∧ y = .ref b ∧ H l = some (.lst xs) ∧ H b = some (.lst zs) ∧ xs.length + zs.length ≤ sizeLine ∧ ∀ p, H p = none → Q (.ref p) (upd H p (.lst (xs ++ zs)))
theorem op_cat : OpR X (binaryOp .Add) rCat := by
  intro pins s σ H x y v u Q I rx ry h
  obtain ⟨l, b, xs, zs, rfl, rfl, hH, hB, hz, q⟩ := h
  cases rx
  cases ry
  obtain ⟨z, its, n, r, hl, e⟩ := I.lstM hH
  obtain ⟨z2, its2, n2, r2, hl2, e2⟩ := I.lstM hB
  refine PySem.P.add_list e e2 ?_ (by rw [List.size_toArray, List.size_toArray]; omega)
  have ea : its.toArray ++ its2.toArray = (its ++ its2).toArray := by simp
  rw [ea]
  exact ⟨.ref _, _, I.lnew (t' := s.toks) (r.append r2) (by rw [List.length_append]; omega), rfl, q _ I.fresh⟩
end

section
variable {prog : Program} {w : World} {A : Around} {E : Value → Shared → Prop} {s : Shared}
end

section
variable {X : Cx}
end
end L2

namespace Att
open PySem PySem.W PySem.Calls PyProof.Rows

theorem ints_of_wellAll {P : Params} {h : Heap} : ∀ (ns : List Int) (vs : List Value), WellAll P h vs (ns.map WData.int) → IntsAre vs ns := by
  intro ns
  induction ns with
  | nil =>
    intro vs w
    rw [List.map_nil] at w
    cases w
    exact .nil
  | cons n ns ih =>
    intro vs w
    rw [List.map_cons] at w
    cases w with
    | cons a b =>
      cases a
      exact .cons _ _ (ih _ b)

theorem script_of {l : OpenLaw} {n : Nat} (hn : l.most = some n) {P : Params} {h : Heap} {args : List WData} {vals : List Value}
    (hpre : l.row.toRowW.claim.pre args = true) (hwl : WellAll P h vals args) :
    ∃ a vs ns, vals = [Value.ref a] ∧ args = [WData.list (ns.map WData.int)] ∧ h.get? a = some { cls := .type "list", data := .seq vs.toArray } ∧ IntsAre vs ns ∧ ns.length ≤ n := by
  have hsh : WShape.hasAll [] args [.list .int] = true := (pre_splitW hpre).1
  have hc : l.pre.holds [] { args := args } = true := (pre_splitW hpre).2
  obtain ⟨d, r, rfl, h1, h2⟩ := hasAllW_cons hsh
  obtain rfl := hasAllW_nil h2
  obtain ⟨xs, rfl, h3⟩ := hasW_list h1
  obtain ⟨ns, rfl⟩ := items_int h3
  have hlen : ns.length ≤ n := by
    unfold OpenLaw.pre at hc
    have h4 : (WTm.not (.lt (.lit (.int (n : Int))) (.len (.arg 0)))).holds [] { args := [.list (ns.map .int)] } = true := by
      have h4 := (holds_andW hc).1
      rw [hn] at h4
      exact h4
    have h5 := condW_of h4 (w_not (w_lt w_lit (w_len_list (w_arg rfl))))
    rw [List.length_map] at h5
    refine Nat.le_of_not_lt fun q => ?_
    have q' : (n : Int) < ((ns.length : Nat) : Int) := by omega
    first
      | (rw [decide_eq_true q'] at h5; exact absurd h5 (by decide))
      | (simp at h5; omega)
  cases hwl with
  | cons w1 w2 =>
    cases w2
    cases w1 with
    | list ho hall => exact ⟨_, _, ns, rfl, rfl, ho, ints_of_wellAll ns _ hall, hlen⟩

theorem post_true (l : OpenLaw) (args : List WData) : l.row.toRowW.claim.post args (.bool true) args = true :=
  postW_of (r := l.row.toRowW) (X := (true == true))
    (show WShape.has [] (.bool true) .bool = true by first | rfl | decide | simp [WShape.has, WShape.arms, WShape.armsAll])
    (show (WTm.eq .res (.lit (.bool true))).value [] { args := args, res := some (.bool true), after := args } = some (.bool (true == true)) from w_eq_bool (w_res rfl) w_lit) rfl

theorem attach_call {l : OpenLaw} {n : Nat} {q : Program} {loose : List Str} {XP : (Str → Option Value) → Heap → Prop} {YP : World → Heap → Prop} {d : DefRec}
    (hn : l.most = some n) (hdf : d.params.defaults = [])
    (call : ∀ (w : World) (s₀ s₁ : Shared) (mg mb : Str → Option Value) (fa : Addr) (o : Obj) (pm cd doc : Value) (a : Addr) (vs : List Value) (ns : List Int),
      Ground q loose [] XP w s₀ mg mb s₁.heap → YP w s₁.heap →
      s₁.heap.get? fa = some o → o.data = .func (docDef d.name d.params d.body d.scope pm cd doc) → s₁.heap.CodeRec cd d.name → mg d.name = some (.ref fa) →
      s₁.heap.get? a = some { cls := .type "list", data := .seq vs.toArray } → IntsAre vs ns → ns.length ≤ n → s₁.gens = #[] →
      codeAny (model l.prog w) callerA (.call (.ref fa) ⟨[.ref a], []⟩) (fun r s' => r = .ok (.ret (.bool true)) ∧ OldK s₁.heap s'.heap ∧ s'.os = s₁.os ∧ AllBare s'.gens) s₁) :
    WalkO q loose XP YP l.row.toRowW d [] (fun f vs => PySem.call f vs) := by
  intro w s₀ s₁ mg mb G Y fa o pm cd doc dV kV ho hd hcd hD hmg hg args vals as hpre hlay hrd hwl hlo
  obtain rfl : dV = .none := Dflts.none hD hdf
  obtain rfl : kV = .none := Dflts.noKw hD
  obtain ⟨a, vs, ns, rfl, rfl, hobj, hints, hlen⟩ := script_of hn hpre hwl
  refine enter_call (codeAny_mono (call w s₀ s₁ mg mb fa o pm cd doc a vs ns G Y ho (fd_plain hd) hcd hmg hobj hints hlen hg) fun r s' hq => ?_)
  obtain ⟨rfl, h2, h3, h4⟩ := hq
  exact ⟨.inl ⟨.bool true, .bool true, [], rfl, fun _ => rfl, .bool true, post_true l _, fun _ => ⟨List.Pairwise.nil, fun _ hm => (nomatch hm)⟩⟩, h2, h3, h4⟩

section
variable {prog : Program} {w : World} {A : Around} {E : Value → Shared → Prop} {s : Shared} {K : Frag}

def ledger (h : Heap) (L d : Addr) : List (Addr × Obj) := (List.range h.objs.size).filterMap fun a => if a = L ∨ a = d then none else (h.get? a).map fun o => (a, o)
end
end Att

namespace L2
open PySem PySem.Spec PyProof.Rows

theorem vals_ints : ∀ {vs : List Value} {ns : List Int}, IntsAre vs ns → Vals (ns.map V.int) vs
  | _, _, .nil => .nil
  | _, _, .cons n t h => .cons ⟨t, rfl⟩ (vals_ints h)

def Only (H : Hp) : Prop := ∀ b, H b = none ∨ ∃ o xs, H b = some (.frz o (.lst xs))

theorem law_call {P : Program} {w : World} {K : PySem.W.Frag} {mg mb : Str → Option Value} {CX : CXT} {k : Nat} {fa a : Addr} {fd : FuncData} {x : Str} {sp : Sp} {s₁ : Shared} {vs : List Value} {ns : List Int}
    (KX : K.In s₁.heap) (hns : s₁.heap.Ns mainGlobals mg) (hb : s₁.heap.Ns builtinsNs mb) (hbb : ∀ x : Str, x ≠ "__name__" → mb x = bootBuiltins x) (hlim : s₁.heap.NoLimit) (hg : s₁.gens = #[])
    (ha : s₁.heap.get? a = some { cls := .type "list", data := .seq vs.toArray }) (hi : IntsAre vs ns) (hl : ns.length ≤ sizeLine) (hr : Room k callerA)
    (F : ∀ base : Heap, K.In base → base.Ns mainGlobals mg → FnOk P w K mg base CX k fa fd [x] sp) (hbind : ∀ (s : Shared) (u : Value), BindsTo s fd ⟨[u], []⟩ [(x, u)])
    (hsp : ∀ H : Hp, Only H → SqL K H a (ns.map V.int) → sp [.ref a] H (fun v _ => v = .bl true) fun _ _ _ => False)
    (hCX : ∀ H e s', CX [] H s₁ (fun _ _ _ => False) e s' → False) :
    codeAny (model P w) callerA (.call (.ref fa) ⟨[.ref a], []⟩) (fun r s' => r = .ok (.ret (.bool true)) ∧ OldK s₁.heap s'.heap ∧ s'.os = s₁.os ∧ AllBare s'.gens) s₁ := by
  have rv := vals_ints hi
  have lenV := hi.length
  -- from an abstract heap in which nothing but the script may be tracked
  have core : ∀ H : Hp, Only H → SqL K H a (ns.map V.int) → HOk P w H s₁.heap → (∀ b, H b ≠ none → b = a) → (H a ≠ none → K.lookup a = none) →
      codeAny (model P w) callerA (.call (.ref fa) ⟨[.ref a], []⟩) (fun r s' => r = .ok (.ret (.bool true)) ∧ OldK s₁.heap s'.heap ∧ s'.os = s₁.os ∧ AllBare s'.gens) s₁ := by
    intro H hO hS hok hA hK
    have base_of : ∀ {b : Addr} {o : Obj}, s₁.heap.get? b = some o → H b = none → (hidT s₁.heap H).get? b = some o := fun e n => hidT_get e n
    have noA : ∀ {b : Addr} {o : Obj} {es : Array DictEntry} {ep : Nat}, s₁.heap.get? b = some o → o.data = .dict es ep → H b = none := fun {b o es ep} e d => by
      cases q : H b with
      | none => rfl
      | some u =>
        have e' : b = a := hA b (by rw [q]; simp)
        subst e'
        rw [ha] at e; cases e
        have d' : Data.seq vs.toArray _ = Data.dict es ep := d
        cases d'
    have nsK : ∀ {b : Addr} {m : Str → Option Value}, s₁.heap.Ns b m → (hidT s₁.heap H).Ns b m := fun {b m} ⟨o, es, ep, e, d, r⟩ => ⟨o, es, ep, base_of e (noA e d), d, r⟩
    have hKb : K.In (hidT s₁.heap H) := fun b o e => base_of (KX b o e) (by
      cases q : H b with
      | none => rfl
      | some u =>
        have e' : b = a := hA b (by rw [q]; simp)
        subst e'
        rw [hK (by rw [q]; simp)] at e; cases e)
    have hM : Mod K mg (hidT s₁.heap H) := ⟨hKb, nsK hns, ⟨mb, nsK hb, hbb⟩, let ⟨mc, h1, h2⟩ := hlim; ⟨mc, nsK h1, h2⟩⟩
    have e0 : Env0 P w K mg (hidT s₁.heap H) callerA [] s₁ H := ⟨rfl, hM, fun b o e => of_hidT e, Nat.le_of_eq (hidT_size _ _), trivial, fun b hb => absurd (show b ∈ ([] : List Addr) from hb) (by simp), hok, .of_eq hg⟩
    refine codeAny_mono ((F _ hKb (nsK hns)).run callerA [] s₁ H ⟨[.ref a], []⟩ [.ref a] [.ref a] _ _ hr e0 (hbind s₁ (.ref a)) (.cons rfl .nil) (hsp H hO hS)) fun r s' h => ?_
    cases r with
    | error e => exact (hCX H e s' h).elim
    | ok fl =>
      cases fl with
      | next => exact False.elim h
      | brk => exact False.elim h
      | cont => exact False.elim h
      | ret u =>
        obtain ⟨v, H', os, bare, un, hok', r', q⟩ := h
        have q' : v = .bl true := q
        subst q'
        obtain rfl : u = Value.bool true := r'
        refine ⟨rfl, OldK.of_keep fun b o e => ?_, os, bare⟩
        cases q : H b with
        | none => exact un.keep b o e q (by intro z; exact absurd (show b ∈ ([] : List Addr) from z) (by simp)) (by simp)
        | some u =>
          rcases hO b with z | ⟨ob, xs, z⟩
          · rw [q] at z; cases z
          · have z2 := un.frzs b ob _ z
            obtain ⟨e1, _⟩ := hok b _ z
            obtain ⟨e2, _⟩ := hok' b _ z2
            rw [e] at e1; cases e1
            exact e2
  cases hk : K.lookup a with
  | some o =>
    -- the script is one of the module's own objects
    have e := KX a o hk
    rw [ha] at e
    cases e
    refine core (fun _ => none) (fun _ => .inl rfl) (.inr ⟨_, vs.toArray, _, hk, rfl, rfl, rfl, by rw [List.size_toArray, lenV]; exact hl, by simpa using rv⟩) (fun b u z => by have z' : (none : Option HO) = some u := z; cases z') (fun b z => absurd rfl z) fun z => absurd rfl z
  | none =>
    refine core (fun b => if b = a then some (.frz { cls := .type "list", data := .seq vs.toArray } (.lst (ns.map V.int))) else none) (fun b => ?_) (.inl (.inr ⟨{ cls := .type "list", data := .seq vs.toArray }, if_pos rfl⟩)) (fun b u z => ?_) (fun b z => ?_) fun _ => hk
    · by_cases hb : b = a
      · exact .inr ⟨_, _, if_pos hb⟩
      · exact .inl (if_neg hb)
    · by_cases hb : b = a
      · have z' := (if_pos hb).symm.trans z
        cases z'
        subst hb
        exact ⟨ha, by rw [List.length_map]; exact hl, vs, _, rv, ha⟩
      · have z' := (if_neg hb).symm.trans z
        cases z'
    · by_cases hb : b = a
      · exact hb
      · exact absurd (if_neg hb) z
end L2

namespace L2
open PySem PySem.Spec PyProof.Rows

abbrev KOf {K : PySem.W.Frag} {h : Heap} (_ : K.In h) : PySem.W.Frag := K

theorem walk_of {l : PySem.W.OpenLaw} {n k : Nat} {q : Program} {loose : List Str} {XP : (Str → Option Value) → Heap → Prop} {YP : World → Heap → Prop} {d : DefRec} {K : Params → PySem.W.Frag} {CX : World → CXT} {sp : World → Sp} {x : Str}
    (hn : l.most = some n) (hn2 : n ≤ sizeLine) (hdf : d.params.defaults = []) (hr : Room k callerA)
    (hY : ∀ (w : World) (h : Heap), YP w h → (K w.params).In h)
    (F : ∀ (w : World) (mg : Str → Option Value) (fa : Addr) (h : Heap), (K w.params).In h → h.Ns mainGlobals mg → mg d.name = some (.ref fa) →
      ∃ fd : FuncData, (∀ (s : Shared) (u : Value), BindsTo s fd ⟨[u], []⟩ [(x, u)]) ∧
        ∀ base : Heap, (K w.params).In base → base.Ns mainGlobals mg → FnOk l.prog w (K w.params) mg base (CX w) k fa fd [x] (sp w))
    (hsp : ∀ (w : World) (H : Hp) (a : Addr) (ns : List Int), ns.length ≤ n → Only H → SqL (K w.params) H a (ns.map V.int) → sp w [.ref a] H (fun v _ => v = .bl true) fun _ _ _ => False)
    (hCX : ∀ (w : World) (H : Hp) (s : Shared) (e : Value) (s' : Shared), CX w [] H s (fun _ _ _ => False) e s' → False) :
    PySem.W.WalkO q loose XP YP l.row.toRowW d [] (fun f vs => PySem.call f vs) := by
  refine Att.attach_call hn hdf fun w s₀ s₁ mg mb fa o pm cd doc a vs ns G Y ho hd hcd hmg hobj hints hlen hg => ?_
  have KX := hY w _ Y
  obtain ⟨fd, hb, hF⟩ := F w mg fa _ KX G.T.g hmg
  exact law_call KX G.T.g G.T.b G.T.builtins G.T.nolimit hg hobj hints (Nat.le_trans hlen hn2) hr hF hb (fun H hO hS => hsp w H a ns hlen hO hS) fun H e s' => hCX w H s₁ e s'
theorem walk_ofK {l : PySem.W.OpenLaw} {n k : Nat} {q : Program} {loose : List Str} {XP : (Str → Option Value) → Heap → Prop} {YP : World → Heap → Prop} {d : DefRec} {K : Params → PySem.W.Frag} {CX : CXT} {sp : PySem.W.Frag → Sp} {x : Str}
    (hn : l.most = some n) (hn2 : n ≤ sizeLine) (hdf : d.params.defaults = []) (hr : Room k callerA)
    (hY : ∀ (w : World) (h : Heap), YP w h → (K w.params).In h)
    (F : ∀ (w : World) (mg : Str → Option Value) (fa : Addr) (h : Heap), (K w.params).In h → h.Ns mainGlobals mg → mg d.name = some (.ref fa) →
      ∃ fd : FuncData, (∀ (s : Shared) (u : Value), BindsTo s fd ⟨[u], []⟩ [(x, u)]) ∧
        ∀ base : Heap, (K w.params).In base → base.Ns mainGlobals mg → FnOk l.prog w (K w.params) mg base CX k fa fd [x] (sp (K w.params)))
    (hsp : ∀ (K : PySem.W.Frag) (H : Hp) (a : Addr) (ns : List Int), ns.length ≤ n → Only H → SqL K H a (ns.map V.int) → sp K [.ref a] H (fun v _ => v = .bl true) fun _ _ _ => False)
    (hCX : ∀ (H : Hp) (s : Shared) (e : Value) (s' : Shared), CX [] H s (fun _ _ _ => False) e s' → False) :
    PySem.W.WalkO q loose XP YP l.row.toRowW d [] (fun f vs => PySem.call f vs) :=
  walk_of (K := K) (CX := fun _ => CX) (sp := fun w => sp (K w.params)) hn hn2 hdf hr hY F (fun w H a ns h1 h2 h3 => hsp (K w.params) H a ns h1 h2 h3) fun _ H s e s' => hCX H s e s'
end L2

/- THE LAST THEOREM (shape; LID, My.* are yours):
   My.Adr: a structure of the addresses that your layer names (classes, functions); My.Txt K t: a structure (Prop) of the equations over K;
   My.txt_mk : {K} {implicit addresses ..} (e1 : nsIn K mainGlobals "law" = some (some (.ref f))) (e2 : K.lookup f = some ⟨oc, od, .func (fnOf "law" "law" params body scope dV kV doc pm an cdv ct), sl⟩) (e3 : codeIn K cdv "law" = true) .. : ∃ t, My.Txt K t

set_option maxRecDepth 100000 in
set_option maxHeartbeats 0 in
theorem PySem.Challenge.cw_LID_holds : PySem.Challenge.rw_LID.Holds := by
  w_on; o_law; k_head; (case hw => w_witness2)
  k_fill
  refine L2.walk_of (l := PySem.Challenge.rw_LID) (n := 63) (k := 40) (x := "script") (CX := fun w => ..) (sp := fun _ => My.sp_law) rfl (by decide) rfl ⟨rfl, by decide, by decide⟩ (fun w h Y => PySem.W.kIn_of Y) ?F ?S ?C
  case F =>
    intro w mg fa h KX G hmg
    have T : ∃ t, My.Txt (L2.KOf KX) t := by
      dsimp only [L2.KOf]                          -- K must stand as «<heap const> w.params» for k_is
      refine' My.txt_mk ?e1 ?e2 ?e3 ..
      (case e1 => PySem.W.k_is)                    -- in the order: a name -> its address -> its object -> its parts
      (case e2 => PySem.W.k_is)
      ..
    obtain ⟨t, T⟩ := T
    have e0 := hmg.symm.trans (PySem.W.mg_of KX G T.law)
    cases e0                                       -- fa is the law's own address
    exact ⟨_, fun s u => .of_eq rfl, fun base kb nb => My.law_fn T kb nb⟩     -- if «.of_eq rfl» comes too early: refine' ⟨_, ?b, fun base kb nb => My.law_fn T kb nb⟩; exact fun s u => .of_eq rfl
  case S => exact fun w H a ns hl hO hS => ..
  case C => exact ..
(the tactic k_is has no namespace: write k_is) -/

namespace L2
open PySem PySem.Spec PyProof.Rows

def inClass (s : Stmt) (j : Nat) : Stmt := match s with
  | .ClassDef _ _ _ body _ _ _ _ _ _ _ => body.getD j (.Pass ⟨0, 0, 0, 0⟩)
  | _ => .Pass ⟨0, 0, 0, 0⟩
def defArgs (s : Stmt) : Arguments := match s with
  | .FunctionDef _ a _ _ _ _ _ _ _ _ => a
  | _ => { posonlyargs := [], args := [], vararg := none, kwonlyargs := [], kw_defaults := [], kwarg := none, defaults := [] }
def defBody (s : Stmt) : List Stmt := match s with
  | .FunctionDef _ _ b _ _ _ _ _ _ _ => b
  | _ => []
def defScope (s : Stmt) : Scope := match s with
  | .FunctionDef _ _ _ _ _ _ sc _ _ _ => sc
  | _ => { kind := .function, names := [], isGenerator := false, isCoroutine := false }

abbrev CX0 : CXT := fun _ _ _ _ _ _ => False
abbrev E0 : XK := fun _ _ _ => False
theorem pass0 {X : Cx} : Passes CX0 X E0 := fun _ _ _ _ _ _ _ h => h.elim

structure Fun (K : PySem.W.Frag) (x qual : Str) (st : Stmt) (f : Addr) (fd : FuncData) : Prop where
  ex : ∃ (oc : Value) (od : Option Addr) (kV doc pm : Value) (an : Option Addr) (cdv ct : Value) (osl : Array (Option Value)),
    fd = PySem.W.fnOf x qual (defArgs st) (defBody st) (defScope st) .none kV doc pm an cdv ct ∧ K.lookup f = some ⟨oc, od, .func fd, osl⟩ ∧ PySem.W.codeIn K cdv qual = true
  kp : PySem.W.keepIn K (.ref f) = true
section
variable {P : Program} {w : World} {K : PySem.W.Frag} {mg : Str → Option Value} {base : Heap}
theorem Fun.ok {x qual : Str} {st : Stmt} {f : Addr} {fd : FuncData} {N ps : List Str} {k : Nat} {sp : Sp} (F : Fun K x qual st f fd) (S : FnScope N ps (defScope st)) (len : ∀ vs H Q E, sp vs H Q E → vs.length = ps.length)
    (hbody : ∀ (cdv : Value) (A : Around) (outer : List Env) (s : Shared) (H : Hp) (vs : List V) (Q : VK) (E : XK), Room k (A.deeper (envOfC qual (defScope st) s.heap.objs.size f cdv)) → sp vs H Q E →
      ∃ t, PSs (cxOf CX0 P w K mg base N qual (defScope st) f cdv A outer s H E).nox (defBody st) t ∧ t { nx := fun _ H' => Q .non H', rt := Q } (start N vs) H) : FnOk P w K mg base CX0 (k + 1) f fd ps sp := by
  obtain ⟨oc, od, kV, doc, pm, an, cdv, ct, osl, rfl, lk, hcd⟩ := F.ex
  refine fn_of lk hcd S len fun A outer s H vs Q E hr hsp => ?_
  obtain ⟨t, h, q⟩ := hbody cdv A outer s H vs Q E hr hsp
  exact ⟨t, h.nox, q⟩
theorem Fun.binds {x qual : Str} {st : Stmt} {f : Addr} {fd : FuncData} {ps : List Str} (F : Fun K x qual st f fd)
    (h : ∀ (kV doc pm : Value) (an : Option Addr) (cdv ct : Value) (us : List Value), us.length = ps.length → bindArgs (PySem.W.fnOf x qual (defArgs st) (defBody st) (defScope st) .none kV doc pm an cdv ct) ⟨us, []⟩ = pure (ps.zip us)) : Binds K fd ps [] := by
  obtain ⟨oc, od, kV, doc, pm, an, cdv, ct, osl, rfl, lk, hcd⟩ := F.ex
  exact .all (h kV doc pm an cdv ct)
theorem fun_mk {x qual : Str} {st : Stmt} {f : Addr} {oc : Value} {od an : Option Addr} {osl : Array (Option Value)} {kV doc pm cdv ct : Value} (l : K.lookup f = some ⟨oc, od, .func (PySem.W.fnOf x qual (defArgs st) (defBody st) (defScope st) .none kV doc pm an cdv ct), osl⟩)
    (c : PySem.W.codeIn K cdv qual = true) (k : PySem.W.keepIn K (.ref f) = true) : Fun K x qual st f (PySem.W.fnOf x qual (defArgs st) (defBody st) (defScope st) .none kV doc pm an cdv ct) := ⟨⟨oc, od, kV, doc, pm, an, cdv, ct, osl, rfl, l, c⟩, k⟩
end
theorem small1000 {n : Nat} (h : n ≤ 1000) : n < sizeLine := Nat.lt_of_le_of_lt h (by decide)

section
variable {X : Cx}
theorem pv (i : Nat) {x : Str} {pos : Pos} (hN : X.N[i]? = some x := by rfl) (hv : Vis X.env.scope x := by first | exact Or.inl rfl | exact Or.inr (Or.inl rfl) | exact Or.inr (Or.inr rfl)) (hd : (x == ("__debug__" : Str)) = false := by decide)
    (hcd : (x == ("__classdict__" : Str)) = false := by decide) : PE X (.Name x pos) (tVar i) := pe_var hN hv hd hcd
end

theorem iteF {A B : Prop} (h : B) : if false = true then A else B := by
  rw [if_neg Bool.false_ne_true]
  exact h
theorem iteT {A B : Prop} (h : A) : if true = true then A else B := by
  rw [if_pos rfl]
  exact h
end L2


set_option linter.all false
set_option maxRecDepth 100000
set_option maxHeartbeats 4000000
namespace U
open PySem PySem.Spec PyProof.Rows L2
inductive PV where
  | non | bl (b : Bool) | int (i : Int) | str (x : Str) | ref (a : Addr) | tup (l : List PV) | fls (l : List PV) | oth (v : V)
def FzL (K : PySem.W.Frag) (H : Hp) (a : Addr) (xs : List V) : Prop :=
  (∃ o, H a = some (.frz o (.lst xs))) ∨
    ∃ (o : Obj) (its : Array Value) (n : Nat), K.lookup a = some o ∧ o.cls = .type "list" ∧ o.dict = none ∧ o.data = .seq its n ∧ its.size ≤ sizeLine ∧ Vals xs its.toList
theorem FzL.sq {K : PySem.W.Frag} {H : Hp} {a : Addr} {xs : List V} (h : FzL K H a xs) : SqL K H a xs := by
  rcases h with h | h
  · exact .inl (.inr h)
  · exact .inr h
structure Kp (H H1 : Hp) : Prop where
  t : ∀ a us, H a = some (.tup us) → H1 a = some (.tup us)
  z : ∀ a o u, H a = some (.frz o u) → H1 a = some (.frz o u)
theorem Kp.sqT {K : PySem.W.Frag} {H H1 : Hp} (k : Kp H H1) {a : Addr} {us : List V} (h : SqT K H a us) : SqT K H1 a us := by
  rcases h with (h | ⟨o, h⟩) | h
  · exact .inl (.inl (k.t _ _ h))
  · exact .inl (.inr ⟨o, k.z _ _ _ h⟩)
  · exact .inr h
theorem Kp.fzL {K : PySem.W.Frag} {H H1 : Hp} (k : Kp H H1) {a : Addr} {us : List V} (h : FzL K H a us) : FzL K H1 a us := by
  rcases h with ⟨o, h⟩ | h
  · exact .inl ⟨o, k.z _ _ _ h⟩
  · exact .inr h
section
variable (K : PySem.W.Frag)
mutual
def RP (H : Hp) : PV → V → Prop
  | .non, v => v = .non
  | .bl b, v => v = .bl b
  | .int i, v => v = .int i
  | .str x, v => v = .str x
  | .ref a, v => v = .ref a
  | .oth w, v => v = w
  | .tup l, v => ∃ a us, v = .ref a ∧ SqT K H a us ∧ RPs H l us
  | .fls l, v => ∃ a us, v = .ref a ∧ FzL K H a us ∧ RPs H l us
def RPs (H : Hp) : List PV → List V → Prop
  | [], us => us = []
  | x :: l, us => ∃ u r, us = u :: r ∧ RP H x u ∧ RPs H l r
end
mutual
theorem RP.kp {H H1 : Hp} (k : Kp H H1) : ∀ {x : PV} {v : V}, RP K H x v → RP K H1 x v
  | .non, _, h => h
  | .bl _, _, h => h
  | .int _, _, h => h
  | .str _, _, h => h
  | .ref _, _, h => h
  | .oth _, _, h => h
  | .tup l, v, h => by
    simp only [RP] at h ⊢
    obtain ⟨a, us, e, q, r⟩ := h
    exact ⟨a, us, e, k.sqT q, RPs.kp k r⟩
  | .fls l, v, h => by
    simp only [RP] at h ⊢
    obtain ⟨a, us, e, q, r⟩ := h
    exact ⟨a, us, e, k.fzL q, RPs.kp k r⟩
theorem RPs.kp {H H1 : Hp} (k : Kp H H1) : ∀ {l : List PV} {us : List V}, RPs K H l us → RPs K H1 l us
  | [], _, h => h
  | x :: l, us, h => by
    simp only [RPs] at h ⊢
    obtain ⟨u, r, e, a, b⟩ := h
    exact ⟨u, r, e, RP.kp k a, RPs.kp k b⟩
end
theorem RPs.nil {H : Hp} : RPs K H [] [] := by simp [RPs]
theorem RPs.cons {H : Hp} {x : PV} {l : List PV} {u : V} {us : List V} (a : RP K H x u) (b : RPs K H l us) : RPs K H (x :: l) (u :: us) := by
  simp only [RPs]; exact ⟨u, us, rfl, a, b⟩
theorem RPs.length {H : Hp} : ∀ {l : List PV} {us : List V}, RPs K H l us → us.length = l.length
  | [], us, h => by simp only [RPs] at h; subst h; rfl
  | x :: l, us, h => by
    simp only [RPs] at h
    obtain ⟨u, r, rfl, _, b⟩ := h
    simp [RPs.length b]
theorem RPs.get {H : Hp} : ∀ {l : List PV} {us : List V} {i : Nat} {x : PV}, RPs K H l us → l[i]? = some x → ∃ u, us[i]? = some u ∧ RP K H x u
  | [], _, _, _, _, e => by simp at e
  | y :: l, us, i, x, h, e => by
    simp only [RPs] at h
    obtain ⟨u, r, rfl, a, b⟩ := h
    cases i with
    | zero => simp at e; subst e; exact ⟨u, by simp, a⟩
    | succ i => obtain ⟨w, e1, e2⟩ := RPs.get (i := i) (x := x) b (by simpa using e); exact ⟨w, by simpa using e1, e2⟩
theorem RPs.append {H : Hp} : ∀ {l m : List PV} {us ws : List V}, RPs K H l us → RPs K H m ws → RPs K H (l ++ m) (us ++ ws)
  | [], m, us, ws, h, g => by simp only [RPs] at h; subst h; simpa using g
  | x :: l, m, us, ws, h, g => by
    simp only [RPs] at h
    obtain ⟨u, r, rfl, a, b⟩ := h
    exact RPs.cons K a (RPs.append b g)
theorem RPs.take {H : Hp} : ∀ {l : List PV} {us : List V} (n : Nat), RPs K H l us → RPs K H (l.take n) (us.take n)
  | [], us, n, h => by simp only [RPs] at h; subst h; simp [RPs]
  | x :: l, us, 0, h => by simp [RPs]
  | x :: l, us, n + 1, h => by
    simp only [RPs] at h
    obtain ⟨u, r, rfl, a, b⟩ := h
    exact RPs.cons K a (RPs.take n b)
theorem RPs.drop {H : Hp} : ∀ {l : List PV} {us : List V} (n : Nat), RPs K H l us → RPs K H (l.drop n) (us.drop n)
  | [], us, n, h => by simp only [RPs] at h; subst h; simp [RPs]
  | x :: l, us, 0, h => h
  | x :: l, us, n + 1, h => by
    simp only [RPs] at h
    obtain ⟨u, r, rfl, a, b⟩ := h
    exact RPs.drop n b
theorem RPs.ints {H : Hp} : ∀ (ns : List Int), RPs K H (ns.map PV.int) (ns.map V.int)
  | [] => by simp [RPs]
  | n :: ns => RPs.cons K (by simp [RP]) (RPs.ints ns)
end
def ExcA (a C : Addr) (h : Heap) : Prop := ∃ o, h.get? a = some o ∧ o.cls = .ref C
def ExcD (a C dx : Addr) (h : Heap) : Prop := ∃ o, h.get? a = some o ∧ o.cls = .ref C ∧ o.dict = some dx ∧ ∃ vs, o.data = .fields vs
def IsAt (o : Obj) (n : Nat) : Prop := ∀ (h : Heap) (d : Addr), h.get? d = some o → ∃ m u, h.Ns d m ∧ m "at" = some u ∧ RelV (.int n) u
inductive PO where
  | exc (C : Addr)
  | excA (C : Addr) (n : Nat)
  | lst (l : List PV)
  | ins (C dx : Addr) (fs : List (Str × PV))
  | dK (kvs : List (Key × PV))
  | dT (kvs : List (List Key × PV))
abbrev PHp := Addr → Option PO
def put (H : PHp) (a : Addr) (o : PO) : PHp := fun b => if b = a then some o else H b
theorem put_same {H : PHp} {a : Addr} {o : PO} : put H a o a = some o := by unfold put; rw [if_pos rfl]
theorem put_ne {H : PHp} {a b : Addr} {o : PO} (h : b ≠ a) : put H a o b = H b := by unfold put; rw [if_neg h]
theorem put_put {H : PHp} {a : Addr} {o u : PO} : put (put H a o) a u = put H a u := by
  funext b; unfold put; split <;> rfl
theorem ne_none {H : PHp} {a b : Addr} {o : PO} (h : H a = some o) (h' : H b = none) : a ≠ b := by
  intro e; subst e; rw [h] at h'; cases h'
abbrev FRel (K : PySem.W.Frag) (H : Hp) {κ : Type} : List (κ × PV) → List (κ × V) → Prop := Paired fun p q => p.1 = q.1 ∧ RP K H p.2 q.2
def OAt (K : PySem.W.Frag) (H : Hp) (a : Addr) : PO → Prop
  | .exc C => H a = some (.ext (ExcA a C))
  | .excA C n => ∃ dx o, H a = some (.ext (ExcD a C dx)) ∧ H dx = some (.frz o (.own a)) ∧ IsAt o n
  | .lst l => ∃ us, H a = some (.lst us) ∧ RPs K H l us
  | .ins C dx fs => ∃ gs, H a = some (.ins C dx gs) ∧ FRel K H fs gs
  | .dK kvs => ∃ ws, H a = some (.dK ws) ∧ FRel K H kvs ws
  | .dT kvs => ∃ ws, H a = some (.dT ws) ∧ FRel K H kvs ws
abbrev HR (K : PySem.W.Frag) (H' : PHp) (H : Hp) : Prop := ∀ a o, H' a = some o → OAt K H a o
abbrev St' := List (Option PV)
abbrev Bs := PHp × Hp
def Ev (H' : PHp) (H : Hp) (H1' : PHp) (H1 : Hp) : Prop := ∀ a o, H a = some o → H' a = none → H1 a = some o ∧ H1' a = none
structure SR (K : PySem.W.Frag) (B : Bs) (σ' : St') (H' : PHp) (σ : L2.St) (H : Hp) : Prop where
  len : σ'.length = σ.length
  loc : ∀ (i : Nat) (v' : PV), σ'[i]? = some (some v') → ∃ v, σ[i]? = some (some v) ∧ RP K H v' v
  hp : HR K H' H
  ev : Ev B.1 B.2 H' H
theorem Ev.refl (H' : PHp) (H : Hp) : Ev H' H H' H := fun _ _ h h' => ⟨h, h'⟩
theorem Ev.trans {H' : PHp} {H : Hp} {H1' : PHp} {H1 : Hp} {H2' : PHp} {H2 : Hp} (a : Ev H' H H1' H1) (b : Ev H1' H1 H2' H2) : Ev H' H H2' H2 := fun c o h h' => by
  obtain ⟨p, q⟩ := a c o h h'
  exact b c o p q
section
variable {K : PySem.W.Frag}
theorem FRel.kp {κ : Type} {H H1 : Hp} (k : Kp H H1) {fs : List (κ × PV)} {gs : List (κ × V)} (h : FRel K H fs gs) : FRel K H1 fs gs := Paired.mapP h fun _ _ ⟨a, b⟩ => ⟨a, RP.kp K k b⟩
theorem OAt.some {H : Hp} {a : Addr} : ∀ {o : PO}, OAt K H a o → ∃ u, H a = Option.some u ∧ (∀ us, u ≠ .tup us) ∧ (∀ o us, u ≠ .frz o us) ∧ (∀ x, u ≠ .own x)
  | .exc C, e => ⟨_, e, (fun _ => by nofun), (fun _ _ => by nofun), (fun _ => by nofun)⟩
  | .excA C n, ⟨_, _, e, _⟩ => ⟨_, e, (fun _ => by nofun), (fun _ _ => by nofun), (fun _ => by nofun)⟩
  | .lst l, ⟨us, e, _⟩ => ⟨_, e, (fun _ => by nofun), (fun _ _ => by nofun), (fun _ => by nofun)⟩
  | .ins C dx fs, ⟨us, e, _⟩ => ⟨_, e, (fun _ => by nofun), (fun _ _ => by nofun), (fun _ => by nofun)⟩
  | .dK l, ⟨us, e, _⟩ => ⟨_, e, (fun _ => by nofun), (fun _ _ => by nofun), (fun _ => by nofun)⟩
  | .dT l, ⟨us, e, _⟩ => ⟨_, e, (fun _ => by nofun), (fun _ _ => by nofun), (fun _ => by nofun)⟩
theorem OAt.keep {H H1 : Hp} {a : Addr} (k : Kp H H1) (e : H1 a = H a) : ∀ {o : PO}, OAt K H a o → OAt K H1 a o
  | .exc C, h => e.trans h
  | .excA C n, ⟨dx, o, h, z, i⟩ => ⟨dx, o, e.trans h, k.z _ _ _ z, i⟩
  | .lst l, ⟨us, h, r⟩ => ⟨us, e.trans h, RPs.kp K k r⟩
  | .ins C dx fs, ⟨us, h, r⟩ => ⟨us, e.trans h, FRel.kp k r⟩
  | .dK l, ⟨us, h, r⟩ => ⟨us, e.trans h, FRel.kp k r⟩
  | .dT l, ⟨us, h, r⟩ => ⟨us, e.trans h, FRel.kp k r⟩
theorem HR.tup {H' : PHp} {H : Hp} (h : HR K H' H) {a : Addr} {us : List V} (e : H a = some (.tup us)) : H' a = none := by
  cases q : H' a with
  | none => rfl
  | some o => obtain ⟨u, e1, n, _⟩ := (h a o q).some; rw [e] at e1; exact absurd (Option.some.inj e1).symm (n us)
theorem HR.frz {H' : PHp} {H : Hp} (h : HR K H' H) {a : Addr} {o : Obj} {u : HO} (e : H a = some (.frz o u)) : H' a = none := by
  cases q : H' a with
  | none => rfl
  | some o' => obtain ⟨u', e1, _, n, _⟩ := (h a o' q).some; rw [e] at e1; exact absurd (Option.some.inj e1).symm (n o u)
theorem HR.free {H' : PHp} {H : Hp} (h : HR K H' H) {a : Addr} (e : H a = none) : H' a = none := by
  cases q : H' a with
  | none => rfl
  | some o => obtain ⟨u, e1, _⟩ := (h a o q).some; rw [e] at e1; cases e1
theorem Ev.kp {H' : PHp} {H : Hp} {H1' : PHp} {H1 : Hp} (e : Ev H' H H1' H1) (h : HR K H' H) : Kp H H1 :=
  ⟨fun a us q => (e a _ q (h.tup q)).1, fun a o u q => (e a _ q (h.frz q)).1⟩
theorem kp_fresh {H : Hp} {p : Addr} {o : HO} (e : H p = none) : Kp H (upd H p o) :=
  ⟨fun a us q => by rw [upd_ne (ne_of_none q e)]; exact q, fun a o u q => by rw [upd_ne (ne_of_none q e)]; exact q⟩
theorem kp_write {H : Hp} {p : Addr} {o u : HO} (e : H p = some u) (n1 : ∀ us, u ≠ .tup us) (n2 : ∀ o us, u ≠ .frz o us) : Kp H (upd H p o) :=
  ⟨fun a us q => by rw [upd_ne (ne_of q e fun z => n1 us z.symm)]; exact q, fun a o' u' q => by rw [upd_ne (ne_of q e fun z => n2 o' u' z.symm)]; exact q⟩
theorem SR.kp {B : Bs} {σ' : St'} {H' H1' : PHp} {σ : L2.St} {H H1 : Hp} (s : SR K B σ' H' σ H) (e : Ev H' H H1' H1) (h : HR K H1' H1) : SR K B σ' H1' σ H1 :=
  ⟨s.len, fun i v' q => by obtain ⟨v, a, b⟩ := s.loc i v' q; exact ⟨v, a, RP.kp K (e.kp s.hp) b⟩, h, s.ev.trans e⟩
theorem HR.hid {H' : PHp} {H : Hp} {p : Addr} {o : HO} (h : HR K H' H) (e : H p = none) : HR K H' (upd H p o) := fun a u q => by
  have na : a ≠ p := by rintro rfl; rw [h.free e] at q; cases q
  exact (h a u q).keep (kp_fresh e) (upd_ne na)
theorem Ev.hid {H' : PHp} {H : Hp} {p : Addr} {o : HO} (e : H p = none) : Ev H' H H' (upd H p o) := fun a u q n => ⟨by rw [upd_ne (ne_of_none q e)]; exact q, n⟩
theorem HR.new {H' : PHp} {H : Hp} {p : Addr} {o : HO} {o' : PO} (h : HR K H' H) (e : H p = none) (new : OAt K (upd H p o) p o') : HR K (put H' p o') (upd H p o) := fun a u q => by
  by_cases hp : a = p
  · subst hp; rw [put_same] at q; cases q; exact new
  · rw [put_ne hp] at q; exact (h a u q).keep (kp_fresh e) (upd_ne hp)
theorem Ev.new {H' : PHp} {H : Hp} {p : Addr} {o : HO} {o' : PO} (e : H p = none) : Ev H' H (put H' p o') (upd H p o) := fun a u q n => by
  have na := ne_of_none q e
  exact ⟨by rw [upd_ne na]; exact q, by rw [put_ne na]; exact n⟩
theorem HR.wr {H' : PHp} {H : Hp} {p : Addr} {o : HO} {o' u' : PO} (h : HR K H' H) (e : H' p = some u') (new : OAt K (upd H p o) p o') : HR K (put H' p o') (upd H p o) := fun a u q => by
  obtain ⟨v, e1, n1, n2, _⟩ := (h p u' e).some
  by_cases hp : a = p
  · subst hp; rw [put_same] at q; cases q; exact new
  · rw [put_ne hp] at q; exact (h a u q).keep (kp_write e1 n1 n2) (upd_ne hp)
theorem HR.kpw {H' : PHp} {H : Hp} {p : Addr} {o : HO} {u' : PO} (h : HR K H' H) (e : H' p = some u') : Kp H (upd H p o) := by
  obtain ⟨v, e1, n1, n2, _⟩ := (h p u' e).some
  exact kp_write e1 n1 n2
theorem Ev.wr {H' : PHp} {H : Hp} {p : Addr} {o : HO} {o' u' : PO} (e : H' p = some u') : Ev H' H (put H' p o') (upd H p o) := fun a u q n => by
  have na : a ≠ p := by rintro rfl; rw [e] at n; cases n
  exact ⟨by rw [upd_ne na]; exact q, by rw [put_ne na]; exact n⟩
def Sub (A B : PHp) : Prop := ∀ a o, A a = some o → B a = some o
theorem Sub.refl (A : PHp) : Sub A A := fun _ _ h => h
theorem Sub.trans {A B C : PHp} (a : Sub A B) (b : Sub B C) : Sub A C := fun c o h => b c o (a c o h)
theorem Sub.put {A B : PHp} {p : Addr} {o : PO} (a : Sub A B) (n : A p = none) : Sub A (put B p o) := fun c u h => by rw [put_ne (ne_none h n)]; exact a c u h
theorem Sub.free {A B : PHp} (a : Sub A B) {p : Addr} (n : B p = none) : A p = none := by
  cases q : A p with
  | none => rfl
  | some o => rw [a p o q] at n; cases n
theorem HR.sub {A B : PHp} {H : Hp} (h : HR K B H) (s : Sub A B) : HR K A H := fun a o e => h a o (s a o e)
theorem Ev.sub {H' : PHp} {H : Hp} {A B : PHp} {H1 : Hp} (e : Ev H' H B H1) (s : Sub A B) : Ev H' H A H1 := fun a o q n => by
  obtain ⟨x, y⟩ := e a o q n
  exact ⟨x, s.free y⟩
end
end U


set_option linter.all false
set_option maxRecDepth 100000
set_option maxHeartbeats 4000000
namespace U
open PySem PySem.Spec PyProof.Rows L2
variable {B : Bs}
abbrev VK' := PV → PHp → Prop
abbrev TE' := St' → PHp → VK' → Prop
abbrev TT' := St' → PHp → (Bool → PHp → Prop) → Prop
abbrev TA' := St' → PHp → (List PV → PHp → Prop) → Prop
abbrev XK' := Value → Option Addr → PHp → Prop
structure Ends' where
  nx : St' → PHp → Prop
  rt : VK'
  bk : St' → PHp → Prop := fun _ _ => False
  ct : St' → PHp → Prop := fun _ _ => False
abbrev TS' := Ends' → St' → PHp → Prop
abbrev TG' := PV → St' → PHp → (St' → PHp → Prop) → Prop
abbrev TGs' := List PV → St' → PHp → (St' → PHp → Prop) → Prop
structure It' where
  items : List PV
  ok : PHp → Prop
abbrev TI' := St' → PHp → (It' → PHp → Prop) → Prop
section
variable (K : PySem.W.Frag) (B : Bs)
def low (t : TE') : TE := fun σ H Q => ∃ σ' H' Q', SR K B σ' H' σ H ∧ t σ' H' Q' ∧ ∀ v' H1' v H1, Q' v' H1' → RP K H1 v' v → SR K B σ' H1' σ H1 → Ev H' H H1' H1 → Q v H1
def lowT (t : TT') : TT := fun σ H Q => ∃ σ' H' Q', SR K B σ' H' σ H ∧ t σ' H' Q' ∧ ∀ b H1' H1, Q' b H1' → SR K B σ' H1' σ H1 → Ev H' H H1' H1 → Q b H1
def lowA (t : TA') : TA := fun σ H Q => ∃ σ' H' Q', SR K B σ' H' σ H ∧ t σ' H' Q' ∧ ∀ vs' H1' vs H1, Q' vs' H1' → RPs K H1 vs' vs → SR K B σ' H1' σ H1 → Ev H' H H1' H1 → Q vs H1
structure DR (D' : Ends') (D : Ends) (H' : PHp) (H : Hp) : Prop where
  nx : ∀ σ1' H1' σ1 H1, D'.nx σ1' H1' → SR K B σ1' H1' σ1 H1 → Ev H' H H1' H1 → D.nx σ1 H1
  rt : ∀ v' H1' v H1, D'.rt v' H1' → RP K H1 v' v → HR K H1' H1 → Ev H' H H1' H1 → D.rt v H1
  bk : ∀ σ1' H1' σ1 H1, D'.bk σ1' H1' → SR K B σ1' H1' σ1 H1 → Ev H' H H1' H1 → D.bk σ1 H1
  ct : ∀ σ1' H1' σ1 H1, D'.ct σ1' H1' → SR K B σ1' H1' σ1 H1 → Ev H' H H1' H1 → D.ct σ1 H1
theorem DR.ev {D' : Ends'} {D : Ends} {H' : PHp} {H : Hp} {H1' : PHp} {H1 : Hp} (d : DR K B D' D H' H) (e : Ev H' H H1' H1) : DR K B D' D H1' H1 :=
  ⟨fun a b c f p q r => d.nx a b c f p q (e.trans r), fun a b c f p q r s => d.rt a b c f p q r (e.trans s), fun a b c f p q r => d.bk a b c f p q (e.trans r), fun a b c f p q r => d.ct a b c f p q (e.trans r)⟩
def lowS (t : TS') : TS := fun D σ H => ∃ σ' H' D', SR K B σ' H' σ H ∧ t D' σ' H' ∧ DR K B D' D H' H
def lowG (t : TG') : TG := fun v σ H Q => ∃ v' σ' H' Q', RP K H v' v ∧ SR K B σ' H' σ H ∧ t v' σ' H' Q' ∧ ∀ σ1' H1' σ1 H1, Q' σ1' H1' → SR K B σ1' H1' σ1 H1 → Ev H' H H1' H1 → Q σ1 H1
def lowGs (t : TGs') : TGs := fun vs σ H Q => ∃ vs' σ' H' Q', RPs K H vs' vs ∧ SR K B σ' H' σ H ∧ t vs' σ' H' Q' ∧ ∀ σ1' H1' σ1 H1, Q' σ1' H1' → SR K B σ1' H1' σ1 H1 → Ev H' H H1' H1 → Q σ1 H1
structure Walks (H1 : Hp) (J : It) (J' : It') : Prop where
  go : ∀ H' H i, Kp H1 H → HR K H' H → J'.ok H' → i < J'.items.length → J.go i H
  yld : ∀ H' H i x H2, Kp H1 H → HR K H' H → J'.ok H' → J.yld i H x H2 → H2 = H ∧ ∀ x', J'.items[i]? = some x' → RP K H x' x
  stop : ∀ H' H i, Kp H1 H → HR K H' H → J'.ok H' → J'.items.length ≤ i → J.stop i H
def lowI (t : TI') : TI := fun σ H R => ∃ σ' H' R', SR K B σ' H' σ H ∧ t σ' H' R' ∧ ∀ J' H1' J H1, R' J' H1' → Walks K H1 J J' → SR K B σ' H1' σ H1 → Ev H' H H1' H1 → R J H1
end
section
variable {X : Cx}
theorem pe_imp {e : Expr} {t1 t2 : TE} (h : PE X e t2) (i : ∀ σ H Q, t1 σ H Q → t2 σ H Q) : PE X e t1 := fun pins s σ H Q I q => h pins s σ H Q I (i σ H Q q)
theorem pt_imp {e : Expr} {t1 t2 : TT} (h : PT X e t2) (i : ∀ σ H Q, t1 σ H Q → t2 σ H Q) : PT X e t1 := fun pins s σ H Q I q => h pins s σ H Q I (i σ H Q q)
theorem pw_imp {e : Expr} {t1 t2 : TT} (h : PW X e t2) (i : ∀ σ H Q, t1 σ H Q → t2 σ H Q) : PW X e t1 := fun w pins s σ H Q I q => h w pins s σ H Q I (i σ H Q q)
theorem pa_imp {e : List Expr} {t1 t2 : TA} (h : PA X e t2) (i : ∀ σ H Q, t1 σ H Q → t2 σ H Q) : PA X e t1 := fun p pins s σ H Q I q => h p pins s σ H Q I (i σ H Q q)
theorem ps_imp {e : Stmt} {t1 t2 : TS} (h : PS X e t2) (i : ∀ D σ H, t1 D σ H → t2 D σ H) : PS X e t1 := fun pins s σ H D I q => h pins s σ H D I (i D σ H q)
theorem pss_imp {e : List Stmt} {t1 t2 : TS} (h : PSs X e t2) (i : ∀ D σ H, t1 D σ H → t2 D σ H) : PSs X e t1 := fun pins s σ H D I q => h pins s σ H D I (i D σ H q)
theorem pg_imp {e : Expr} {t1 t2 : TG} (h : PG X e t2) (i : ∀ v σ H Q, t1 v σ H Q → t2 v σ H Q) : PG X e t1 := fun pins s σ H v u Q I r q => h pins s σ H v u Q I r (i v σ H Q q)
theorem pgs_imp {e : List Expr} {t1 t2 : TGs} (h : PGs X e t2) (i : ∀ v σ H Q, t1 v σ H Q → t2 v σ H Q) : PGs X e t1 := fun pins s σ H v u Q I r q => h pins s σ H v u Q I r (i v σ H Q q)
theorem pi_imp {tg e : Expr} {t1 t2 : TI} (h : PI X tg e t2) (i : ∀ σ H Q, t1 σ H Q → t2 σ H Q) : PI X tg e t1 := fun pins s σ H Q I q => h pins s σ H Q I (i σ H Q q)
abbrev PE' (X : Cx) (B : Bs) (e : Expr) (t : TE') : Prop := PE X e (low X.K B t)
abbrev PT' (X : Cx) (B : Bs) (e : Expr) (t : TT') : Prop := PT X e (lowT X.K B t)
abbrev PW' (X : Cx) (B : Bs) (e : Expr) (t : TT') : Prop := PW X e (lowT X.K B t)
abbrev PA' (X : Cx) (B : Bs) (e : List Expr) (t : TA') : Prop := PA X e (lowA X.K B t)
abbrev PS' (X : Cx) (B : Bs) (e : Stmt) (t : TS') : Prop := PS X e (lowS X.K B t)
abbrev PSs' (X : Cx) (B : Bs) (e : List Stmt) (t : TS') : Prop := PSs X e (lowS X.K B t)
abbrev PG' (X : Cx) (B : Bs) (e : Expr) (t : TG') : Prop := PG X e (lowG X.K B t)
abbrev PGs' (X : Cx) (B : Bs) (e : List Expr) (t : TGs') : Prop := PGs X e (lowGs X.K B t)
abbrev PI' (X : Cx) (B : Bs) (tg e : Expr) (t : TI') : Prop := PI X tg e (lowI X.K B t)
def withV (o : Option (Option PV)) (k : PV → Prop) : Prop := match o with
  | some (some v) => k v
  | _ => False
theorem withV.ex {o : Option (Option PV)} {k : PV → Prop} (h : withV o k) : ∃ v, o = some (some v) ∧ k v := by
  unfold withV at h; split at h
  · exact ⟨_, rfl, h⟩
  · exact h.elim
def uVar (i : Nat) : TE' := fun σ H Q => withV σ[i]? fun v => Q v H
def uC (v : PV) : TE' := fun _ H Q => Q v H
theorem qv (i : Nat) {x : Str} {pos : Pos} (hN : X.N[i]? = some x := by rfl) (hv : Vis X.env.scope x := by first | exact Or.inl rfl | exact Or.inr (Or.inl rfl) | exact Or.inr (Or.inr rfl)) (hd : (x == ("__debug__" : Str)) = false := by decide)
    (hcd : (x == ("__classdict__" : Str)) = false := by decide) : PE' X B (.Name x pos) (uVar i) := pe_imp (pv i hN hv hd hcd) fun σ H Q ⟨σ', H', Q', s, h, k⟩ => by
  obtain ⟨v', e, q⟩ := h.ex
  obtain ⟨v, a, b⟩ := s.loc i v' e
  exact ⟨v, a, k v' H' v H q b s (Ev.refl _ _)⟩
theorem lowC {K : PySem.W.Frag} {v' : PV} {v : V} (r : ∀ H, RP K H v' v) {σ : L2.St} {H : Hp} {Q : VK} (h : low K B (uC v') σ H Q) : tC v σ H Q := by
  obtain ⟨σ', H', Q', s, h, k⟩ := h
  exact k v' H' v H h (r H) s (Ev.refl _ _)
theorem qe_int {i j pos} : PE' X B (.Constant (.int i) j pos) (uC (.int i)) := pe_imp pe_int fun _ _ _ h => lowC (fun _ => by simp [RP]) h
theorem qe_bl {i j pos} : PE' X B (.Constant (.bool i) j pos) (uC (.bl i)) := pe_imp pe_bl fun _ _ _ h => lowC (fun _ => by simp [RP]) h
theorem qe_str {i j pos} : PE' X B (.Constant (.str i) j pos) (uC (.str i)) := pe_imp pe_str fun _ _ _ h => lowC (fun _ => by simp [RP]) h
theorem qe_non {j pos} : PE' X B (.Constant .none j pos) (uC .non) := pe_imp pe_non fun _ _ _ h => lowC (fun _ => by simp [RP]) h
theorem qe_glob {x : Str} {v' : PV} {v : V} {u : Value} {pos : Pos} (hg : Gl X x) (hm : X.mg x = some u) (r : RelV v u) (r' : ∀ H, RP X.K H v' v) (hd : (x == ("__debug__" : Str)) = false := by decide) : PE' X B (.Name x pos) (uC v') :=
  pe_imp (pe_glob hg hm r hd) fun _ _ _ h => lowC r' h
abbrev R2' := PV → PV → PHp → VK' → Prop
def VR (K : PySem.W.Frag) (B : Bs) (r' : R2') (r : R2) : Prop := ∀ (σ' : St') (σ : L2.St) (H' : PHp) (H : Hp) x' y' x y (Q' : VK') (Q : VK), SR K B σ' H' σ H → RP K H x' x → RP K H y' y → r' x' y' H' Q' →
  (∀ v' H1' v H1, Q' v' H1' → RP K H1 v' v → SR K B σ' H1' σ H1 → Ev H' H H1' H1 → Q v H1) → r x y H Q
def uOp (r : R2') (ta tb : TE') : TE' := fun σ H Q => ta σ H fun x H1 => tb σ H1 fun y H2 => r x y H2 Q
theorem low_op {K : PySem.W.Frag} {r' : R2'} {r : R2} {ta tb : TE'} (v : VR K B r' r) {σ : L2.St} {H : Hp} {Q : VK} (h : low K B (uOp r' ta tb) σ H Q) : tOp r (low K B ta) (low K B tb) σ H Q := by
  obtain ⟨σ', H', Q', s, h, k⟩ := h
  refine ⟨σ', H', _, s, h, fun x' H1' x H1 h1 rx s1 e1 => ⟨σ', H1', _, s1, h1, fun y' H2' y H2 h2 ry s2 e2 => ?_⟩⟩
  exact v σ' σ H2' H2 x' y' x y Q' Q s2 (RP.kp K (e2.kp s1.hp) rx) ry h2 fun v' H3' v H3 q rv s3 e3 => k v' H3' v H3 q rv s3 (e1.trans (e2.trans e3))
variable {a b c : Expr} {ta tb tc : TE'} {pos : Pos}
theorem qe_op {op : Operator} {r' : R2'} {r : R2} (ho : OpR X (binaryOp op) r) (v : VR X.K B r' r) (ha : PE' X B a ta) (hb : PE' X B b tb) : PE' X B (.BinOp a op b pos) (uOp r' ta tb) := pe_imp (pe_op ho ha hb) fun _ _ _ h => low_op v h
theorem qe_cmp {op : CmpOp} {r' : R2'} {r : R2} (ho : OpR X (compareOp op) r) (v : VR X.K B r' r) (ha : PE' X B a ta) (hb : PE' X B b tb) (hm : behindInMarks op b = false) : PE' X B (.Compare a [op] [b] pos) (uOp r' ta tb) :=
  pe_imp (pe_cmpR ho ha hb hm) fun _ _ _ h => low_op v h
def cif (b : Bool) (A B : Prop) : Prop := match b with
  | true => A
  | false => B
theorem cif_t {A B : Prop} : cif true A B = A := rfl
theorem cif_f {A B : Prop} : cif false A B = B := rfl
theorem cif_by {b : Bool} {A B : Prop} (h1 : b = true → A) (h2 : b = false → B) : cif b A B := by
  cases b
  · exact h2 rfl
  · exact h1 rfl
theorem cif_pos {b : Bool} {A B : Prop} (h : b = true) (h1 : A) : cif b A B := by subst h; exact h1
theorem cif_neg {b : Bool} {A B : Prop} (h : b = false) (h1 : B) : cif b A B := by subst h; exact h1
def withB (x : PV) (k : Bool → Prop) : Prop := match x with
  | .bl b => k b
  | _ => False
theorem withB.ex {x : PV} {k : Bool → Prop} (h : withB x k) : ∃ v, x = .bl v ∧ k v := by
  unfold withB at h; split at h
  · exact ⟨_, rfl, h⟩
  · exact h.elim
def withI (x : PV) (k : Int → Prop) : Prop := match x with
  | .int i => k i
  | _ => False
theorem withI.ex {x : PV} {k : Int → Prop} (h : withI x k) : ∃ v, x = .int v ∧ k v := by
  unfold withI at h; split at h
  · exact ⟨_, rfl, h⟩
  · exact h.elim
def uTest (t : TE') : TT' := fun σ H Q => t σ H fun x H1 => withB x fun b => Q b H1
theorem low_test {K : PySem.W.Frag} {t : TE'} {σ : L2.St} {H : Hp} {Q : Bool → Hp → Prop} (h : lowT K B (uTest t) σ H Q) : tTest (low K B t) σ H Q := by
  obtain ⟨σ', H', Q', s, h, k⟩ := h
  refine ⟨σ', H', _, s, h, fun x' H1' x H1 h1 rx s1 e1 => ?_⟩
  obtain ⟨b, rfl, q⟩ := h1.ex
  simp only [RP] at rx
  exact ⟨b, rx, k b H1' H1 q s1 e1⟩
theorem qt_val {e : Expr} {t : TE'} (h : PE' X B e t) (he : ∀ whole, isTrue e X.env whole = (do let v ← whole; standAt e.pos; holding [v] (truthy v)) := by intro _; rfl) : PT' X B e (uTest t) := pt_imp (pt_val h he) fun _ _ _ h => low_test h
theorem qt_cmp {op : CmpOp} {r' : R2'} {r : R2} (ho : OpR X (compareOp op) r) (v : VR X.K B r' r) (ha : PE' X B a ta) (hb : PE' X B b tb) (hm : behindInMarks op b = false) : PT' X B (.Compare a [op] [b] pos) (uTest (uOp r' ta tb)) :=
  pt_imp (pt_cmpR ho ha hb hm) fun _ _ _ h => by
    obtain ⟨σ', H', Q', s, h, k⟩ := low_test h
    exact low_op v ⟨σ', H', Q', s, h, k⟩
def uChain (r r' : R2') (ta tb tc : TE') : TE' := fun σ H Q => ta σ H fun x H1 => tb σ H1 fun y H2 => r x y H2 fun z H3 => withB z fun k => cif k (tc σ H3 fun w' H4 => r' y w' H4 Q) (Q (.bl false) H3)
def uI (C : Int → Int → Prop) (g : Int → Int → PV) : R2' := fun x y H Q => withI x fun i => withI y fun j => C i j ∧ Q (g i j) H
def uI0 (g : Int → Int → PV) : R2' := fun x y H Q => withI x fun i => withI y fun j => Q (g i j) H
theorem vr_I {K : PySem.W.Frag} {C : Int → Int → Prop} {g' : Int → Int → PV} {g : Int → Int → V} (r : ∀ i j H, RP K H (g' i j) (g i j)) : VR K B (uI C g') (rI C g) := by
  intro σ' σ H' H x' y' x y Q' Q s rx ry h k
  obtain ⟨i, rfl, h1⟩ := withI.ex h
  obtain ⟨j, rfl, hc, h⟩ := withI.ex h1
  simp only [RP] at rx ry
  exact ⟨i, j, rx, ry, hc, k _ H' _ H h (r i j H) s (Ev.refl _ _)⟩
theorem vr_I0 {K : PySem.W.Frag} {g' : Int → Int → PV} {g : Int → Int → V} (r : ∀ i j H, RP K H (g' i j) (g i j)) : VR K B (uI0 g') (rI0 g) := by
  intro σ' σ H' H x' y' x y Q' Q s rx ry h k
  obtain ⟨i, rfl, h1⟩ := withI.ex h
  obtain ⟨j, rfl, h⟩ := withI.ex h1
  simp only [RP] at rx ry
  exact ⟨i, j, rx, ry, k _ H' _ H h (r i j H) s (Ev.refl _ _)⟩
abbrev uAdd : R2' := uI0 fun i j => .int (i + j)
abbrev uSub : R2' := uI0 fun i j => .int (i - j)
abbrev uLt : R2' := uI0 fun i j => .bl (decide (i < j))
abbrev uLe : R2' := uI0 fun i j => .bl (decide (i ≤ j))
abbrev uGt : R2' := uI0 fun i j => .bl (decide (j < i))
abbrev uGe : R2' := uI0 fun i j => .bl (decide (j ≤ i))
def Fit (i : Int) : Prop := i.natAbs.log2 < 9000
def CMulN (i j : Int) : Prop := CMul i j ∨ (Fit i ∧ Fit j)
def CDivB (i j : Int) : Prop := j ≠ 0 ∧ Fit j
theorem CMulN.ok {i j : Int} (h : CMulN i j) : IntMulOk i j := by
  rcases h with h | ⟨h1, h2⟩
  · exact h.ok
  · unfold IntMulOk
    have e : ∀ x : Int, Fit x → Builtin.Int.intBits x ≤ 9000 := fun x hx => by
      unfold Builtin.Int.intBits Fit at *
      split <;> omega
    have e1 := e i h1
    have e2 := e j h2
    have e3 : Builtin.Int.intTooBig (Builtin.Int.intBits i + Builtin.Int.intBits j) = false := by
      unfold Builtin.Int.intTooBig
      refine decide_eq_false ?_
      show ¬ (bitsLine : Int) < _
      have hb : (18000 : Nat) ≤ bitsLine := by decide +kernel
      omega
    rw [e3]
    simp
abbrev uMul : R2' := uI CMulN fun i j => .int (i * j)
abbrev uFdiv : R2' := uI CDivB fun i j => .int (i.fdiv j)
theorem op_mulB {X : Cx} : OpR X (binaryOp .Mult) (rI CMulN fun i j => .int (i * j)) := opI fun _ _ _ _ _ _ _ hc q => mul_int q hc.ok
theorem op_fdivB {X : Cx} : OpR X (binaryOp .FloorDiv) (rI CDivB fun i j => .int (i.fdiv j)) := opI fun _ _ _ _ _ _ _ hc q => floordiv_int hc.1 q (.inl (PyProof.noPylong_of_log2 hc.2))
abbrev uMod : R2' := uI (fun _ j => j ≠ 0) fun i j => .int (i.fmod j)
theorem qe_add (ha : PE' X B a ta) (hb : PE' X B b tb) : PE' X B (.BinOp a .Add b pos) (uOp uAdd ta tb) := qe_op op_add (vr_I0 fun _ _ _ => by simp [RP]) ha hb
theorem qe_sub (ha : PE' X B a ta) (hb : PE' X B b tb) : PE' X B (.BinOp a .Sub b pos) (uOp uSub ta tb) := qe_op op_sub (vr_I0 fun _ _ _ => by simp [RP]) ha hb
theorem qe_mul (ha : PE' X B a ta) (hb : PE' X B b tb) : PE' X B (.BinOp a .Mult b pos) (uOp uMul ta tb) := qe_op op_mulB (vr_I fun _ _ _ => by simp [RP]) ha hb
theorem qe_fdiv (ha : PE' X B a ta) (hb : PE' X B b tb) : PE' X B (.BinOp a .FloorDiv b pos) (uOp uFdiv ta tb) := qe_op op_fdivB (vr_I fun _ _ _ => by simp [RP]) ha hb
theorem qe_mod (ha : PE' X B a ta) (hb : PE' X B b tb) : PE' X B (.BinOp a .Mod b pos) (uOp uMod ta tb) := qe_op op_modN (vr_I fun _ _ _ => by simp [RP]) ha hb
theorem vr_lt {K : PySem.W.Frag} : VR K B uLt (rI0 fun i j => .bl (decide (i < j))) := vr_I0 fun _ _ _ => by simp [RP]
theorem vr_le {K : PySem.W.Frag} : VR K B uLe (rI0 fun i j => .bl (decide (i ≤ j))) := vr_I0 fun _ _ _ => by simp [RP]
theorem vr_gt {K : PySem.W.Frag} : VR K B uGt (rI0 fun i j => .bl (decide (j < i))) := vr_I0 fun _ _ _ => by simp [RP]
theorem vr_ge {K : PySem.W.Frag} : VR K B uGe (rI0 fun i j => .bl (decide (j ≤ i))) := vr_I0 fun _ _ _ => by simp [RP]
end
end U


set_option linter.all false
set_option maxRecDepth 100000
set_option maxHeartbeats 4000000
namespace U
open PySem PySem.Spec PyProof.Rows L2
variable {B : Bs}
section
variable {X : Cx} {a b c e o : Expr} {es rest : List Expr} {ta tb tc : TE'} {tA tB : TT'} {t : TA'} {pos : Pos}
def uAnd (t u : TT') : TT' := fun σ H Q => t σ H fun c H1 => cif c (u σ H1 Q) (Q false H1)
def uOr (t u : TT') : TT' := fun σ H Q => t σ H fun c H1 => cif c (Q true H1) (u σ H1 Q)
def uNot (t : TT') : TT' := fun σ H Q => t σ H fun c H1 => Q (!c) H1
theorem qw_and1 (ha : PT' X B a tA) : PW' X B (.BoolOp .And [a] pos) tA := pw_and1 ha
theorem qw_or1 (ha : PT' X B a tA) : PW' X B (.BoolOp .Or [a] pos) tA := pw_or1 ha
theorem qw_and (ha : PT' X B a tA) (hb : PW' X B (.BoolOp .And (b :: rest) pos) tB) : PW' X B (.BoolOp .And (a :: b :: rest) pos) (uAnd tA tB) := pw_imp (pw_and ha hb) fun σ H Q ⟨σ', H', Q', s, h, k⟩ => by
  refine ⟨σ', H', _, s, h, fun x H1' H1 h1 s1 e1 => ?_⟩
  cases x with
  | true => exact iteT ⟨σ', H1', _, s1, h1, fun y H2' H2 h2 s2 e2 => k y H2' H2 h2 s2 (e1.trans e2)⟩
  | false => exact iteF (k false H1' H1 h1 s1 e1)
theorem qw_or (ha : PT' X B a tA) (hb : PW' X B (.BoolOp .Or (b :: rest) pos) tB) : PW' X B (.BoolOp .Or (a :: b :: rest) pos) (uOr tA tB) := pw_imp (pw_or ha hb) fun σ H Q ⟨σ', H', Q', s, h, k⟩ => by
  refine ⟨σ', H', _, s, h, fun x H1' H1 h1 s1 e1 => ?_⟩
  cases x with
  | false => exact iteF ⟨σ', H1', _, s1, h1, fun y H2' H2 h2 s2 e2 => k y H2' H2 h2 s2 (e1.trans e2)⟩
  | true => exact iteT (k true H1' H1 h1 s1 e1)
theorem qt_bool (h : PW' X B e tA) : PT' X B e tA := PW.pt h
theorem qt_not (ha : PT' X B a tA) : PT' X B (.UnaryOp .Not a pos) (uNot tA) := pt_imp (pt_not ha) fun σ H Q ⟨σ', H', Q', s, h, k⟩ => ⟨σ', H', _, s, h, fun x H1' H1 h1 s1 e1 => k _ H1' H1 h1 s1 e1⟩
def uAndV (ta tb : TE') : TE' := fun σ H Q => ta σ H fun x H1 => withB x fun c => cif c (tb σ H1 Q) (Q (.bl false) H1)
def uOrV (ta tb : TE') : TE' := fun σ H Q => ta σ H fun x H1 => withB x fun c => cif c (Q (.bl true) H1) (tb σ H1 Q)
def uNotV (ta : TE') : TE' := fun σ H Q => ta σ H fun x H1 => withB x fun c => Q (.bl (!c)) H1
theorem qe_one {op} (h : PE' X B a ta) : PE' X B (.BoolOp op [a] pos) ta := pe_one h
theorem qe_and (ha : PE' X B a ta) (hb : PE' X B (.BoolOp .And (b :: rest) pos) tb) : PE' X B (.BoolOp .And (a :: b :: rest) pos) (uAndV ta tb) := pe_imp (pe_and ha hb) fun σ H Q ⟨σ', H', Q', s, h, k⟩ => by
  refine ⟨σ', H', _, s, h, fun x H1' v H1 h1 r1 s1 e1 => ?_⟩
  obtain ⟨y, rfl, h1⟩ := h1.ex
  simp only [RP] at r1
  refine ⟨y, r1, ?_⟩
  cases y with
  | true => exact iteT ⟨σ', H1', _, s1, h1, fun y H2' v2 H2 h2 r2 s2 e2 => k y H2' v2 H2 h2 r2 s2 (e1.trans e2)⟩
  | false => exact iteF (k _ H1' _ H1 h1 (by simp [RP]) s1 e1)
theorem qe_not (ha : PE' X B a ta) : PE' X B (.UnaryOp .Not a pos) (uNotV ta) := pe_imp (pe_not ha) fun σ H Q ⟨σ', H', Q', s, h, k⟩ => by
  refine ⟨σ', H', _, s, h, fun x H1' v H1 h1 r1 s1 e1 => ?_⟩
  obtain ⟨y, rfl, h1⟩ := h1.ex
  simp only [RP] at r1
  exact ⟨y, r1, k _ H1' _ H1 h1 (by simp [RP]) s1 e1⟩
def uIf (t : TT') (ta tb : TE') : TE' := fun σ H Q => t σ H fun c H1 => cif c (ta σ H1 Q) (tb σ H1 Q)
def uUn (r : PV → PHp → VK' → Prop) (ta : TE') : TE' := fun σ H Q => ta σ H fun x H1 => r x H1 Q
theorem qe_neg (ha : PE' X B a ta) : PE' X B (.UnaryOp .USub a pos) (uUn (fun x H Q => withI x fun i => Q (.int (-i)) H) ta) := pe_imp (pe_un un_neg ha) fun σ H Q ⟨σ', H', Q', s, h, k⟩ => by
  refine ⟨σ', H', _, s, h, fun x H1' v H1 h1 r1 s1 e1 => ?_⟩
  obtain ⟨i, rfl, h1⟩ := withI.ex h1
  simp only [RP] at r1
  exact ⟨i, r1, k _ H1' _ H1 h1 (by simp [RP]) s1 e1⟩
def uNil : TA' := fun _ H Q => Q [] H
def uCons (ta : TE') (tr : TA') : TA' := fun σ H Q => ta σ H fun x H1 => tr σ H1 fun xs H2 => Q (x :: xs) H2
theorem qa_nil : PA' X B [] uNil := pa_imp pa_nil fun σ H Q ⟨σ', H', Q', s, h, k⟩ => k [] H' [] H h (RPs.nil _) s (Ev.refl _ _)
theorem qa_cons (ha : PE' X B e ta) (hr : PA' X B es t) (hs : starEach (e :: es) X.env = (false, eval e X.env) :: starEach es X.env := by rfl) : PA' X B (e :: es) (uCons ta t) := pa_imp (pa_cons ha hr hs) fun σ H Q ⟨σ', H', Q', s, h, k⟩ => by
  refine ⟨σ', H', _, s, h, fun x H1' v H1 h1 r1 s1 e1 => ⟨σ', H1', _, s1, h1, fun xs H2' vs H2 h2 r2 s2 e2 => ?_⟩⟩
  exact k _ H2' _ H2 h2 (RPs.cons _ (RP.kp _ (e2.kp s1.hp) r1) r2) s2 (e1.trans e2)
def uTup (t : TA') : TE' := fun σ H Q => t σ H fun xs H1 => xs.length ≤ sizeLine ∧ Q (.tup xs) H1
def uLst (t : TA') : TE' := fun σ H Q => t σ H fun xs H1 => xs.length ≤ sizeLine ∧ ∀ p, H1 p = none → Q (.ref p) (put H1 p (.lst xs))
theorem SR.hid {K : PySem.W.Frag} {σ' : St'} {σ : L2.St} {H' : PHp} {H : Hp} {p : Addr} {o : HO} (s : SR K B σ' H' σ H) (n : H p = none) : SR K B σ' H' σ (upd H p o) := s.kp (Ev.hid n) (s.hp.hid n)
theorem SR.new {K : PySem.W.Frag} {σ' : St'} {σ : L2.St} {H' : PHp} {H : Hp} {p : Addr} {o : HO} {o' : PO} (s : SR K B σ' H' σ H) (n : H p = none) (w : OAt K (upd H p o) p o') : SR K B σ' (put H' p o') σ (upd H p o) := s.kp (Ev.new n) (s.hp.new n w)
theorem SR.wr {K : PySem.W.Frag} {σ' : St'} {σ : L2.St} {H' : PHp} {H : Hp} {p : Addr} {o : HO} {o' u' : PO} (s : SR K B σ' H' σ H) (n : H' p = some u') (w : OAt K (upd H p o) p o') : SR K B σ' (put H' p o') σ (upd H p o) := s.kp (Ev.wr n) (s.hp.wr n w)
theorem newT {K : PySem.W.Frag} {H : Hp} {p : Addr} {xs : List PV} {us : List V} (n : H p = none) (r : RPs K H xs us) : RP K (upd H p (.tup us)) (.tup xs) (.ref p) := by
  simp only [RP]
  exact ⟨p, us, rfl, SqT.of upd_same, RPs.kp K (kp_fresh n) r⟩
theorem newL {K : PySem.W.Frag} {H : Hp} {p : Addr} {xs : List PV} {us : List V} (n : H p = none) (r : RPs K H xs us) : OAt K (upd H p (.lst us)) p (.lst xs) := ⟨us, upd_same, RPs.kp K (kp_fresh n) r⟩
theorem wrL {K : PySem.W.Frag} {H' : PHp} {H : Hp} {p : Addr} {u' : PO} {xs : List PV} {us : List V} (h : HR K H' H) (n : H' p = some u') (r : RPs K H xs us) : OAt K (upd H p (.lst us)) p (.lst xs) := ⟨us, upd_same, RPs.kp K (h.kpw n) r⟩
theorem qe_tup {x1} (h : PA' X B es t) : PE' X B (.Tuple es x1 pos) (uTup t) := pe_imp (pe_tup h) fun σ H Q ⟨σ', H', Q', s, h, k⟩ => by
  refine ⟨σ', H', _, s, h, fun xs H1' us H1 h1 r1 s1 e1 => ⟨by rw [RPs.length _ r1]; exact h1.1, fun p n => ?_⟩⟩
  exact k _ H1' _ _ h1.2 (newT n r1) (s1.hid n) (e1.trans (Ev.hid n))
theorem qe_lst (h : PA' X B es t) : PE' X B (.List es pos) (uLst t) := pe_imp (pe_lst h) fun σ H Q ⟨σ', H', Q', s, h, k⟩ => by
  refine ⟨σ', H', _, s, h, fun xs H1' us H1 h1 r1 s1 e1 => ⟨by rw [RPs.length _ r1]; exact h1.1, fun p n => ?_⟩⟩
  exact k _ _ _ _ (h1.2 p (s1.hp.free n)) (by simp [RP]) (s1.new n (newL n r1)) (e1.trans (Ev.new n))
def withS (x : PV) (H : PHp) (k : List PV → Prop) : Prop := match x with
  | .tup l => k l
  | .fls l => k l
  | .ref a => ∃ l, H a = some (.lst l) ∧ k l
  | _ => False
theorem withS.ex {K : PySem.W.Frag} {σ' : St'} {σ : L2.St} {x : PV} {v : V} {H' : PHp} {H : Hp} {k : List PV → Prop} (h : withS x H' k) (s : SR K B σ' H' σ H) (r : RP K H x v) : ∃ l us p, v = .ref p ∧ RPs K H l us ∧ (SqL K H p us ∨ SqT K H p us) ∧ k l := by
  unfold withS at h
  split at h
  · simp only [RP] at r; obtain ⟨a, us, e, q, r⟩ := r; exact ⟨_, us, a, e, r, .inr q, h⟩
  · simp only [RP] at r; obtain ⟨a, us, e, q, r⟩ := r; exact ⟨_, us, a, e, r, .inl q.sq, h⟩
  · simp only [RP] at r
    obtain ⟨l, e, h⟩ := h
    obtain ⟨us, q, r2⟩ := s.hp _ _ e
    exact ⟨l, us, _, r, r2, .inl (SqL.of q), h⟩
  · exact h.elim
theorem atI_ps {K : PySem.W.Frag} {H : Hp} {l : List PV} {us : List V} {i : Int} {x : PV} (r : RPs K H l us) (e : atI l i = some x) : ∃ u, atI us i = some u ∧ RP K H x u := by
  unfold atI at e ⊢
  rw [RPs.length _ r]
  cases q : ixN l.length i with
  | none => rw [q] at e; cases e
  | some j =>
    rw [q] at e
    obtain ⟨u, e1, e2⟩ := RPs.get _ r (show l[j]? = some x from e)
    exact ⟨u, e1, e2⟩
def withO (o : Option PV) (k : PV → Prop) : Prop := match o with
  | some v => k v
  | none => False
theorem withO.ex {o : Option PV} {k : PV → Prop} (h : withO o k) : ∃ v, o = some v ∧ k v := by
  unfold withO at h; split at h
  · exact ⟨_, rfl, h⟩
  · exact h.elim
def uIx : R2' := fun x y H Q => withS x H fun l => withI y fun i => withO (atI l i) fun v => Q v H
theorem ix_both {X : Cx} : IxR X (fun x y H Q => rIxL X.K x y H Q ∨ rIxT X.K x y H Q) := ix_list.or ix_tup
theorem vr_ix {K : PySem.W.Frag} : VR K B uIx (fun x y H Q => rIxL K x y H Q ∨ rIxT K x y H Q) := by
  intro σ' σ H' H x' y' x y Q' Q s rx ry h k
  obtain ⟨l, us, p, rfl, r, q, h1⟩ := withS.ex h s rx
  obtain ⟨i, rfl, h2⟩ := withI.ex h1
  obtain ⟨v, e, h3⟩ := withO.ex h2
  simp only [RP] at ry
  obtain ⟨u, e1, e2⟩ := atI_ps r e
  have := k v H' u H h3 e2 s (Ev.refl _ _)
  rcases q with q | q
  · exact .inl ⟨p, us, i, u, rfl, ry, q, e1, this⟩
  · exact .inr ⟨p, us, i, u, rfl, ry, q, e1, this⟩
theorem qe_ix (ha : PE' X B a ta) (hb : PE' X B b tb) (hs : PlainIx b) : PE' X B (.Subscript a b pos) (uOp uIx ta tb) := pe_imp (pe_ix ix_both ha hb hs) fun _ _ _ h => low_op vr_ix h
abbrev TO' := St' → PHp → (Option Int → PHp → Prop) → Prop
def lowO (K : PySem.W.Frag) (B : Bs) (t : TO') : TO := fun σ H Q => ∃ σ' H' Q', SR K B σ' H' σ H ∧ t σ' H' Q' ∧ ∀ b H1' H1, Q' b H1' → SR K B σ' H1' σ H1 → Ev H' H H1' H1 → Q b H1
abbrev PO' (X : Cx) (B : Bs) (e : Option Expr) (t : TO') : Prop := L2.PO X e (lowO X.K B t)
theorem po_imp {e : Option Expr} {t1 t2 : TO} (h : L2.PO X e t2) (i : ∀ σ H Q, t1 σ H Q → t2 σ H Q) : L2.PO X e t1 := fun pins s σ H Q I q => h pins s σ H Q I (i σ H Q q)
def uNoPart : TO' := fun _ H Q => Q none H
def uPart (t : TE') : TO' := fun σ H Q => t σ H fun x H1 => withI x fun i => Q (some i) H1
theorem qo_none : PO' X B none uNoPart := po_imp po_none fun σ H Q ⟨σ', H', Q', s, h, k⟩ => k none H' H h s (Ev.refl _ _)
theorem qo_some (h : PE' X B e ta) : PO' X B (some e) (uPart ta) := po_imp (po_some h) fun σ H Q ⟨σ', H', Q', s, h, k⟩ => by
  refine ⟨σ', H', _, s, h, fun x H1' v H1 h1 r1 s1 e1 => ?_⟩
  obtain ⟨i, rfl, h1⟩ := withI.ex h1
  simp only [RP] at r1
  exact ⟨i, r1, k _ H1' H1 h1 s1 e1⟩
def cutP (xs : List PV) (lo hi : Option Int) : List PV := (xs.drop (HT.sIx xs.length 0 lo)).take (HT.sIx xs.length xs.length hi - HT.sIx xs.length 0 lo)
theorem cut_ps {K : PySem.W.Frag} {H : Hp} {l : List PV} {us : List V} {lo hi : Option Int} (r : RPs K H l us) : RPs K H (cutP l lo hi) (cutV us lo hi) := by
  unfold cutP cutV
  rw [RPs.length _ r]
  exact RPs.take _ _ (RPs.drop _ _ r)
def sliceOf (x : PV) (lo hi : Option Int) (H3 : PHp) (Q : VK') : Prop := match x with
  | .fls l => ∀ p, H3 p = none → Q (.ref p) (put H3 p (.lst (cutP l lo hi)))
  | .ref a => ∃ l, H3 a = some (.lst l) ∧ ∀ p, H3 p = none → Q (.ref p) (put H3 p (.lst (cutP l lo hi)))
  | .tup l => ¬ (HT.sIx l.length 0 lo = 0 ∧ HT.sIx l.length l.length hi = l.length) ∧ Q (.tup (cutP l lo hi)) H3
  | _ => False
def uSlice (ta : TE') (tl th : TO') : TE' := fun σ H Q => ta σ H fun x H1 => tl σ H1 fun lo H2 => th σ H2 fun hi H3 => sliceOf x lo hi H3 Q
theorem qe_slice {lo hi : Option Expr} {tl th : TO'} {p2 : Pos} (he : PE' X B e ta) (hl : PO' X B lo tl) (hu : PO' X B hi th) : PE' X B (.Subscript e (.Slice lo hi none p2) pos) (uSlice ta tl th) :=
  pe_imp (pe_slice (sl_list.or sl_tup) he hl hu) fun σ H Q ⟨σ', H', Q', s, h, k⟩ => by
  refine ⟨σ', H', _, s, h, fun x H1' v H1 h1 r1 s1 e1 => ⟨σ', H1', _, s1, h1, fun l H2' H2 h2 s2 e2 => ⟨σ', H2', _, s2, h2, fun u H3' H3 h3 s3 e3 => ?_⟩⟩⟩
  have r3 := RP.kp _ (e3.kp s2.hp) (RP.kp _ (e2.kp s1.hp) r1)
  have e123 := e1.trans (e2.trans e3)
  cases x with
  | fls xs =>
    simp only [RP] at r3
    obtain ⟨a, us, e, q, r⟩ := r3
    refine .inl ⟨a, us, e, q.sq, fun p n => ?_⟩
    exact k _ _ _ _ (h3 p (s3.hp.free n)) (by simp [RP]) (s3.new n (newL n (cut_ps r))) (e123.trans (Ev.new n))
  | ref a =>
    simp only [RP] at r3
    obtain ⟨xs, q, h3⟩ := h3
    obtain ⟨us, q2, r⟩ := s3.hp _ _ q
    refine .inl ⟨a, us, r3, SqL.of q2, fun p n => ?_⟩
    exact k _ _ _ _ (h3 p (s3.hp.free n)) (by simp [RP]) (s3.new n (newL n (cut_ps r))) (e123.trans (Ev.new n))
  | tup xs =>
    simp only [RP] at r3
    obtain ⟨a, us, e, q, r⟩ := r3
    refine .inr ⟨a, us, e, q, by rw [RPs.length _ r]; exact h3.1, fun p n => ?_⟩
    exact k _ _ _ _ h3.2 (newT n (cut_ps r)) (s3.hid n) (e123.trans (Ev.hid n))
  | _ => exact h3.elim
def VC (K : PySem.W.Frag) (B : Bs) (r' : List PV → PHp → VK' → Prop) (r : List V → Hp → VK → Prop) : Prop := ∀ (σ' : St') (σ : L2.St) (H' : PHp) (H : Hp) xs' xs (Q' : VK') (Q : VK), SR K B σ' H' σ H → RPs K H xs' xs → r' xs' H' Q' →
  (∀ v' H1' v H1, Q' v' H1' → RP K H1 v' v → SR K B σ' H1' σ H1 → Ev H' H H1' H1 → Q v H1) → r xs H Q
def uCB (r : List PV → PHp → VK' → Prop) (t : TA') : TE' := fun σ H Q => t σ H fun vs H1 => r vs H1 Q
theorem low_cb {K : PySem.W.Frag} {r' : List PV → PHp → VK' → Prop} {r : List V → Hp → VK → Prop} {t : TA'} (v : VC K B r' r) {σ : L2.St} {H : Hp} {Q : VK} (h : low K B (uCB r' t) σ H Q) : tCB r (lowA K B t) σ H Q := by
  obtain ⟨σ', H', Q', s, h, k⟩ := h
  exact ⟨σ', H', _, s, h, fun xs' H1' xs H1 h1 rx s1 e1 => v σ' σ H1' H1 xs' xs Q' Q s1 rx h1 fun v' H3' v H3 q rv s3 e3 => k v' H3' v H3 q rv s3 (e1.trans e3)⟩
variable {x : Str} {p : Pos}
theorem qe_callB {id : String} {r' : List PV → PHp → VK' → Prop} {r : List V → Hp → VK → Prop} (hc : CallR X (.builtin id) r) (v : VC X.K B r' r) (hg : Gl X x) (hm : X.mg x = none) (hv : bootBuiltins x = some (.builtin id)) (ha : PA' X B (e :: es) t)
    (hn : x ≠ "__name__" := by decide) (hdb : (x == ("__debug__" : Str)) = false := by decide) (he : starEach (e :: es) X.env = (false, eval e X.env) :: starEach es X.env := by rfl) (hpl : (backTo pos (starEach es X.env)).any (·.1) = false := by rfl) :
    PE' X B (.Call (.Name x p) (e :: es) [] pos) (uCB r' t) := pe_imp (pe_callB hc hg hm hv ha hn hdb he hpl) fun _ _ _ h => low_cb v h
theorem qe_callTy {id : String} {r' : List PV → PHp → VK' → Prop} {r : List V → Hp → VK → Prop} (hc : CallR X (.type id) r) (v : VC X.K B r' r) (hg : Gl X x) (hm : X.mg x = none) (hv : bootBuiltins x = some (.type id)) (ha : PA' X B (e :: es) t)
    (hn : x ≠ "__name__" := by decide) (hdb : (x == ("__debug__" : Str)) = false := by decide) (he : starEach (e :: es) X.env = (false, eval e X.env) :: starEach es X.env := by rfl) (hpl : (backTo pos (starEach es X.env)).any (·.1) = false := by rfl) :
    PE' X B (.Call (.Name x p) (e :: es) [] pos) (uCB r' t) := pe_imp (pe_callTy hc hg hm hv ha hn hdb he hpl) fun _ _ _ h => low_cb v h
def arg1 (f : PV → PHp → VK' → Prop) : List PV → PHp → VK' → Prop := fun xs H Q => match xs with
  | [x] => f x H Q
  | _ => False
theorem arg1.ex {K : PySem.W.Frag} {H : Hp} {f : PV → PHp → VK' → Prop} {xs' : List PV} {xs : List V} {H' : PHp} {Q' : VK'} (h : arg1 f xs' H' Q') (r : RPs K H xs' xs) : ∃ x' x, xs' = [x'] ∧ xs = [x] ∧ RP K H x' x ∧ f x' H' Q' := by
  unfold arg1 at h
  split at h
  · simp only [RPs] at r
    obtain ⟨u, r, rfl, q, rfl⟩ := r
    exact ⟨_, u, rfl, rfl, q, h⟩
  · exact h.elim
def uLen : List PV → PHp → VK' → Prop := arg1 fun x H Q => withS x H fun l => Q (.int l.length) H
theorem vc_len {K : PySem.W.Frag} : VC K B uLen (fun xs H Q => ∃ p ys, xs = [.ref p] ∧ (SqL K H p ys ∨ SqT K H p ys) ∧ Q (.int ys.length) H) := by
  intro σ' σ H' H xs' xs Q' Q s r h k
  obtain ⟨x', x, rfl, rfl, rx, h⟩ := arg1.ex h r
  obtain ⟨l, us, p, rfl, r, q, h⟩ := withS.ex h s rx
  exact ⟨p, us, rfl, q, k _ H' _ H h (by simp [RP, RPs.length _ r]) s (Ev.refl _ _)⟩
def uAbs : List PV → PHp → VK' → Prop := arg1 fun x H Q => withI x fun i => Q (.int (if i < 0 then -i else i)) H
def b2n (b : Bool) : Int := if b then 1 else 0
def intOf (x : PV) (k : Int → Prop) : Prop := match x with
  | .int i => k i
  | .bl b => k (b2n b)
  | _ => False
def uInt : List PV → PHp → VK' → Prop := arg1 fun x H Q => intOf x fun i => Q (.int i) H
def uList : List PV → PHp → VK' → Prop := arg1 fun x H Q => withS x H fun l => ∀ p, H p = none → Q (.ref p) (put H p (.lst l))
def uTuple : List PV → PHp → VK' → Prop := arg1 fun x H Q => withS x H fun l => Q (.tup l) H
theorem vc_tuple {K : PySem.W.Frag} : VC K B uTuple (fun xs H Q => ∃ p ys, xs = [.ref p] ∧ ((SqL K H p ys ∧ ∀ l, H l = none → Q (.ref l) (upd H l (.tup ys))) ∨ (SqT K H p ys ∧ Q (.ref p) H))) := by
  intro σ' σ H' H xs' xs Q' Q s r h k
  obtain ⟨x', x, rfl, rfl, rx, h⟩ := arg1.ex h r
  obtain ⟨l, us, p, rfl, r, q, h⟩ := withS.ex h s rx
  refine ⟨p, us, rfl, ?_⟩
  rcases q with q | q
  · exact .inl ⟨q, fun p n => k _ _ _ _ h (newT n r) (s.hid n) (Ev.hid n)⟩
  · exact .inr ⟨q, k _ _ _ _ h (by simp only [RP]; exact ⟨p, us, rfl, q, r⟩) s (Ev.refl _ _)⟩
end
end U


set_option linter.all false
set_option maxRecDepth 100000
set_option maxHeartbeats 4000000
namespace U
open PySem PySem.Spec PyProof.Rows L2
variable {B : Bs}
section
variable {X : Cx} {a b c e o : Expr} {es : List Expr} {ta tb te : TE'} {tA tB : TT'} {st : Stmt} {sts : List Stmt} {t u : TS'} {pos : Pos}
def uNext : TS' := fun D σ H => D.nx σ H
def uSeq (t u : TS') : TS' := fun D σ H => t { D with nx := u D } σ H
theorem qss_nil : PSs' X B [] uNext := pss_imp pss_nil fun D σ H ⟨σ', H', D', s, h, d⟩ => d.nx _ _ _ _ h s (Ev.refl _ _)
theorem qss_cons (h1 : PS' X B st t) (h2 : PSs' X B sts u) : PSs' X B (st :: sts) (uSeq t u) := pss_imp (pss_cons h1 h2) fun D σ H ⟨σ', H', D', s, h, d⟩ =>
  ⟨σ', H', _, s, h, fun σ1' H1' σ1 H1 h1 s1 e1 => ⟨σ1', H1', D', s1, h1, d.ev _ _ e1⟩, d.rt, d.bk, d.ct⟩
theorem qss_one (h1 : PS' X B st t) : PSs' X B [st] t := pss_one h1
def uBreak : TS' := fun D σ H => D.bk σ H
def uCont : TS' := fun D σ H => D.ct σ H
def uDrop (te : TE') : TS' := fun D σ H => te σ H fun _ H1 => D.nx σ H1
theorem qs_expr (he : PE' X B e te) (hs : swapsWith e none pos.line X.env = pure false := by rfl) : PS' X B (.Expr e pos) (uDrop te) := ps_imp (ps_expr he hs) fun D σ H ⟨σ', H', D', s, h, d⟩ =>
  ⟨σ', H', _, s, h, fun v' H1' v H1 h1 r1 s1 e1 => d.nx _ _ _ _ h1 s1 e1⟩
def uRet (te : TE') : TS' := fun D σ H => te σ H D.rt
theorem qs_ret (he : PE' X B e te) : PS' X B (.Return (some e) pos) (uRet te) := ps_imp (ps_ret he) fun D σ H ⟨σ', H', D', s, h, d⟩ =>
  ⟨σ', H', _, s, h, fun v' H1' v H1 h1 r1 s1 e1 => d.rt _ _ _ _ h1 r1 s1.hp e1⟩
def uRetN : TS' := fun D _ H => D.rt .non H
def uIfS (c : TT') (t u : TS') : TS' := fun D σ H => c σ H fun b H1 => cif b (t D σ H1) (u D σ H1)
theorem qs_if {l1 l2 : List Stmt} (hc : PT' X B c tA) (ha : PSs' X B l1 t) (hb : PSs' X B l2 u) : PS' X B (.If c l1 l2 pos) (uIfS tA t u) := ps_imp (ps_if hc ha hb) fun D σ H ⟨σ', H', D', s, h, d⟩ => by
  refine ⟨σ', H', _, s, h, fun x H1' H1 h1 s1 e1 => ?_⟩
  cases x with
  | true => exact iteT ⟨σ', H1', D', s1, h1, d.ev _ _ e1⟩
  | false => exact iteF ⟨σ', H1', D', s1, h1, d.ev _ _ e1⟩
def uNever : TS' := fun _ _ _ => False
theorem qss_never : PSs' X B sts uNever := fun _ _ _ _ _ _ ⟨_, _, _, _, h, _⟩ => h.elim
def vName (i : Nat) : TG' := fun v σ H Q => Q (σ.set i (some v)) H
theorem SR.set {K : PySem.W.Frag} {σ' : St'} {H' : PHp} {σ : L2.St} {H : Hp} {v' : PV} {v : V} (s : SR K B σ' H' σ H) (r : RP K H v' v) (i : Nat) : SR K B (σ'.set i (some v')) H' (σ.set i (some v)) H := by
  refine ⟨by simp [s.len], fun j w e => ?_, s.hp, s.ev⟩
  by_cases hj : i = j
  · subst hj
    have hl : i < σ'.length := by
      rcases Nat.lt_or_ge i σ'.length with h | h
      · exact h
      · rw [List.getElem?_eq_none (by simpa using h)] at e; cases e
    rw [List.getElem?_set_self hl] at e
    cases e
    exact ⟨v, List.getElem?_set_self (by rw [← s.len]; exact hl), r⟩
  · rw [List.getElem?_set_ne hj] at e ⊢
    exact s.loc j w e
theorem qg_name {i : Nat} {x : Str} (hN : X.N.Nodup) (hi : X.N[i]? = some x) (hx : Loc X.env.scope x) (hf : X.fn x = true ∨ X.env.scope.names.lookup x = some .local := by first | exact .inl rfl | exact .inr rfl | assumption) : PG' X B (.Name x pos) (vName i) :=
  pg_imp (pg_name hN hi hx hf) fun v σ H Q ⟨v', σ', H', Q', r, s, h, k⟩ => k _ _ _ _ h (s.set r i) (Ev.refl _ _)
def vNil : TGs' := fun vs σ H Q => vs = [] ∧ Q σ H
def vCons (t : TG') (u : TGs') : TGs' := fun vs σ H Q => match vs with
  | v :: r => t v σ H fun σ' H' => u r σ' H' Q
  | [] => False
theorem qgs_nil : PGs' X B [] vNil := pgs_imp pgs_nil fun vs σ H Q ⟨v', σ', H', Q', r, s, h, k⟩ => by
  obtain ⟨rfl, h⟩ := h
  simp only [RPs] at r
  exact ⟨r, k _ _ _ _ h s (Ev.refl _ _)⟩
theorem qgs_cons {t : TG'} {u : TGs'} (h1 : PG' X B e t) (h2 : PGs' X B es u) (hs : (assignEach (e :: es) X.env).map (·.2) = assign e X.env :: (assignEach es X.env).map (·.2) := by rfl) : PGs' X B (e :: es) (vCons t u) :=
  pgs_imp (pgs_cons h1 h2 hs) fun vs σ H Q ⟨vs', σ', H', Q', r, s, h, k⟩ => by
  cases vs' with
  | nil => exact h.elim
  | cons v' r' =>
    simp only [RPs] at r
    obtain ⟨v, w, rfl, rv, rw'⟩ := r
    refine ⟨v, w, rfl, v', σ', H', _, rv, s, h, fun σ1' H1' σ1 H1 h1 s1 e1 => ⟨r', σ1', H1', Q', RPs.kp _ (e1.kp s.hp) rw', s1, h1, fun σ2' H2' σ2 H2 h2 s2 e2 => k _ _ _ _ h2 s2 (e1.trans e2)⟩⟩
def vTup (n : Nat) (t : TGs') : TG' := fun v σ H Q => match v with
  | .tup l => l.length = n ∧ t l σ H Q
  | _ => False
theorem qg_tup {k : Nat} {t : TGs'} {n : Nat} (hc : X.calm = true) (h : PGs' X B es t) (hn : (assignEach es X.env).length = n := by rfl) (hst : (assignEach es X.env).findIdx? (·.1) = none := by rfl) : PG' X B (.Tuple es k pos) (vTup n t) :=
  pg_imp (pg_tup hc h hn hst) fun v σ H Q ⟨v', σ', H', Q', r, s, h, k⟩ => by
  cases v' with
  | tup l =>
    obtain ⟨hl, h⟩ := h
    simp only [RP] at r
    obtain ⟨a, us, rfl, q, r⟩ := r
    exact ⟨a, us, rfl, q, by rw [RPs.length _ r]; exact hl, l, σ', H', Q', r, s, h, k⟩
  | _ => exact h.elim
def uAsg (te : TE') (g : TG') : TS' := fun D σ H => te σ H fun x H1 => g x σ H1 D.nx
theorem low_asg {K : PySem.W.Frag} {te : TE'} {g : TG'} {D : Ends} {σ : L2.St} {H : Hp} (h : lowS K B (uAsg te g) D σ H) : tAsg (low K B te) (lowG K B g) D σ H := by
  obtain ⟨σ', H', D', s, h, d⟩ := h
  exact ⟨σ', H', _, s, h, fun x H1' v H1 h1 r1 s1 e1 => ⟨x, σ', H1', _, r1, s1, h1, fun σ2' H2' σ2 H2 h2 s2 e2 => d.nx _ _ _ _ h2 s2 (e1.trans e2)⟩⟩
theorem qs_asg {tg : Expr} {g : TG'} (he : PE' X B e te) (hg : PG' X B tg g) (hs : swapsWithSole [tg] e pos.line X.env = pure false := by rfl) (hw : swappedStores [tg] e X.env = pure none := by rfl)
    (h1 : (assignEach [tg] X.env).map (·.2) = [assign tg X.env] := by rfl) : PS' X B (.Assign [tg] e pos) (uAsg te g) := ps_imp (ps_asg he hg hs hw h1) fun _ _ _ h => low_asg h
theorem qs_set {i : Nat} {x : Str} {pos' : Pos} (hN : X.N.Nodup) (hi : X.N[i]? = some x) (hx : Loc X.env.scope x) (he : PE' X B e te) (hs : swapsWith e (some (.Name x pos')) pos.line X.env = pure false := by rfl) (hf : X.fn x = true ∨ X.env.scope.names.lookup x = some .local := by first | exact .inl rfl | exact .inr rfl | assumption) :
    PS' X B (.Assign [.Name x pos'] e pos) (uAsg te (vName i)) := ps_imp (ps_set hN hi hx he hs hf) fun D σ H h => by
  obtain ⟨σ', H', D', s, h, d⟩ := h
  exact ⟨σ', H', _, s, h, fun x H1' v H1 h1 r1 s1 e1 => d.nx _ _ _ _ h1 (s1.set r1 i) e1⟩
def uForL (ok : PHp → Prop) (g : TG') (tb : TS') (D : Ends') : List PV → St' → PHp → Prop
  | [], σ, H => ok H ∧ D.nx σ H
  | x :: r, σ, H => ok H ∧ g x σ H fun σ2 H2 => tb { D with nx := uForL ok g tb D r, ct := uForL ok g tb D r, bk := D.nx } σ2 H2
def uFor (wi : TI') (g : TG') (tb : TS') : TS' := fun D σ H => wi σ H fun J H1 => uForL J.ok g tb D J.items σ H1
theorem qs_for {iter tg : Expr} {body : List Stmt} {wi : TI'} {g : TG'} (hp : PassesOwn (model X.prog X.w) X.A X.env X.xe) (hc : X.calm = true) (hi : PI' X B tg iter wi) (hg : PG' X B tg g) (hb : PSs' X B body t)
    (hs : ∀ x, foldedSetIterable iter X.env x = pure x := by intro _; rfl) : PS' X B (.For tg iter body [] pos) (uFor wi g t) := ps_imp (ps_for hp hc hi hg hb hs) fun D σ H ⟨σ', H', D', s, h, d⟩ => by
  refine ⟨σ', H', _, s, h, fun J' H1' J H1 h1 wk s1 e1 => ?_⟩
  refine ⟨fun i m σ2 H2 => i ≤ J'.items.length ∧ m = J'.items.length - i ∧ ∃ σ2' H2', SR X.K B σ2' H2' σ2 H2 ∧ Ev H1' H1 H2' H2 ∧ uForL J'.ok g t D' (J'.items.drop i) σ2' H2', ⟨J'.items.length, Nat.zero_le _, by simp, σ', H1', s1, Ev.refl _ _, h1⟩, ?_⟩
  rintro i m σ2 H2 ⟨hi, rfl, σ2', H2', s2, e2, h2⟩
  have k2 := e2.kp s1.hp
  by_cases hlt : i < J'.items.length
  · obtain ⟨x', hx⟩ : ∃ x', J'.items[i]? = some x' := ⟨_, List.getElem?_eq_getElem hlt⟩
    have hd : J'.items.drop i = x' :: J'.items.drop (i + 1) := by
      rw [List.drop_eq_getElem_cons hlt]
      rw [List.getElem?_eq_getElem hlt] at hx
      cases hx; rfl
    rw [hd] at h2
    obtain ⟨ok2, h2⟩ := (show J'.ok H2' ∧ _ from h2)
    refine .inr ⟨wk.go H2' H2 i k2 s2.hp ok2 hlt, fun σ3 H3 => ∃ σ3' H3', SR X.K B σ3' H3' σ3 H3 ∧ Ev H1' H1 H3' H3 ∧ uForL J'.ok g t D' (J'.items.drop (i + 1)) σ3' H3', ?_, fun x H3 y => ?_⟩
    · rintro σ3 H3 ⟨σ3', H3', s3, e3, h3⟩
      exact ⟨J'.items.length - (i + 1), by omega, hlt, rfl, σ3', H3', s3, e3, h3⟩
    · obtain ⟨rfl, rx⟩ := wk.yld H2' H2 i x H3 k2 s2.hp ok2 y
      refine ⟨x', σ2', H2', _, rx x' hx, s2, h2, fun σ3' H3' σ3 H3 h3 s3 e3 => ⟨σ3', H3', _, s3, h3, ?_, ?_, ?_, ?_⟩⟩
      · intro σ4' H4' σ4 H4 h4 s4 e4
        exact ⟨σ4', H4', s4, e2.trans (e3.trans e4), h4⟩
      · intro v' H4' v H4 h4 r4 s4 e4
        exact d.rt _ _ _ _ h4 r4 s4 (e1.trans (e2.trans (e3.trans e4)))
      · intro σ4' H4' σ4 H4 h4 s4 e4
        exact d.nx _ _ _ _ h4 s4 (e1.trans (e2.trans (e3.trans e4)))
      · intro σ4' H4' σ4 H4 h4 s4 e4
        exact ⟨σ4', H4', s4, e2.trans (e3.trans e4), h4⟩
  · have hi' : i = J'.items.length := by omega
    subst hi'
    rw [List.drop_length] at h2
    obtain ⟨ok2, h2⟩ := (show J'.ok H2' ∧ _ from h2)
    exact .inl ⟨wk.stop H2' H2 _ k2 s2.hp ok2 (Nat.le_refl _), d.nx _ _ _ _ h2 s2 (e1.trans e2)⟩
def itOf (x : PV) (H1 : PHp) (R : It' → PHp → Prop) : Prop := match x with
  | .tup l => R ⟨l, fun _ => True⟩ H1
  | .fls l => R ⟨l, fun _ => True⟩ H1
  | .ref a => ∃ l, H1 a = some (.lst l) ∧ R ⟨l, fun H => H a = some (.lst l)⟩ H1
  | _ => False
def uSeqI (ta : TE') : TI' := fun σ H R => ta σ H fun x H1 => itOf x H1 R
def iSeq (K : PySem.W.Frag) (tl : TE) : TI := fun σ H R => tl σ H fun x H1 => ∃ a, x = .ref a ∧ ((∃ xs, SqL K H1 a xs) ∧ R (Itl K a) H1 ∨ (∃ xs, SqT K H1 a xs) ∧ R (Itt K a) H1)
theorem pi_seq {tg l : Expr} {tl : TE} (hl : PE X l tl) : PI X tg l (iSeq X.K tl) := by
  intro pins s σ H R I h
  refine thn (hl pins s σ H _ I h) fun v s1 ⟨x, H1, I1, r1, q1⟩ => ?_
  obtain ⟨a, e, ⟨⟨xs, hq⟩, q⟩ | ⟨⟨xs, hq⟩, q⟩⟩ := q1
  · subst e
    cases r1
    obtain ⟨its, rv, p, hz⟩ := I1.list hq
    refine wpAny_pyIter_list p.isList ?_
    refine ⟨s1.heap.objs.size, [s1.heap.objs.size], _, _, H1, rfl, I1.kept (t' := s1.toks) fun b o e => Heap.get?_push_of_some _ e, turn_list a _, ⟨_, Heap.get?_push_size _ rfl, rfl, rfl⟩, fun b hb => ?_, q⟩
    have e : b = s1.heap.objs.size := by simpa using hb
    subst e
    exact I1.fpOk (Nat.le_refl _) (I1.hok.fresh (Nat.le_refl _))
  · subst e
    cases r1
    obtain ⟨its, rv, p, hz⟩ := I1.tuple hq
    refine wpAny_pyIter_tuple (show s1.heap.IsTuple a its.toArray from p) ?_
    refine ⟨s1.heap.objs.size, [s1.heap.objs.size], _, _, H1, rfl, I1.kept (t' := s1.toks) fun b o e => Heap.get?_push_of_some _ e, turn_tuple a _, ⟨_, Heap.get?_push_size _ rfl, rfl, rfl⟩, fun b hb => ?_, q⟩
    have e : b = s1.heap.objs.size := by simpa using hb
    subst e
    exact I1.fpOk (Nat.le_refl _) (I1.hok.fresh (Nat.le_refl _))
theorem walks_list {K : PySem.W.Frag} {H1 : Hp} {J' : It'} {a : Addr} (h : ∀ H' H, Kp H1 H → HR K H' H → J'.ok H' → ∃ us, SqL K H a us ∧ RPs K H J'.items us) : Walks K H1 (Itl K a) J' where
  go := fun H' H i k s o hi => by
    obtain ⟨us, q, r⟩ := h H' H k s o
    obtain ⟨u, e, _⟩ := RPs.get _ r (List.getElem?_eq_getElem hi)
    exact ⟨us, u, q, e⟩
  yld := fun H' H i x H2 k s o y => by
    obtain ⟨us, q, r⟩ := h H' H k s o
    refine ⟨y.1, fun x' hx => ?_⟩
    obtain ⟨u, e, ru⟩ := RPs.get _ r hx
    have := y.2 us q
    rw [e] at this; cases this; exact ru
  stop := fun H' H i k s o hi => by
    obtain ⟨us, q, r⟩ := h H' H k s o
    exact ⟨us, q, by rw [RPs.length _ r]; exact hi⟩
theorem walks_tup {K : PySem.W.Frag} {H1 : Hp} {J' : It'} {a : Addr} (h : ∀ H' H, Kp H1 H → HR K H' H → J'.ok H' → ∃ us, SqT K H a us ∧ RPs K H J'.items us) : Walks K H1 (Itt K a) J' where
  go := fun H' H i k s o hi => by
    obtain ⟨us, q, r⟩ := h H' H k s o
    obtain ⟨u, e, _⟩ := RPs.get _ r (List.getElem?_eq_getElem hi)
    exact ⟨us, u, q, e⟩
  yld := fun H' H i x H2 k s o y => by
    obtain ⟨us, q, r⟩ := h H' H k s o
    refine ⟨y.1, fun x' hx => ?_⟩
    obtain ⟨u, e, ru⟩ := RPs.get _ r hx
    have := y.2 us q
    rw [e] at this; cases this; exact ru
  stop := fun H' H i k s o hi => by
    obtain ⟨us, q, r⟩ := h H' H k s o
    exact ⟨us, q, by rw [RPs.length _ r]; exact hi⟩
theorem qi_seq {tg : Expr} (ha : PE' X B a ta) : PI' X B tg a (uSeqI ta) := pi_imp (pi_seq ha) fun σ H R ⟨σ', H', R', s, h, k⟩ => by
  refine ⟨σ', H', _, s, h, fun x' H1' x H1 h1 r1 s1 e1 => ?_⟩
  cases x' with
  | tup l =>
    simp only [RP] at r1
    obtain ⟨p, us, rfl, q, r⟩ := r1
    exact ⟨p, rfl, .inr ⟨⟨us, q⟩, k _ H1' _ H1 h1 (walks_tup fun _ H2 k2 _ _ => ⟨us, k2.sqT q, RPs.kp _ k2 r⟩) s1 e1⟩⟩
  | fls l =>
    simp only [RP] at r1
    obtain ⟨p, us, rfl, q, r⟩ := r1
    exact ⟨p, rfl, .inl ⟨⟨us, q.sq⟩, k _ H1' _ H1 h1 (walks_list fun _ H2 k2 _ _ => ⟨us, (k2.fzL q).sq, RPs.kp _ k2 r⟩) s1 e1⟩⟩
  | ref p =>
    simp only [RP] at r1
    obtain ⟨l, q, h1⟩ := h1
    obtain ⟨us, q2, r⟩ := s1.hp _ _ q
    refine ⟨p, r1, .inl ⟨⟨us, SqL.of q2⟩, k _ H1' _ H1 h1 (walks_list fun H2' H2 k2 s2 o2 => ?_) s1 e1⟩⟩
    obtain ⟨us2, q3, r3⟩ := s2 _ _ o2
    exact ⟨us2, SqL.of q3, r3⟩
  | _ => exact h1.elim
def rngL (lo : Int) (n : Nat) : List PV := (List.range n).map fun k => PV.int (lo + (k : Nat))
theorem walks_rng {K : PySem.W.Frag} {H1 : Hp} {lo : Int} {n : Nat} : Walks K H1 (Itr lo n) ⟨rngL lo n, fun _ => True⟩ where
  go := fun H' H i k s o hi => by
    have h : i < n := by simpa [rngL] using hi
    exact h
  yld := fun H' H i x H2 k s o y => by
    obtain ⟨e, rfl⟩ := y
    refine ⟨e, fun x' hx => ?_⟩
    simp only [rngL, List.getElem?_map] at hx
    cases q : (List.range n)[i]? with
    | none => rw [q] at hx; cases hx
    | some j =>
      rw [q] at hx
      obtain ⟨h1, h2⟩ := List.getElem?_eq_some_iff.mp q
      rw [List.getElem_range] at h2
      subst h2
      cases hx
      simp [RP]
  stop := fun H' H i k s o hi => by
    have h : n ≤ i := by simpa [rngL] using hi
    exact h
def rng1 (vs : List PV) (H1 : PHp) (R : It' → PHp → Prop) : Prop := match vs with
  | [.int j] => (-(2 ^ 62) ≤ j ∧ j < 2 ^ 62) ∧ R ⟨rngL 0 j.toNat, fun _ => True⟩ H1
  | _ => False
def uRng1 (t : TA') : TI' := fun σ H R => t σ H fun vs H1 => rng1 vs H1 R
def rng2 (vs : List PV) (H1 : PHp) (R : It' → PHp → Prop) : Prop := match vs with
  | [.int i, .int j] => (-(2 ^ 62) ≤ i ∧ i < 2 ^ 62 ∧ -(2 ^ 62) ≤ j ∧ j < 2 ^ 62) ∧ R ⟨rngL i (j - i).toNat, fun _ => True⟩ H1
  | _ => False
def uRng2 (t : TA') : TI' := fun σ H R => t σ H fun vs H1 => rng2 vs H1 R
theorem qi_range1 {tg : Expr} {t : TA'} {p : Pos} (hg : Gl X "range") (hm : X.mg "range" = none) (ha : PA' X B [a] t) (hs : starEach [a] X.env = [(false, eval a X.env)] := by rfl) : PI' X B tg (.Call (.Name "range" p) [a] [] pos) (uRng1 t) :=
  pi_imp (pi_range1 hg hm ha hs) fun σ H R ⟨σ', H', R', s, h, k⟩ => by
  refine ⟨σ', H', _, s, h, fun vs' H1' vs H1 h1 r1 s1 e1 => ?_⟩
  unfold rng1 at h1
  split at h1
  · rename_i j
    simp only [RPs, RP] at r1
    obtain ⟨u, r, rfl, rfl, rfl⟩ := r1
    exact ⟨j, rfl, h1.1.1, h1.1.2, k _ H1' _ H1 h1.2 walks_rng s1 e1⟩
  · exact h1.elim
end
end U


set_option linter.all false
set_option maxRecDepth 100000
set_option maxHeartbeats 4000000
namespace U
open PySem PySem.Spec PyProof.Rows L2
variable {B : Bs}
abbrev Sp' := List PV → PHp → VK' → XK' → Prop
def lowSp (K : PySem.W.Frag) (sp : Sp') : Sp := fun vs H Q E => ∃ vs' H' Q' E', RPs K H vs' vs ∧ HR K H' H ∧ sp vs' H' Q' E' ∧ (∀ v' H1' v H1, Q' v' H1' → RP K H1 v' v → HR K H1' H1 → Ev H' H H1' H1 → Q v H1) ∧
  (∀ c d H1' H1, E' c d H1' → HR K H1' H1 → Ev H' H H1' H1 → E c d H1)
abbrev FnOk' (P : Program) (w : World) (K : PySem.W.Frag) (mg : Str → Option Value) (base : Heap) (CX : CXT) (k : Nat) (f : Addr) (fd : FuncData) (ps : List Str) (sp : Sp') : Prop := FnOk P w K mg base CX k f fd ps (lowSp K sp)
def start' (N : List Str) (vs : List PV) : St' := vs.map some ++ List.replicate (N.length - vs.length) none
theorem sr_start {K : PySem.W.Frag} {N : List Str} {vs' : List PV} {vs : List V} {H' : PHp} {H : Hp} (r : RPs K H vs' vs) (h : HR K H' H) : SR K (H', H) (start' N vs') H' (L2.start N vs) H := by
  have hl := RPs.length _ r
  refine ⟨by simp [start', L2.start, hl], fun i v' e => ?_, h, Ev.refl _ _⟩
  unfold start' at e
  unfold L2.start
  by_cases hi : i < vs'.length
  · rw [List.getElem?_append_left (by simpa using hi)] at e
    rw [List.getElem?_append_left (by simpa [hl] using hi)]
    rw [List.getElem?_map] at e ⊢
    cases q : vs'[i]? with
    | none => rw [q] at e; cases e
    | some w =>
      rw [q] at e
      cases e
      obtain ⟨u, e1, e2⟩ := RPs.get _ r q
      exact ⟨u, by rw [e1]; rfl, e2⟩
  · rw [List.getElem?_append_right (by simpa using hi)] at e
    rw [List.getElem?_replicate] at e
    split at e <;> cases e
def ends (Q : VK') : Ends' where
  nx := fun _ H => ∃ H3, Sub H3 H ∧ Q .non H3
  rt := fun v H => ∃ H3, Sub H3 H ∧ Q v H3
section
variable {P : Program} {w : World} {K : PySem.W.Frag} {mg : Str → Option Value} {base : Heap}
theorem okU {x qual : Str} {st : Stmt} {f : Addr} {fd : FuncData} {N ps : List Str} {k : Nat} {sp : Sp'} (F : Fun K x qual st f fd) (S : FnScope N ps (defScope st)) (len : ∀ vs H Q E, sp vs H Q E → vs.length = ps.length)
    (hbody : ∀ (cdv : Value) (A : Around) (outer : List Env) (s : Shared) (H : Hp) (E : XK) (B : Bs), Room k (A.deeper (envOfC qual (defScope st) s.heap.objs.size f cdv)) →
      ∃ t, PSs' (cxOf CX0 P w K mg base N qual (defScope st) f cdv A outer s H E).nox B (defBody st) t ∧ ∀ vs' H' Q' E', sp vs' H' Q' E' → t (ends Q') (start' N vs') H') : FnOk' P w K mg base CX0 (k + 1) f fd ps sp := by
  refine F.ok S (fun vs H Q E zz => ?_) (fun cdv A outer s H vs Q E hr h => ?_)
  · obtain ⟨vs', H', Q', E', r, hr, h, _⟩ := zz
    rw [RPs.length _ r]; exact len _ _ _ _ h
  · obtain ⟨vs', H', Q', E', r, hh, h, k1, k2⟩ := h
    obtain ⟨t, ht, hq⟩ := hbody cdv A outer s H E (H', H) hr
    refine ⟨_, ht, start' N vs', H', _, sr_start r hh, hq vs' H' Q' E' h, ?_, ?_, ?_, ?_⟩
    · rintro σ1' H1' σ1 H1 ⟨H3, sb, q⟩ s1 e1
      exact k1 _ H3 _ H1 q (by simp [RP]) (s1.hp.sub sb) (e1.sub sb)
    · rintro v' H1' v H1 ⟨H3, sb, q⟩ r1 s1 e1
      exact k1 _ H3 _ H1 q r1 (s1.sub sb) (e1.sub sb)
    · intro _ _ _ _ z; exact z.elim
    · intro _ _ _ _ z; exact z.elim
end
section
variable {X : Cx} {CX : CXT} {k : Nat} {f C : Addr} {fd : FuncData} {ps : List Str} {sp : Sp'} {E : XK} {E' : XK'} {x m : Str} {p pos apos : Pos} {e o : Expr} {es : List Expr} {ta : TE'} {t : TA'}
def uCall (sp : Sp') (E' : XK') (t : TA') : TE' := fun σ H Q => t σ H fun vs H1 => sp vs H1 Q E'
abbrev X0 : XK' := fun _ _ _ => False
theorem low_call0 {K : PySem.W.Frag} {σ : L2.St} {H : Hp} {Q : VK} (h : low K B (uCall sp X0 t) σ H Q) : tCall (lowSp K sp) [] E0 (lowA K B t) σ H Q := by
  obtain ⟨σ', H', Q', s, h, k⟩ := h
  refine ⟨σ', H', _, s, h, fun vs' H1' vs H1 h1 r1 s1 e1 => ?_⟩
  show lowSp K sp (vs ++ []) H1 Q E0
  rw [List.append_nil]
  exact ⟨vs', H1', Q', X0, r1, s1.hp, h1, fun v' H2' v H2 q r2 h2 e2 => k v' H2' v H2 q r2 (s1.kp e2 h2) (e1.trans e2), fun _ _ _ _ z => z.elim⟩
theorem qe_call (F : FnOk' X.prog X.w X.K X.mg X.base CX0 k f fd ps sp) (hr : Room k X.A) (hg : Gl X x) (hm : X.mg x = some (.ref f)) (hk : PySem.W.keepIn X.K (.ref f) = true) (hb : Binds X.K fd ps [])
    (ha : PA' X B (e :: es) t) (hdb : (x == ("__debug__" : Str)) = false := by decide) (he : starEach (e :: es) X.env = (false, eval e X.env) :: starEach es X.env := by rfl) (hpl : (backTo pos (starEach es X.env)).any (·.1) = false := by rfl) :
    PE' X B (.Call (.Name x p) (e :: es) [] pos) (uCall sp X0 t) := pe_imp (pe_call F hr hg hm hk hb .nil pass0 ha hdb he hpl) fun _ _ _ h => low_call0 h
theorem fz_of {K : PySem.W.Frag} {H : Hp} {a : Addr} {xs : List V} (o : Only H) (h : SqL K H a xs) : FzL K H a xs := by
  rcases h with (h | h) | h
  · rcases o a with z | ⟨ob, ys, z⟩
    · rw [z] at h; cases h
    · rw [z] at h; cases h
  · exact .inl h
  · exact .inr h
def spL : Sp' := fun vs H Q _ => match vs with
  | [.fls l] => ∃ ns : List Int, l = ns.map PV.int ∧ ns.length ≤ 63 ∧ Q (.bl true) H
  | _ => False
theorem spL_start {K : PySem.W.Frag} {H : Hp} {a : Addr} {ns : List Int} (hl : ns.length ≤ 63) (o : Only H) (h : SqL K H a (ns.map V.int)) : lowSp K spL [.ref a] H (fun v _ => v = .bl true) fun _ _ _ => False := by
  refine ⟨[.fls (ns.map PV.int)], fun _ => none, fun v _ => v = .bl true, X0, ?_, fun _ _ z => (nomatch z), ⟨ns, rfl, hl, rfl⟩, fun v' _ v _ q r _ _ => ?_, fun _ _ _ _ z => z.elim⟩
  · refine RPs.cons _ ?_ (RPs.nil _)
    simp only [RP]
    exact ⟨a, _, rfl, fz_of o h, RPs.ints _ _⟩
  · subst q
    simpa [RP] using r
end
end U


set_option linter.all false
set_option maxRecDepth 100000
set_option maxHeartbeats 4000000
namespace U
open PySem PySem.Spec PyProof.Rows L2
variable {B : Bs}
mutual
def deq : PV → PV → Bool
  | .non, .non => true
  | .bl a, .bl b => a == b
  | .int a, .int b => a == b
  | .bl a, .int b => (if a then 1 else 0) == b
  | .int a, .bl b => a == (if b then 1 else 0)
  | .str a, .str b => a == b
  | .tup l, .tup m => deqs l m
  | .fls l, .fls m => deqs l m
  | _, _ => false
def deqs : List PV → List PV → Bool
  | [], [] => true
  | x :: l, y :: m => deq x y && deqs l m
  | _, _ => false
end
def flat : Nat → PV → Bool
  | _, .non => true
  | _, .bl _ => true
  | _, .int _ => true
  | _, .str _ => true
  | n + 1, .tup l => l.all (flat n)
  | n + 1, .fls l => l.all (flat n)
  | _, _ => false
theorem deqs_range : ∀ (l m : List PV), deqs l m = ((List.range (min l.length m.length)).all (fun i => deq (l.getD i .non) (m.getD i .non)) && l.length == m.length)
  | [], [] => by simp [deqs]
  | [], _ :: _ => by simp [deqs]
  | _ :: _, [] => by simp [deqs]
  | x :: l, y :: m => by
    simp only [deqs, deqs_range l m, List.length_cons]
    rw [show min (l.length + 1) (m.length + 1) = min l.length m.length + 1 by omega, List.range_succ_eq_map, List.all_cons, List.all_map]
    simp only [List.getD_cons_zero, Bool.and_assoc]
    congr 1
    congr 1
    simp
theorem deqs_refl {n : Nat} : ∀ (l : List PV), (∀ x ∈ l, deq x x = true) → deqs l l = true
  | [], _ => rfl
  | x :: l, h => by
    have h1 := h x (by simp)
    have h2 := deqs_refl (n := n) l fun y hy => h y (by simp [hy])
    simp only [deqs, h1, h2, Bool.and_self]
theorem deq_refl : ∀ {n : Nat} {x : PV}, flat n x = true → deq x x = true
  | _, .non, _ => by simp [deq]
  | _, .bl _, _ => by simp [deq]
  | _, .int _, _ => by simp [deq]
  | _, .str _, _ => by simp [deq]
  | n + 1, .tup l, h => by
    simp only [flat, List.all_eq_true] at h
    simp only [deq]
    exact deqs_refl (n := 0) l fun x hx => deq_refl (h x hx)
  | n + 1, .fls l, h => by
    simp only [flat, List.all_eq_true] at h
    simp only [deq]
    exact deqs_refl (n := 0) l fun x hx => deq_refl (h x hx)
  | 0, .tup _, h => by cases h
  | 0, .fls _, h => by cases h
  | n, .ref _, h => by cases n <;> cases h
  | n, .oth _, h => by cases n <;> cases h
section
variable {X : Cx} {pins : List (Addr × Obj)} {σ : L2.St} {H : Hp} {s : Shared}
def RR (K : PySem.W.Frag) (H : Hp) (x : PV) (u : Value) : Prop := ∃ v, RP K H x v ∧ RelV v u
def RL (K : PySem.W.Frag) (H : Hp) (l : List PV) (us : List Value) : Prop := ∃ vs, RPs K H l vs ∧ Vals vs us
def RD (K : PySem.W.Frag) (H : Hp) (x : PV) (u : Value) : Prop := match x with
  | .fls l => ∃ a vs, u = .ref a ∧ SqL K H a vs ∧ RPs K H l vs
  | x => RR K H x u
theorem RL.get {K : PySem.W.Frag} {l : List PV} {us : List Value} (r : RL K H l us) {i : Nat} {u : Value} (e : us[i]? = some u) : ∃ x, l[i]? = some x ∧ RR K H x u := by
  obtain ⟨vs, r1, r2⟩ := r
  have hl := r2.length
  have hl2 := RPs.length _ r1
  have hi : i < l.length := by
    have := (List.getElem?_eq_some_iff.mp e).1
    omega
  obtain ⟨v, e1, e2⟩ := RPs.get _ r1 (List.getElem?_eq_getElem hi)
  obtain ⟨w, e3, e4⟩ := r2.get e1
  rw [e] at e3; cases e3
  exact ⟨_, List.getElem?_eq_getElem hi, v, e2, e4⟩
theorem RL.length {K : PySem.W.Frag} {l : List PV} {us : List Value} (r : RL K H l us) : us.length = l.length := by
  obtain ⟨vs, r1, r2⟩ := r
  rw [← r2.length, RPs.length _ r1]
theorem RR.rd {K : PySem.W.Frag} {x : PV} {u : Value} (r : RR K H x u) : RD K H x u := by
  cases x with
  | fls l =>
    obtain ⟨v, r1, r2⟩ := r
    simp only [RP] at r1
    obtain ⟨a, us, rfl, q, rr⟩ := r1
    cases r2
    exact ⟨a, us, rfl, q.sq, rr⟩
  | _ => exact r
theorem rd_tup (I : Inv X pins σ H s) {l : List PV} {u : Value} (r : RD X.K H (.tup l) u) : ∃ a its, u = .ref a ∧ RL X.K H l its ∧ s.heap.IsTuple a its.toArray := by
  obtain ⟨v, r1, r2⟩ := r
  simp only [RP] at r1
  obtain ⟨a, us, rfl, q, rr⟩ := r1
  cases r2
  obtain ⟨its, rv, p, _⟩ := I.tuple q
  exact ⟨a, its, rfl, ⟨us, rr, rv⟩, p⟩
theorem rd_lst (I : Inv X pins σ H s) {l : List PV} {u : Value} (r : RD X.K H (.fls l) u) : ∃ a its, u = .ref a ∧ RL X.K H l its ∧ s.heap.IsList a its.toArray := by
  obtain ⟨a, us, rfl, q, rr⟩ := r
  obtain ⟨its, rv, p, _⟩ := I.list q
  exact ⟨a, its, rfl, ⟨us, rr, rv⟩, p.isList⟩
theorem isTuple_inj {a : Addr} {x y : Array Value} (h1 : s.heap.IsTuple a x) (h2 : s.heap.IsTuple a y) : x = y := by
  obtain ⟨o, e, c, n, d⟩ := h1
  obtain ⟨o', e', c', n', d'⟩ := h2
  rw [e] at e'; cases e'; rw [d] at d'; cases d'; rfl
theorem isList_inj {a : Addr} {x y : Array Value} (h1 : s.heap.IsList a x) (h2 : s.heap.IsList a y) : x = y := by
  obtain ⟨o, e, c, n, d⟩ := h1
  obtain ⟨o', e', c', n', d'⟩ := h2
  rw [e] at e'; cases e'; rw [d] at d'; cases d'; rfl
theorem not_both {a : Addr} {x y : Array Value} (h1 : s.heap.IsTuple a x) (h2 : s.heap.IsList a y) : False := by
  obtain ⟨o, e, c, n, d⟩ := h1
  obtain ⟨o', e', c', n', d'⟩ := h2
  rw [e] at e'; cases e'; rw [c] at c'; exact absurd c' (by decide)
theorem RL.list_inj {K : PySem.W.Frag} {n : Nat} (ih : ∀ {x y : PV} {u : Value}, flat n x = true → flat n y = true → RD K H x u → RD K H y u → x = y) {l m : List PV} {us : List Value} (h1 : l.all (flat n) = true) (h2 : m.all (flat n) = true)
    (r1 : RL K H l us) (r2 : RL K H m us) : l = m := by
  rw [List.all_eq_true] at h1 h2
  refine List.ext_getElem? fun i => ?_
  cases e : us[i]? with
  | none =>
    have := List.getElem?_eq_none_iff.mp e
    rw [List.getElem?_eq_none (by rw [← r1.length]; exact this), List.getElem?_eq_none (by rw [← r2.length]; exact this)]
  | some u =>
    obtain ⟨x, ex, rx⟩ := r1.get e
    obtain ⟨y, ey, ry⟩ := r2.get e
    rw [ex, ey, ih (h1 x (List.mem_of_getElem? ex)) (h2 y (List.mem_of_getElem? ey)) rx.rd ry.rd]
theorem rd_inj (I : Inv X pins σ H s) : ∀ (n : Nat) {x y : PV} {u : Value}, flat n x = true → flat n y = true → RD X.K H x u → RD X.K H y u → x = y := by
  have sc : ∀ {x : PV} {u : Value}, RD X.K H x u → (∀ l, x ≠ .fls l) → RR X.K H x u := fun {x u} r h => by
    cases x with
    | fls l => exact absurd rfl (h l)
    | _ => exact r
  intro n
  induction n with
  | zero =>
    intro x y u hx hy rx ry
    cases x <;> first | (cases hx; done) | skip
    all_goals cases y <;> first | (cases hy; done) | skip
    all_goals
      obtain ⟨v, r1, r2⟩ := sc rx (by intro l z; cases z)
      obtain ⟨v', r1', r2'⟩ := sc ry (by intro l z; cases z)
      simp only [RP] at r1 r1'
      subst r1; subst r1'
      have := RelV.inj r2 r2'
      first | rfl | (cases this; done) | (cases this; rfl)
  | succ n ih =>
    intro x y u hx hy rx ry
    cases x with
    | tup l =>
      obtain ⟨a, its, rfl, rl, p⟩ := rd_tup I rx
      cases y with
      | tup m =>
        obtain ⟨b, its', e, rl', p'⟩ := rd_tup I ry
        cases e
        have := isTuple_inj p p'
        have e2 : its = its' := by simpa using this
        subst e2
        rw [RL.list_inj (n := n) ih hx hy rl rl']
      | fls m =>
        obtain ⟨b, its', e, rl', p'⟩ := rd_lst I ry
        cases e
        exact (not_both p p').elim
      | ref a => cases hy
      | oth a => cases hy
      | _ =>
        obtain ⟨v', r1', r2'⟩ := sc ry (by intro l z; cases z)
        simp only [RP] at r1'
        subst r1'
        simp [L2.RelV] at r2'
    | fls l =>
      obtain ⟨a, its, rfl, rl, p⟩ := rd_lst I rx
      cases y with
      | tup m =>
        obtain ⟨b, its', e, rl', p'⟩ := rd_tup I ry
        cases e
        exact (not_both p' p).elim
      | fls m =>
        obtain ⟨b, its', e, rl', p'⟩ := rd_lst I ry
        cases e
        have := isList_inj p p'
        have e2 : its = its' := by simpa using this
        subst e2
        rw [RL.list_inj (n := n) ih hx hy rl rl']
      | ref a => cases hy
      | oth a => cases hy
      | _ =>
        obtain ⟨v', r1', r2'⟩ := sc ry (by intro l z; cases z)
        simp only [RP] at r1'
        subst r1'
        simp [L2.RelV] at r2'
    | ref a => cases hx
    | oth a => cases hx
    | _ =>
      cases y with
      | tup m =>
        obtain ⟨b, its', e, rl', p'⟩ := rd_tup I ry
        subst e
        obtain ⟨v', r1', r2'⟩ := sc rx (by intro l z; cases z)
        simp only [RP] at r1'
        subst r1'
        simp [L2.RelV] at r2'
      | fls m =>
        obtain ⟨b, its', e, rl', p'⟩ := rd_lst I ry
        subst e
        obtain ⟨v', r1', r2'⟩ := sc rx (by intro l z; cases z)
        simp only [RP] at r1'
        subst r1'
        simp [L2.RelV] at r2'
      | ref a => cases hy
      | oth a => cases hy
      | _ =>
        obtain ⟨v, r1, r2⟩ := sc rx (by intro l z; cases z)
        obtain ⟨v', r1', r2'⟩ := sc ry (by intro l z; cases z)
        simp only [RP] at r1 r1'
        subst r1; subst r1'
        have := RelV.inj r2 r2'
        first | rfl | (cases this; done) | (cases this; rfl)

open SeqAt in
theorem eq_core (I : Inv X pins σ H s) : ∀ (n : Nat) {A : Around} {x y : PV} {u w : Value}, A.units + n < cLine → flat n x = true → flat n y = true → RD X.K H x u → RD X.K H y w → EqAt A s u w (deq x y) ∧ RcAt A s u w (deq x y) := by
  have sc : ∀ {x : PV} {u : Value}, RD X.K H x u → (∀ l, x ≠ .fls l) → RR X.K H x u := fun {x u} r h => by
    cases x with
    | fls l => exact absurd rfl (h l)
    | _ => exact r
  have v_non : ∀ {u : Value}, RD X.K H .non u → u = .none := fun {u} r => by
    obtain ⟨v, r1, r2⟩ := sc r (by intro l z; cases z); simp only [RP] at r1; subst r1; exact r2
  have v_bl : ∀ {b : Bool} {u : Value}, RD X.K H (.bl b) u → u = .bool b := fun {b u} r => by
    obtain ⟨v, r1, r2⟩ := sc r (by intro l z; cases z); simp only [RP] at r1; subst r1; exact r2
  have v_int : ∀ {i : Int} {u : Value}, RD X.K H (.int i) u → ∃ t, u = .int i t := fun {b u} r => by
    obtain ⟨v, r1, r2⟩ := sc r (by intro l z; cases z); simp only [RP] at r1; subst r1; exact r2
  have v_str : ∀ {i : Str} {u : Value}, RD X.K H (.str i) u → ∃ t, u = .str i t := fun {b u} r => by
    obtain ⟨v, r1, r2⟩ := sc r (by intro l z; cases z); simp only [RP] at r1; subst r1; exact r2
  intro n
  induction n with
  | zero =>
    intro A x y u w hu hx hy rx ry
    cases x with
    | non =>
      rw [v_non rx]
      cases y with
      | non => rw [v_non ry]; exact ⟨EqAt.same _, RcAt.none_none⟩
      | bl b => rw [v_bl ry]; exact ⟨EqAt.none_bool b, RcAt.none_bool b⟩
      | int b => obtain ⟨t, rfl⟩ := v_int ry; exact ⟨EqAt.none_int b t, RcAt.none_int b t⟩
      | str b => obtain ⟨t, rfl⟩ := v_str ry; exact ⟨EqAt.none_str b t, RcAt.none_str b t⟩
      | _ => cases hy
    | bl a =>
      rw [v_bl rx]
      cases y with
      | non => rw [v_non ry]; exact ⟨EqAt.bool_none a, RcAt.bool_none a⟩
      | bl b => rw [v_bl ry]; exact ⟨EqAt.bool_bool a b, RcAt.bool_bool a b⟩
      | int b => obtain ⟨t, rfl⟩ := v_int ry; exact ⟨EqAt.bool_int a b t, RcAt.bool_int a b t⟩
      | str b => obtain ⟨t, rfl⟩ := v_str ry; exact ⟨EqAt.bool_str a b t, RcAt.bool_str a b t⟩
      | _ => cases hy
    | int a =>
      obtain ⟨t0, rfl⟩ := v_int rx
      cases y with
      | non => rw [v_non ry]; exact ⟨EqAt.int_none a t0, RcAt.int_none a t0⟩
      | bl b => rw [v_bl ry]; exact ⟨EqAt.int_bool a t0 b, RcAt.int_bool a t0 b⟩
      | int b => obtain ⟨t, rfl⟩ := v_int ry; exact ⟨EqAt.int_int a t0 b t, RcAt.int_int a t0 b t⟩
      | str b => obtain ⟨t, rfl⟩ := v_str ry; exact ⟨EqAt.int_str a t0 b t, RcAt.int_str a t0 b t⟩
      | _ => cases hy
    | str a =>
      obtain ⟨t0, rfl⟩ := v_str rx
      cases y with
      | non => rw [v_non ry]; exact ⟨EqAt.str_none a t0, RcAt.str_none a t0⟩
      | bl b => rw [v_bl ry]; exact ⟨EqAt.str_bool a t0 b, RcAt.str_bool a t0 b⟩
      | int b => obtain ⟨t, rfl⟩ := v_int ry; exact ⟨EqAt.str_int a t0 b t, RcAt.str_int a t0 b t⟩
      | str b => obtain ⟨t, rfl⟩ := v_str ry; exact ⟨EqAt.str_str a t0 b t, RcAt.str_str a t0 b t⟩
      | _ => cases hy
    | _ => cases hx
  | succ n ih =>
    intro A x y u w hu hx hy rx ry
    have hu0 : A.units < cLine := by omega
    have hu1 : A.in1.units + n < cLine := by show A.units + 1 + n < cLine; omega
    cases x with
    | tup l =>
      obtain ⟨a, its, rfl, rl, p⟩ := rd_tup I rx
      cases y with
      | non => rw [v_non ry]; exact ⟨EqAt.tuple_none p hu0, RcAt.tuple_none p hu0⟩
      | bl b => rw [v_bl ry]; exact ⟨EqAt.tuple_bool b p hu0, RcAt.tuple_bool b p hu0⟩
      | int b => obtain ⟨t, rfl⟩ := v_int ry; exact ⟨EqAt.tuple_int b t p hu0, RcAt.tuple_int b t p hu0⟩
      | str b => obtain ⟨t, rfl⟩ := v_str ry; exact ⟨EqAt.tuple_str b t p hu0, RcAt.tuple_str b t p hu0⟩
      | tup m =>
        obtain ⟨b, its', rfl, rl', p'⟩ := rd_tup I ry
        have key : RcAt A s (.ref a) (.ref b) (deq (.tup l) (.tup m)) := by
          have := RcAt.tuples (e := fun i => deq (l.getD i .non) (m.getD i .non)) p p' hu0 fun j h1 h2 => by
            have h1' : j < its.length := by simpa using h1
            have h2' : j < its'.length := by simpa using h2
            obtain ⟨x, ex, rx'⟩ := rl.get (List.getElem?_eq_getElem h1')
            obtain ⟨y, ey, ry'⟩ := rl'.get (List.getElem?_eq_getElem h2')
            have q := ih hu1 (List.all_eq_true.mp hx x (List.mem_of_getElem? ex)) (List.all_eq_true.mp hy y (List.mem_of_getElem? ey)) rx'.rd ry'.rd
            have e1 : l.getD j .non = x := by rw [List.getD_eq_getElem?_getD, ex]; rfl
            have e2 : m.getD j .non = y := by rw [List.getD_eq_getElem?_getD, ey]; rfl
            rw [e1, e2]
            simpa using q.1
          have e : deq (.tup l) (.tup m) = ((List.range (min its.toArray.size its'.toArray.size)).all (fun i => deq (l.getD i .non) (m.getD i .non)) && its.toArray.size == its'.toArray.size) := by
            simp only [deq, deqs_range, List.size_toArray, rl.length, rl'.length]
          rw [e]; exact this
        refine ⟨?_, key⟩
        by_cases hab : a = b
        · subst hab
          have := rd_inj I (n + 1) hx hy rx ry
          rw [← this, deq_refl hx]; exact EqAt.same _
        · exact EqAt.of_refs hab key
      | fls m =>
        obtain ⟨b, its', rfl, rl', p'⟩ := rd_lst I ry
        exact ⟨EqAt.tuple_list p p' hu0, RcAt.tuple_list p p' hu0⟩
      | _ => cases hy
    | fls l =>
      obtain ⟨a, its, rfl, rl, p⟩ := rd_lst I rx
      cases y with
      | non => rw [v_non ry]; exact ⟨EqAt.list_none p hu0, RcAt.list_none p hu0⟩
      | bl b => rw [v_bl ry]; exact ⟨EqAt.list_bool b p hu0, RcAt.list_bool b p hu0⟩
      | int b => obtain ⟨t, rfl⟩ := v_int ry; exact ⟨EqAt.list_int b t p hu0, RcAt.list_int b t p hu0⟩
      | str b => obtain ⟨t, rfl⟩ := v_str ry; exact ⟨EqAt.list_str b t p hu0, RcAt.list_str b t p hu0⟩
      | tup m =>
        obtain ⟨b, its', rfl, rl', p'⟩ := rd_tup I ry
        exact ⟨EqAt.list_tuple p p' hu0, RcAt.list_tuple p p' hu0⟩
      | fls m =>
        obtain ⟨b, its', rfl, rl', p'⟩ := rd_lst I ry
        have key : RcAt A s (.ref a) (.ref b) (deq (.fls l) (.fls m)) := by
          by_cases hs : its.length = its'.length
          · have := RcAt.lists (e := fun i => deq (l.getD i .non) (m.getD i .non)) p p' (by simpa using hs) hu0 fun j h1 h2 => by
              have h1' : j < its.length := by simpa using h1
              have h2' : j < its'.length := by simpa using h2
              obtain ⟨x, ex, rx'⟩ := rl.get (List.getElem?_eq_getElem h1')
              obtain ⟨y, ey, ry'⟩ := rl'.get (List.getElem?_eq_getElem h2')
              have q := ih hu1 (List.all_eq_true.mp hx x (List.mem_of_getElem? ex)) (List.all_eq_true.mp hy y (List.mem_of_getElem? ey)) rx'.rd ry'.rd
              have e1 : l.getD j .non = x := by rw [List.getD_eq_getElem?_getD, ex]; rfl
              have e2 : m.getD j .non = y := by rw [List.getD_eq_getElem?_getD, ey]; rfl
              rw [e1, e2]
              simpa using q.1
            have e : deq (.fls l) (.fls m) = (List.range its.toArray.size).all (fun i => deq (l.getD i .non) (m.getD i .non)) := by
              have e0 : l.length = m.length := by rw [← rl.length, ← rl'.length]; exact hs
              simp [deq, deqs_range, rl.length, e0]
            rw [e]; exact this
          · have e : deq (.fls l) (.fls m) = false := by
              have e0 : l.length ≠ m.length := by rw [← rl.length, ← rl'.length]; exact hs
              simp [deq, deqs_range, e0]
            rw [e]
            exact RcAt.lists_lengths p p' (by simpa using hs) hu0
        refine ⟨?_, key⟩
        by_cases hab : a = b
        · subst hab
          have := rd_inj I (n + 1) hx hy rx ry
          rw [← this, deq_refl hx]; exact EqAt.same _
        · exact EqAt.of_refs hab key
      | _ => cases hy
    | ref a => cases hx
    | oth a => cases hx
    | non =>
      cases y with
      | tup m => obtain ⟨b, its', rfl, rl', p'⟩ := rd_tup I ry; rw [v_non rx]; exact ⟨EqAt.none_tuple p' hu0, RcAt.none_tuple p' hu0⟩
      | fls m => obtain ⟨b, its', rfl, rl', p'⟩ := rd_lst I ry; rw [v_non rx]; exact ⟨EqAt.none_list p' hu0, RcAt.none_list p' hu0⟩
      | ref a => cases hy
      | oth a => cases hy
      | _ => exact ih (by omega) (by cases n <;> rfl) (by cases n <;> rfl) rx ry
    | bl i =>
      cases y with
      | tup m => obtain ⟨b, its', rfl, rl', p'⟩ := rd_tup I ry; rw [v_bl rx]; exact ⟨EqAt.bool_tuple i p' hu0, RcAt.bool_tuple i p' hu0⟩
      | fls m => obtain ⟨b, its', rfl, rl', p'⟩ := rd_lst I ry; rw [v_bl rx]; exact ⟨EqAt.bool_list i p' hu0, RcAt.bool_list i p' hu0⟩
      | ref a => cases hy
      | oth a => cases hy
      | _ => exact ih (by omega) (by cases n <;> rfl) (by cases n <;> rfl) rx ry
    | int i =>
      cases y with
      | tup m => obtain ⟨b, its', rfl, rl', p'⟩ := rd_tup I ry; obtain ⟨t, rfl⟩ := v_int rx; exact ⟨EqAt.int_tuple i t p' hu0, RcAt.int_tuple i t p' hu0⟩
      | fls m => obtain ⟨b, its', rfl, rl', p'⟩ := rd_lst I ry; obtain ⟨t, rfl⟩ := v_int rx; exact ⟨EqAt.int_list i t p' hu0, RcAt.int_list i t p' hu0⟩
      | ref a => cases hy
      | oth a => cases hy
      | _ => exact ih (by omega) (by cases n <;> rfl) (by cases n <;> rfl) rx ry
    | str i =>
      cases y with
      | tup m => obtain ⟨b, its', rfl, rl', p'⟩ := rd_tup I ry; obtain ⟨t, rfl⟩ := v_str rx; exact ⟨EqAt.str_tuple i t p' hu0, RcAt.str_tuple i t p' hu0⟩
      | fls m => obtain ⟨b, its', rfl, rl', p'⟩ := rd_lst I ry; obtain ⟨t, rfl⟩ := v_str rx; exact ⟨EqAt.str_list i t p' hu0, RcAt.str_list i t p' hu0⟩
      | ref a => cases hy
      | oth a => cases hy
      | _ => exact ih (by omega) (by cases n <;> rfl) (by cases n <;> rfl) rx ry
end
end U


set_option linter.all false
set_option maxRecDepth 100000
set_option maxHeartbeats 4000000
namespace U
open PySem PySem.Spec PyProof.Rows L2
variable {B : Bs}
section
variable {X : Cx} {pins : List (Addr × Obj)} {σ : L2.St} {H : Hp} {s : Shared}
open SeqAt in
theorem ne_core (I : Inv X pins σ H s) : ∀ (n : Nat) {A : Around} {x y : PV} {u w : Value}, A.units + n < cLine → flat n x = true → flat n y = true → RD X.K H x u → RD X.K H y w → RcNeAt A s u w (!deq x y) := by
  have sc : ∀ {x : PV} {u : Value}, RD X.K H x u → (∀ l, x ≠ .fls l) → RR X.K H x u := fun {x u} r h => by
    cases x with
    | fls l => exact absurd rfl (h l)
    | _ => exact r
  have v_non : ∀ {u : Value}, RD X.K H .non u → u = .none := fun {u} r => by
    obtain ⟨v, r1, r2⟩ := sc r (by intro l z; cases z); simp only [RP] at r1; subst r1; exact r2
  have v_bl : ∀ {b : Bool} {u : Value}, RD X.K H (.bl b) u → u = .bool b := fun {b u} r => by
    obtain ⟨v, r1, r2⟩ := sc r (by intro l z; cases z); simp only [RP] at r1; subst r1; exact r2
  have v_int : ∀ {i : Int} {u : Value}, RD X.K H (.int i) u → ∃ t, u = .int i t := fun {b u} r => by
    obtain ⟨v, r1, r2⟩ := sc r (by intro l z; cases z); simp only [RP] at r1; subst r1; exact r2
  have v_str : ∀ {i : Str} {u : Value}, RD X.K H (.str i) u → ∃ t, u = .str i t := fun {b u} r => by
    obtain ⟨v, r1, r2⟩ := sc r (by intro l z; cases z); simp only [RP] at r1; subst r1; exact r2
  intro n
  induction n with
  | zero =>
    intro A x y u w hu hx hy rx ry
    cases x with
    | non =>
      rw [v_non rx]
      cases y with
      | non => rw [v_non ry]; exact RcNeAt.none_none
      | bl b => rw [v_bl ry]; exact RcNeAt.none_bool b
      | int b => obtain ⟨t, rfl⟩ := v_int ry; exact RcNeAt.none_int b t
      | str b => obtain ⟨t, rfl⟩ := v_str ry; exact RcNeAt.none_str b t
      | _ => cases hy
    | bl a =>
      rw [v_bl rx]
      cases y with
      | non => rw [v_non ry]; exact RcNeAt.bool_none a
      | bl b => rw [v_bl ry]; exact RcNeAt.bool_bool a b
      | int b => obtain ⟨t, rfl⟩ := v_int ry; exact RcNeAt.bool_int a b t
      | str b => obtain ⟨t, rfl⟩ := v_str ry; exact RcNeAt.bool_str a b t
      | _ => cases hy
    | int a =>
      obtain ⟨t0, rfl⟩ := v_int rx
      cases y with
      | non => rw [v_non ry]; exact RcNeAt.int_none a t0
      | bl b => rw [v_bl ry]; exact RcNeAt.int_bool a t0 b
      | int b => obtain ⟨t, rfl⟩ := v_int ry; exact RcNeAt.int_int a t0 b t
      | str b => obtain ⟨t, rfl⟩ := v_str ry; exact RcNeAt.int_str a t0 b t
      | _ => cases hy
    | str a =>
      obtain ⟨t0, rfl⟩ := v_str rx
      cases y with
      | non => rw [v_non ry]; exact RcNeAt.str_none a t0
      | bl b => rw [v_bl ry]; exact RcNeAt.str_bool a t0 b
      | int b => obtain ⟨t, rfl⟩ := v_int ry; exact RcNeAt.str_int a t0 b t
      | str b => obtain ⟨t, rfl⟩ := v_str ry; exact RcNeAt.str_str a t0 b t
      | _ => cases hy
    | _ => cases hx
  | succ n ih =>
    intro A x y u w hu hx hy rx ry
    have hu0 : A.units < cLine := by omega
    have hu1 : A.in1.units + n < cLine := by show A.units + 1 + n < cLine; omega
    cases x with
    | tup l =>
      obtain ⟨a, its, rfl, rl, p⟩ := rd_tup I rx
      cases y with
      | non => rw [v_non ry]; exact RcNeAt.tuple_none p hu0
      | bl b => rw [v_bl ry]; exact RcNeAt.tuple_bool b p hu0
      | int b => obtain ⟨t, rfl⟩ := v_int ry; exact RcNeAt.tuple_int b t p hu0
      | str b => obtain ⟨t, rfl⟩ := v_str ry; exact RcNeAt.tuple_str b t p hu0
      | tup m =>
        obtain ⟨b, its', rfl, rl', p'⟩ := rd_tup I ry
        have key : RcNeAt A s (.ref a) (.ref b) (!deq (.tup l) (.tup m)) := by
          have := RcNeAt.tuples (e := fun i => deq (l.getD i .non) (m.getD i .non)) p p' hu0 fun j h1 h2 => by
            have h1' : j < its.length := by simpa using h1
            have h2' : j < its'.length := by simpa using h2
            obtain ⟨x, ex, rx'⟩ := rl.get (List.getElem?_eq_getElem h1')
            obtain ⟨y, ey, ry'⟩ := rl'.get (List.getElem?_eq_getElem h2')
            have q := eq_core I n hu1 (List.all_eq_true.mp hx x (List.mem_of_getElem? ex)) (List.all_eq_true.mp hy y (List.mem_of_getElem? ey)) rx'.rd ry'.rd
            have e1 : l.getD j .non = x := by rw [List.getD_eq_getElem?_getD, ex]; rfl
            have e2 : m.getD j .non = y := by rw [List.getD_eq_getElem?_getD, ey]; rfl
            rw [e1, e2]
            simpa using q.1
          have e : deq (.tup l) (.tup m) = ((List.range (min its.toArray.size its'.toArray.size)).all (fun i => deq (l.getD i .non) (m.getD i .non)) && its.toArray.size == its'.toArray.size) := by
            simp only [deq, deqs_range, List.size_toArray, rl.length, rl'.length]
          rw [e]; exact this
        exact key
      | fls m =>
        obtain ⟨b, its', rfl, rl', p'⟩ := rd_lst I ry
        exact RcNeAt.tuple_list p p' hu0
      | _ => cases hy
    | fls l =>
      obtain ⟨a, its, rfl, rl, p⟩ := rd_lst I rx
      cases y with
      | non => rw [v_non ry]; exact RcNeAt.list_none p hu0
      | bl b => rw [v_bl ry]; exact RcNeAt.list_bool b p hu0
      | int b => obtain ⟨t, rfl⟩ := v_int ry; exact RcNeAt.list_int b t p hu0
      | str b => obtain ⟨t, rfl⟩ := v_str ry; exact RcNeAt.list_str b t p hu0
      | tup m =>
        obtain ⟨b, its', rfl, rl', p'⟩ := rd_tup I ry
        exact RcNeAt.list_tuple p p' hu0
      | fls m =>
        obtain ⟨b, its', rfl, rl', p'⟩ := rd_lst I ry
        have key : RcNeAt A s (.ref a) (.ref b) (!deq (.fls l) (.fls m)) := by
          by_cases hs : its.length = its'.length
          · have := RcNeAt.lists (e := fun i => deq (l.getD i .non) (m.getD i .non)) p p' (by simpa using hs) hu0 fun j h1 h2 => by
              have h1' : j < its.length := by simpa using h1
              have h2' : j < its'.length := by simpa using h2
              obtain ⟨x, ex, rx'⟩ := rl.get (List.getElem?_eq_getElem h1')
              obtain ⟨y, ey, ry'⟩ := rl'.get (List.getElem?_eq_getElem h2')
              have q := eq_core I n hu1 (List.all_eq_true.mp hx x (List.mem_of_getElem? ex)) (List.all_eq_true.mp hy y (List.mem_of_getElem? ey)) rx'.rd ry'.rd
              have e1 : l.getD j .non = x := by rw [List.getD_eq_getElem?_getD, ex]; rfl
              have e2 : m.getD j .non = y := by rw [List.getD_eq_getElem?_getD, ey]; rfl
              rw [e1, e2]
              simpa using q.1
            have e : deq (.fls l) (.fls m) = (List.range its.toArray.size).all (fun i => deq (l.getD i .non) (m.getD i .non)) := by
              have e0 : l.length = m.length := by rw [← rl.length, ← rl'.length]; exact hs
              simp [deq, deqs_range, rl.length, e0]
            rw [e]; exact this
          · have e : deq (.fls l) (.fls m) = false := by
              have e0 : l.length ≠ m.length := by rw [← rl.length, ← rl'.length]; exact hs
              simp [deq, deqs_range, e0]
            rw [e]
            exact RcNeAt.lists_lengths p p' (by simpa using hs) hu0
        exact key
      | _ => cases hy
    | ref a => cases hx
    | oth a => cases hx
    | non =>
      cases y with
      | tup m => obtain ⟨b, its', rfl, rl', p'⟩ := rd_tup I ry; rw [v_non rx]; exact RcNeAt.none_tuple p' hu0
      | fls m => obtain ⟨b, its', rfl, rl', p'⟩ := rd_lst I ry; rw [v_non rx]; exact RcNeAt.none_list p' hu0
      | ref a => cases hy
      | oth a => cases hy
      | _ => exact ih (by omega) (by cases n <;> rfl) (by cases n <;> rfl) rx ry
    | bl i =>
      cases y with
      | tup m => obtain ⟨b, its', rfl, rl', p'⟩ := rd_tup I ry; rw [v_bl rx]; exact RcNeAt.bool_tuple i p' hu0
      | fls m => obtain ⟨b, its', rfl, rl', p'⟩ := rd_lst I ry; rw [v_bl rx]; exact RcNeAt.bool_list i p' hu0
      | ref a => cases hy
      | oth a => cases hy
      | _ => exact ih (by omega) (by cases n <;> rfl) (by cases n <;> rfl) rx ry
    | int i =>
      cases y with
      | tup m => obtain ⟨b, its', rfl, rl', p'⟩ := rd_tup I ry; obtain ⟨t, rfl⟩ := v_int rx; exact RcNeAt.int_tuple i t p' hu0
      | fls m => obtain ⟨b, its', rfl, rl', p'⟩ := rd_lst I ry; obtain ⟨t, rfl⟩ := v_int rx; exact RcNeAt.int_list i t p' hu0
      | ref a => cases hy
      | oth a => cases hy
      | _ => exact ih (by omega) (by cases n <;> rfl) (by cases n <;> rfl) rx ry
    | str i =>
      cases y with
      | tup m => obtain ⟨b, its', rfl, rl', p'⟩ := rd_tup I ry; obtain ⟨t, rfl⟩ := v_str rx; exact RcNeAt.str_tuple i t p' hu0
      | fls m => obtain ⟨b, its', rfl, rl', p'⟩ := rd_lst I ry; obtain ⟨t, rfl⟩ := v_str rx; exact RcNeAt.str_list i t p' hu0
      | ref a => cases hy
      | oth a => cases hy
      | _ => exact ih (by omega) (by cases n <;> rfl) (by cases n <;> rfl) rx ry

def RDv (K : PySem.W.Frag) (H : Hp) (d : PV) (x : V) : Prop := match d with
  | .fls l => ∃ a vs, x = .ref a ∧ SqL K H a vs ∧ RPs K H l vs
  | d => RP K H d x
theorem RDv.rd {K : PySem.W.Frag} {d : PV} {x : V} {u : Value} (h : RDv K H d x) (r : L2.RelV x u) : RD K H d u := by
  cases d with
  | fls l => obtain ⟨a, vs, rfl, q, rr⟩ := h; cases r; exact ⟨a, vs, rfl, q, rr⟩
  | _ => exact ⟨x, h, r⟩
def withD (x : PV) (H : PHp) (k : PV → Prop) : Prop := match x with
  | .ref a => ∃ l, H a = some (.lst l) ∧ k (.fls l)
  | x => k x
theorem withD.ex {K : PySem.W.Frag} {σ' : St'} {x : PV} {v : V} {H' : PHp} {k : PV → Prop} (h : withD x H' k) (s : SR K B σ' H' σ H) (r : RP K H x v) : ∃ d, RDv K H d v ∧ k d := by
  cases x with
  | ref a =>
    obtain ⟨l, e, h⟩ := h
    obtain ⟨us, q, r2⟩ := s.hp _ _ e
    simp only [RP] at r
    exact ⟨.fls l, ⟨a, us, r, SqL.of q, r2⟩, h⟩
  | fls l =>
    simp only [RP] at r
    obtain ⟨a, us, e, q, r⟩ := r
    exact ⟨.fls l, ⟨a, us, e, q.sq, r⟩, h⟩
  | non => exact ⟨.non, r, h⟩
  | bl b => exact ⟨.bl b, r, h⟩
  | int b => exact ⟨.int b, r, h⟩
  | str b => exact ⟨.str b, r, h⟩
  | tup b => exact ⟨.tup b, r, h⟩
  | oth b => exact ⟨.oth b, r, h⟩
def rEqU (K : PySem.W.Frag) (g : Bool → Bool) : R2 := fun x y H Q => ∃ d1 d2, flat 9 d1 = true ∧ flat 9 d2 = true ∧ RDv K H d1 x ∧ RDv K H d2 y ∧ Q (.bl (g (deq d1 d2))) H
theorem op_eqU (hu : X.A.units + 64 < cLine) : OpR X (compareOp .Eq) (rEqU X.K fun b => b) := by
  intro pins s σ H x y v u Q I rx ry h
  obtain ⟨d1, d2, f1, f2, r1, r2, q⟩ := h
  exact (eq_core I 9 (by omega) f1 f2 (r1.rd rx) (r2.rd ry)).2 _ _ _ _ ⟨.bl _, H, I, rfl, q⟩
theorem op_neU (hu : X.A.units + 64 < cLine) : OpR X (compareOp .NotEq) (rEqU X.K fun b => !b) := by
  intro pins s σ H x y v u Q I rx ry h
  obtain ⟨d1, d2, f1, f2, r1, r2, q⟩ := h
  exact ne_core I 9 (by omega) f1 f2 (r1.rd rx) (r2.rd ry) _ _ _ _ ⟨.bl _, H, I, rfl, q⟩
def uEqG (g : Bool → Bool) : R2' := fun x y H Q => withD x H fun d1 => withD y H fun d2 => flat 9 d1 = true ∧ flat 9 d2 = true ∧ Q (.bl (g (deq d1 d2))) H
theorem vr_eq {K : PySem.W.Frag} {g : Bool → Bool} : VR K B (uEqG g) (rEqU K g) := by
  intro σ' σ H' H x' y' x y Q' Q s rx ry h k
  obtain ⟨d1, r1, h1⟩ := withD.ex h s rx
  obtain ⟨d2, r2, f1, f2, q⟩ := withD.ex h1 s ry
  exact ⟨d1, d2, f1, f2, r1, r2, k _ H' _ H q (by simp [RP]) s (Ev.refl _ _)⟩
def uInG (g : Bool → Bool) : R2' := fun x y H Q => withD x H fun d => withS y H fun l => flat 8 d = true ∧ l.all (flat 8) = true ∧ Q (.bl (g (l.any fun z => deq z d))) H
def uIsN (g : Bool → Bool) : R2' := fun x y H Q => match y, x with
  | .non, .non => Q (.bl (g true)) H
  | .non, .oth _ => False
  | .non, _ => Q (.bl (g false)) H
  | _, _ => False
theorem isN_ex {K : PySem.W.Frag} {g : Bool → Bool} {x y : PV} {v w : V} {H' : PHp} {Q' : VK'} (h : uIsN g x y H' Q') (rx : RP K H x v) (ry : RP K H y w) : w = .non ∧ Q' (.bl (g (decide (v = .non)))) H' := by
  cases y with
  | non =>
    simp only [RP] at ry
    refine ⟨ry, ?_⟩
    cases x with
    | non => simp only [RP] at rx; subst rx; exact h
    | oth _ => exact h.elim
    | tup l =>
      simp only [RP] at rx
      obtain ⟨a, us, rfl, _⟩ := rx
      exact h
    | fls l =>
      simp only [RP] at rx
      obtain ⟨a, us, rfl, _⟩ := rx
      exact h
    | _ => simp only [RP] at rx; subst rx; exact h
  | _ => cases x <;> exact h.elim
theorem vr_isN {K : PySem.W.Frag} : VR K B (uIsN fun b => b) (fun x y H Q => y = .non ∧ Q (.bl (decide (x = .non))) H) := by
  intro σ' σ H' H x' y' x y Q' Q s rx ry h k
  obtain ⟨e, q⟩ := isN_ex h rx ry
  exact ⟨e, k _ H' _ H q (by simp [RP]) s (Ev.refl _ _)⟩
theorem vr_notN {K : PySem.W.Frag} : VR K B (uIsN fun b => !b) (fun x y H Q => y = .non ∧ Q (.bl (!decide (x = .non))) H) := by
  intro σ' σ H' H x' y' x y Q' Q s rx ry h k
  obtain ⟨e, q⟩ := isN_ex h rx ry
  exact ⟨e, k _ H' _ H q (by simp [RP]) s (Ev.refl _ _)⟩
inductive BT where | non | bool | int | str | list | tuple
def BT.nm : BT → String | .non => "NoneType" | .bool => "bool" | .int => "int" | .str => "str" | .list => "list" | .tuple => "tuple"
def BT.sub : BT → BT → Bool
  | .non, .non => true | .bool, .bool => true | .int, .int => true | .str, .str => true | .list, .list => true | .tuple, .tuple => true
  | .bool, .int => true
  | _, _ => false
theorem kit_bt (K : PySem.W.Frag) (t c : BT) : PySem.W.kitOne K (.type t.nm) (.type c.nm) = some (t.sub c) := by
  cases t <;> cases c <;> kernel_rfl
def btV (K : PySem.W.Frag) (H : Hp) (t : BT) (x : V) : Prop := match t with
  | .non => x = .non
  | .bool => ∃ b, x = .bl b
  | .int => ∃ b, x = .int b
  | .str => ∃ b, x = .str b
  | .list => ∃ a us, x = .ref a ∧ SqL K H a us
  | .tuple => ∃ a us, x = .ref a ∧ SqT K H a us
theorem call_isiB (c : BT) : CallR X (.builtin "isinstance") (fun xs H Q => ∃ x t, xs = [x, .ty c.nm] ∧ btV X.K H t x ∧ Q (.bl (t.sub c)) H) := by
  intro pins s σ H xs us Q I r h
  obtain ⟨x, t, rfl, ht, q⟩ := h
  obtain ⟨u, w', rfl, rx, rc⟩ := vals2 r
  have e1 : w' = Value.type c.nm := rc
  subst e1
  have k := kit_bt X.K t c
  have fin : ∀ tk, EP X pins σ Q (.bool (t.sub c)) { s with toks := tk } := fun tk => ⟨.bl _, H, I.tok _, rfl, q⟩
  cases t with
  | non => cases (show x = V.non from ht); exact isinst_ok I rx .non k fin
  | bool => obtain ⟨b, rfl⟩ := ht; exact isinst_ok I rx (.bl b) k fin
  | int => obtain ⟨b, rfl⟩ := ht; exact isinst_ok I rx (.int b) k fin
  | str => obtain ⟨b, rfl⟩ := ht; exact isinst_ok I rx (.str b) k fin
  | list =>
    obtain ⟨a, us, rfl, hq⟩ := ht
    cases rx
    obtain ⟨its, rv, pl, _⟩ := I.list hq
    obtain ⟨o, e, hc, _⟩ := pl.isList
    exact PySem.W.kia_one PySem.W.kitx_list I.kIn ⟨o, e, hc⟩ k (fun z => nomatch z) fin
  | tuple =>
    obtain ⟨a, us, rfl, hq⟩ := ht
    cases rx
    obtain ⟨its, rv, pl, _⟩ := I.tuple hq
    obtain ⟨o, e, hc, _⟩ := pl
    exact PySem.W.kia_one PySem.W.kitx_tuple I.kIn ⟨o, e, hc⟩ k (fun z => nomatch z) fin
def withTy (x : PV) (H : PHp) (k : BT → Prop) : Prop := match x with
  | .non => k .non
  | .bl _ => k .bool
  | .int _ => k .int
  | .str _ => k .str
  | .tup _ => k .tuple
  | .fls _ => k .list
  | .ref a => ∃ l, H a = some (.lst l) ∧ k .list
  | _ => False
theorem withTy.ex {K : PySem.W.Frag} {σ' : St'} {x : PV} {v : V} {H' : PHp} {k : BT → Prop} (h : withTy x H' k) (s : SR K B σ' H' σ H) (r : RP K H x v) : ∃ t, btV K H t v ∧ k t := by
  cases x with
  | non => simp only [RP] at r; exact ⟨.non, r, h⟩
  | bl b => simp only [RP] at r; exact ⟨.bool, ⟨b, r⟩, h⟩
  | int b => simp only [RP] at r; exact ⟨.int, ⟨b, r⟩, h⟩
  | str b => simp only [RP] at r; exact ⟨.str, ⟨b, r⟩, h⟩
  | tup l => simp only [RP] at r; obtain ⟨a, us, e, q, _⟩ := r; exact ⟨.tuple, ⟨a, us, e, q⟩, h⟩
  | fls l => simp only [RP] at r; obtain ⟨a, us, e, q, _⟩ := r; exact ⟨.list, ⟨a, us, e, q.sq⟩, h⟩
  | ref a =>
    simp only [RP] at r
    obtain ⟨l, e, h⟩ := h
    obtain ⟨us, q, _⟩ := s.hp _ _ e
    exact ⟨.list, ⟨a, us, r, SqL.of q⟩, h⟩
  | oth _ => exact h.elim
def uIsi (c : BT) : List PV → PHp → VK' → Prop := fun xs H Q => match xs with
  | [x, .oth (.ty n)] => n = c.nm ∧ withTy x H fun t => Q (.bl (t.sub c)) H
  | _ => False
theorem vc_isi {K : PySem.W.Frag} (c : BT) : VC K B (uIsi c) (fun xs H Q => ∃ x t, xs = [x, .ty c.nm] ∧ btV K H t x ∧ Q (.bl (t.sub c)) H) := by
  intro σ' σ H' H xs' xs Q' Q s r h k
  unfold uIsi at h
  split at h
  · rename_i x n
    obtain ⟨rfl, h⟩ := h
    simp only [RPs, RP] at r
    obtain ⟨u, r1, rfl, rx, w, r2, rfl, rfl, rfl⟩ := r
    obtain ⟨t, bt, h⟩ := withTy.ex h s rx
    exact ⟨u, t, rfl, bt, k _ H' _ H h (by simp [RP]) s (Ev.refl _ _)⟩
  · exact h.elim
theorem qe_bty {x : Str} {n : String} {pos : Pos} (hg : Gl X x) (hm : X.mg x = none) (hv : bootBuiltins x = some (.type n)) (hn : x ≠ "__name__" := by decide) (hd : (x == ("__debug__" : Str)) = false := by decide) : PE' X B (.Name x pos) (uC (.oth (.ty n))) :=
  pe_imp (pe_bltn (v := .ty n) hg hm hv rfl hn hd) fun _ _ _ h => lowC (fun _ => by simp [RP]) h
variable {e o : Expr} {es : List Expr} {to : TE'} {t : TA'} {name : Str} {apos cpos : Pos}
def isL (x : PV) (H1 : PHp) : Prop := match x with
  | .ref a => ∃ l, H1 a = some (.lst l)
  | _ => False
def uBM (r : PV → List PV → PHp → VK' → Prop) (to : TE') (t : TA') : TE' := fun σ H Q => to σ H fun x H1 => isL x H1 ∧ t σ H1 fun xs H2 => r x xs H2 Q
def uBM0 (r : PV → List PV → PHp → VK' → Prop) (to : TE') : TE' := fun σ H Q => to σ H fun x H1 => r x [] H1 Q
def VM (K : PySem.W.Frag) (B : Bs) (r' : PV → List PV → PHp → VK' → Prop) (r : V → List V → Hp → VK → Prop) : Prop := ∀ (σ' : St') (σ : L2.St) (H' : PHp) (H : Hp) x' xs' x xs (Q' : VK') (Q : VK), SR K B σ' H' σ H → RP K H x' x → RPs K H xs' xs → r' x' xs' H' Q' →
  (∀ v' H1' v H1, Q' v' H1' → RP K H1 v' v → SR K B σ' H1' σ H1 → Ev H' H H1' H1 → Q v H1) → r x xs H Q
theorem low_bm {K : PySem.W.Frag} {r' : PV → List PV → PHp → VK' → Prop} {r : V → List V → Hp → VK → Prop} (v : VM K B r' r) {σ : L2.St} {H : Hp} {Q : VK} (h : low K B (uBM r' to t) σ H Q) : tBM K "list" r (low K B to) (lowA K B t) σ H Q := by
  obtain ⟨σ', H', Q', s, h, k⟩ := h
  refine ⟨σ', H', _, s, h, fun x' H1' x H1 h1 rx s1 e1 => ?_⟩
  obtain ⟨ty, h1⟩ := h1
  constructor
  · cases x' with
    | ref a =>
      obtain ⟨l, e⟩ := ty
      obtain ⟨us, q, _⟩ := s1.hp _ _ e
      simp only [RP] at rx
      subst rx
      exact .inl ⟨rfl, us, SqL.of q⟩
    | _ => exact ty.elim
  · refine ⟨σ', H1', _, s1, h1, fun xs' H2' xs H2 h2 r2 s2 e2 => ?_⟩
    exact v σ' σ H2' H2 x' xs' x xs Q' Q s2 (RP.kp K (e2.kp s1.hp) rx) r2 h2 fun v' H3' v H3 q rv s3 e3 => k v' H3' v H3 q rv s3 (e1.trans (e2.trans e3))
theorem qe_bm {id : String} {r' : PV → List PV → PHp → VK' → Prop} {r : V → List V → Hp → VK → Prop} (slot : Slot "list" name id) (hty : typeOf (.builtin id) = pure (.type "method_descriptor")) (hm : MtR X id r) (v : VM X.K B r' r) (ho : PE' X B o to) (ha : PA' X B (e :: es) t)
    (hbase : attributeBase o name X.env (eval o X.env) = eval o X.env := by rfl)
    (hfew : ((backTo cpos (starEach (e :: es) X.env)).all (fun x => !x.1) && (backToKw cpos (keywordEach [] X.env)).all (fun x => x.1.isSome)
      && decide ((e :: es).length + ([] : List Keyword).length + (if ([] : List Keyword).isEmpty then 0 else 1) < 30)) = true := by rfl)
    (hline : (apos.endLine == cpos.line) = true := by rfl) (hs : starEach (e :: es) X.env = (false, eval e X.env) :: starEach es X.env := by rfl) (hplain : (backTo cpos (starEach es X.env)).any (·.1) = false := by rfl) :
    PE' X B (.Call (.Attribute o name apos) (e :: es) [] cpos) (uBM r' to t) := pe_imp (pe_bm PySem.F.plainAttrs_list slot hty hm ho ha hbase hfew hline hs hplain) fun _ _ _ h => low_bm v h
def uAppend : PV → List PV → PHp → VK' → Prop := fun x vs H Q => match x, vs with
  | .ref a, [y] => ∃ l, H a = some (.lst l) ∧ l.length < sizeLine ∧ Q .non (put H a (.lst (l ++ [y])))
  | _, _ => False
theorem vm_append {K : PySem.W.Frag} : VM K B uAppend rAppend := by
  intro σ' σ H' H x' xs' x xs Q' Q s rx r h k
  unfold uAppend at h
  split at h
  · rename_i a y
    obtain ⟨l, e, hl, h⟩ := h
    obtain ⟨us, q, r2⟩ := s.hp _ _ e
    simp only [RP, RPs] at rx r
    obtain ⟨u, r1, rfl, ru, rfl⟩ := r
    subst rx
    exact ⟨a, us, u, rfl, rfl, q, by rw [RPs.length _ r2]; exact hl, k _ _ _ _ h (by simp [RP]) (s.wr e (wrL s.hp e (RPs.append _ r2 (RPs.cons _ ru (RPs.nil _))))) (Ev.wr e)⟩
  · exact h.elim
def uExtend : PV → List PV → PHp → VK' → Prop := fun x vs H Q => match x, vs with
  | .ref a, [.ref b] => ∃ l m, H a = some (.lst l) ∧ H b = some (.lst m) ∧ l.length + m.length ≤ sizeLine ∧ Q .non (put H a (.lst (l ++ m)))
  | _, _ => False
theorem vm_extend {K : PySem.W.Frag} : VM K B uExtend rExtend := by
  intro σ' σ H' H x' xs' x xs Q' Q s rx r h k
  unfold uExtend at h
  split at h
  · rename_i a b
    obtain ⟨l, m, e, e2, hl, h⟩ := h
    obtain ⟨us, q, r2⟩ := s.hp _ _ e
    obtain ⟨ws, q2, r3⟩ := s.hp _ _ e2
    simp only [RP, RPs] at rx r
    obtain ⟨u, r1, rfl, ru, rfl⟩ := r
    subst rx; subst ru
    exact ⟨a, b, us, ws, rfl, rfl, q, q2, by rw [RPs.length _ r2, RPs.length _ r3]; exact hl, k _ _ _ _ h (by simp [RP]) (s.wr e (wrL s.hp e (RPs.append _ r2 r3))) (Ev.wr e)⟩
  · exact h.elim
def uPop : PV → List PV → PHp → VK' → Prop := fun x vs H Q => match x, vs with
  | .ref a, [] => ∃ l y, H a = some (.lst l) ∧ l[l.length - 1]? = some y ∧ Q y (put H a (.lst l.dropLast))
  | _, _ => False
end
end U


set_option linter.all false
set_option maxRecDepth 100000
set_option maxHeartbeats 4000000
namespace U
open PySem L2
variable {B : Bs}
theorem rngL_drop (lo : Int) (n i : Nat) (h : i < n) : (rngL lo n).drop i = PV.int (lo + (i : Nat)) :: (rngL lo n).drop (i + 1) := by
  have hl : i < (rngL lo n).length := by simpa [rngL] using h
  rw [List.drop_eq_getElem_cons hl]
  simp [rngL]
theorem rngL_end (lo : Int) (n : Nat) : (rngL lo n).drop n = [] := by
  apply List.drop_of_length_le
  simp [rngL]
theorem for_rng {ok : PHp → Prop} {g : TG'} {tb : TS'} {D : Ends'} {lo : Int} {n : Nat} (Pv : Nat → St' → PHp → Prop) (hd : ∀ σ H, Pv n σ H → ok H ∧ D.nx σ H)
    (hs : ∀ (G : St' → PHp → Prop) i σ H, i < n → Pv i σ H → (∀ σ' H', Pv (i + 1) σ' H' → G σ' H') → ok H ∧ g (.int (lo + (i : Nat))) σ H fun σ2 H2 => tb { D with nx := G, ct := G, bk := D.nx } σ2 H2)
    {σ : St'} {H : PHp} (h0 : Pv 0 σ H) : uForL ok g tb D (rngL lo n) σ H := by
  have key : ∀ (k i : Nat) {σ : St'} {H : PHp}, i + k = n → Pv i σ H → uForL ok g tb D ((rngL lo n).drop i) σ H := by
    intro k
    induction k with
    | zero =>
      intro i σ H hk p
      have : i = n := hk
      subst this
      rw [rngL_end]
      exact hd σ H p
    | succ k ih =>
      intro i σ H hk p
      have hi : i < n := hk ▸ Nat.lt_add_of_pos_right (Nat.succ_pos k)
      rw [rngL_drop lo n i hi]
      exact hs _ i σ H hi p fun σ' H' p' => ih (i + 1) ((Nat.succ_add_eq_add_succ i k).trans hk) p'
  exact key n 0 (Nat.zero_add n) h0
theorem for_at {ok : PHp → Prop} {g : TG'} {tb : TS'} {D : Ends'} {xs : List PV} (Pv : Nat → St' → PHp → Prop) (hd : ∀ σ H, Pv xs.length σ H → ok H ∧ D.nx σ H)
    (hs : ∀ (G : St' → PHp → Prop) i x σ H, xs[i]? = some x → Pv i σ H → (∀ σ' H', Pv (i + 1) σ' H' → G σ' H') → ok H ∧ g x σ H fun σ2 H2 => tb { D with nx := G, ct := G, bk := D.nx } σ2 H2)
    {σ : St'} {H : PHp} (h0 : Pv 0 σ H) : uForL ok g tb D xs σ H := by
  have key : ∀ (k i : Nat) {σ : St'} {H : PHp}, xs.length - i = k → i ≤ xs.length → Pv i σ H → uForL ok g tb D (xs.drop i) σ H := by
    intro k
    induction k with
    | zero =>
      intro i σ H hk hi p
      have : i = xs.length := by omega
      subst this
      rw [List.drop_length]
      exact hd σ H p
    | succ k ih =>
      intro i σ H hk hi p
      have hl : i < xs.length := by omega
      rw [List.drop_eq_getElem_cons hl]
      exact hs _ i _ σ H (List.getElem?_eq_getElem hl) p fun σ' H' p' => ih (i + 1) (by omega) (by omega) p'
  have := key xs.length 0 (by omega) (by omega) h0
  simpa using this
theorem atI_int {m : List Int} {z : Int} (h0 : 0 ≤ z) (h1 : z < m.length) : atI (m.map PV.int) z = some (.int (m.getD z.toNat 0)) := by
  unfold atI ixN
  rw [if_pos h0, List.length_map, if_pos h1]
  show (m.map PV.int)[z.toNat]? = _
  rw [List.getElem?_map, List.getD_eq_getElem?_getD]
  have : z.toNat < m.length := by omega
  rw [List.getElem?_eq_getElem this]
  rfl
theorem w_V {v : PV} {k : PV → Prop} : withV (some (some v)) k = k v := rfl
theorem w_B {b : Bool} {k : Bool → Prop} : withB (.bl b) k = k b := rfl
theorem w_I {b : Int} {k : Int → Prop} : withI (.int b) k = k b := rfl
theorem w_O {b : PV} {k : PV → Prop} : withO (some b) k = k b := rfl
theorem w_St {l : List PV} {H : PHp} {k : List PV → Prop} : withS (.tup l) H k = k l := rfl
theorem w_Sf {l : List PV} {H : PHp} {k : List PV → Prop} : withS (.fls l) H k = k l := rfl
theorem w_Sr {a : Addr} {H : PHp} {k : List PV → Prop} : withS (.ref a) H k = ∃ l, H a = some (.lst l) ∧ k l := rfl
theorem w_Dr {a : Addr} {H : PHp} {k : PV → Prop} : withD (.ref a) H k = ∃ l, H a = some (.lst l) ∧ k (.fls l) := rfl
theorem w_Dn {H : PHp} {k : PV → Prop} : withD .non H k = k .non := rfl
theorem w_Db {b : Bool} {H : PHp} {k : PV → Prop} : withD (.bl b) H k = k (.bl b) := rfl
theorem w_Di {b : Int} {H : PHp} {k : PV → Prop} : withD (.int b) H k = k (.int b) := rfl
theorem w_Ds {b : Str} {H : PHp} {k : PV → Prop} : withD (.str b) H k = k (.str b) := rfl
theorem w_Dt {b : List PV} {H : PHp} {k : PV → Prop} : withD (.tup b) H k = k (.tup b) := rfl
theorem w_Df {b : List PV} {H : PHp} {k : PV → Prop} : withD (.fls b) H k = k (.fls b) := rfl
theorem w_Tn {H : PHp} {k : BT → Prop} : withTy .non H k = k .non := rfl
theorem w_Tb {b : Bool} {H : PHp} {k : BT → Prop} : withTy (.bl b) H k = k .bool := rfl
theorem w_Ti {b : Int} {H : PHp} {k : BT → Prop} : withTy (.int b) H k = k .int := rfl
theorem w_Ts {b : Str} {H : PHp} {k : BT → Prop} : withTy (.str b) H k = k .str := rfl
theorem w_Tt {b : List PV} {H : PHp} {k : BT → Prop} : withTy (.tup b) H k = k .tuple := rfl
theorem w_Tf {b : List PV} {H : PHp} {k : BT → Prop} : withTy (.fls b) H k = k .list := rfl
theorem w_Tr {a : Addr} {H : PHp} {k : BT → Prop} : withTy (.ref a) H k = ∃ l, H a = some (.lst l) ∧ k .list := rfl
theorem w_Ni {b : Int} {k : Int → Prop} : intOf (.int b) k = k b := rfl
theorem w_Nb {b : Bool} {k : Int → Prop} : intOf (.bl b) k = k (b2n b) := rfl
theorem w_Lf {l : List PV} {lo hi : Option Int} {H : PHp} {Q : VK'} : sliceOf (.fls l) lo hi H Q = ∀ p, H p = none → Q (.ref p) (put H p (.lst (cutP l lo hi))) := rfl
theorem w_Lr {a : Addr} {lo hi : Option Int} {H : PHp} {Q : VK'} : sliceOf (.ref a) lo hi H Q = ∃ l, H a = some (.lst l) ∧ ∀ p, H p = none → Q (.ref p) (put H p (.lst (cutP l lo hi))) := rfl
theorem w_Lt {l : List PV} {lo hi : Option Int} {H : PHp} {Q : VK'} : sliceOf (.tup l) lo hi H Q = (¬ (HT.sIx l.length 0 lo = 0 ∧ HT.sIx l.length l.length hi = l.length) ∧ Q (.tup (cutP l lo hi)) H) := rfl
theorem w_Xt {l : List PV} {H : PHp} {R : It' → PHp → Prop} : itOf (.tup l) H R = R ⟨l, fun _ => True⟩ H := rfl
theorem w_Xf {l : List PV} {H : PHp} {R : It' → PHp → Prop} : itOf (.fls l) H R = R ⟨l, fun _ => True⟩ H := rfl
theorem w_Xr {a : Addr} {H : PHp} {R : It' → PHp → Prop} : itOf (.ref a) H R = ∃ l, H a = some (.lst l) ∧ R ⟨l, fun H => H a = some (.lst l)⟩ H := rfl
theorem w_1 {f : PV → PHp → VK' → Prop} {x : PV} {H : PHp} {Q : VK'} : arg1 f [x] H Q = f x H Q := rfl
theorem w_isi {c : BT} {x : PV} {n : String} {H : PHp} {Q : VK'} : uIsi c [x, .oth (.ty n)] H Q = (n = c.nm ∧ withTy x H fun t => Q (.bl (t.sub c)) H) := rfl
theorem w_n0 {g : Bool → Bool} {H : PHp} {Q : VK'} : uIsN g .non .non H Q = Q (.bl (g true)) H := rfl
theorem w_n1 {g : Bool → Bool} {a : Addr} {H : PHp} {Q : VK'} : uIsN g (.ref a) .non H Q = Q (.bl (g false)) H := rfl
theorem w_n2 {g : Bool → Bool} {l : List PV} {H : PHp} {Q : VK'} : uIsN g (.tup l) .non H Q = Q (.bl (g false)) H := rfl
theorem w_n3 {g : Bool → Bool} {l : Int} {H : PHp} {Q : VK'} : uIsN g (.int l) .non H Q = Q (.bl (g false)) H := rfl
theorem w_n4 {g : Bool → Bool} {l : Bool} {H : PHp} {Q : VK'} : uIsN g (.bl l) .non H Q = Q (.bl (g false)) H := rfl
theorem w_vt {n : Nat} {t : TGs'} {l : List PV} {σ : St'} {H : PHp} {Q : St' → PHp → Prop} : vTup n t (.tup l) σ H Q = (l.length = n ∧ t l σ H Q) := rfl
theorem w_vc {t : TG'} {u : TGs'} {v : PV} {r : List PV} {σ : St'} {H : PHp} {Q : St' → PHp → Prop} : vCons t u (v :: r) σ H Q = t v σ H fun σ' H' => u r σ' H' Q := rfl
theorem w_vn {σ : St'} {H : PHp} {Q : St' → PHp → Prop} : vNil [] σ H Q = (True ∧ Q σ H) := by simp [vNil]
theorem w_r1 {t : TA'} {σ : St'} {H : PHp} {R : It' → PHp → Prop} : uRng1 t σ H R = t σ H fun vs H1 => rng1 vs H1 R := rfl
theorem w_r1' {j : Int} {H1 : PHp} {R : It' → PHp → Prop} : rng1 [.int j] H1 R = ((-(2 ^ 62) ≤ j ∧ j < 2 ^ 62) ∧ R ⟨rngL 0 j.toNat, fun _ => True⟩ H1) := rfl
theorem w_r2 {t : TA'} {σ : St'} {H : PHp} {R : It' → PHp → Prop} : uRng2 t σ H R = t σ H fun vs H1 => rng2 vs H1 R := rfl
theorem w_r2' {i j : Int} {H1 : PHp} {R : It' → PHp → Prop} : rng2 [.int i, .int j] H1 R = ((-(2 ^ 62) ≤ i ∧ i < 2 ^ 62 ∧ -(2 ^ 62) ≤ j ∧ j < 2 ^ 62) ∧ R ⟨rngL i (j - i).toNat, fun _ => True⟩ H1) := rfl
theorem w_ap {a : Addr} {y : PV} {H : PHp} {Q : VK'} : uAppend (.ref a) [y] H Q = ∃ l, H a = some (.lst l) ∧ l.length < sizeLine ∧ Q .non (put H a (.lst (l ++ [y]))) := rfl
theorem w_ex {a b : Addr} {H : PHp} {Q : VK'} : uExtend (.ref a) [.ref b] H Q = ∃ l m, H a = some (.lst l) ∧ H b = some (.lst m) ∧ l.length + m.length ≤ sizeLine ∧ Q .non (put H a (.lst (l ++ m))) := rfl
theorem w_po {a : Addr} {H : PHp} {Q : VK'} : uPop (.ref a) [] H Q = ∃ l y, H a = some (.lst l) ∧ l[l.length - 1]? = some y ∧ Q y (put H a (.lst l.dropLast)) := rfl
theorem w_bm {r : PV → List PV → PHp → VK' → Prop} {to : TE'} {t : TA'} {σ : St'} {H : PHp} {Q : VK'} : uBM r to t σ H Q = to σ H fun x H1 => isL x H1 ∧ t σ H1 fun xs H2 => r x xs H2 Q := rfl
theorem w_il {a : Addr} {H : PHp} : isL (.ref a) H = ∃ l, H a = some (.lst l) := rfl
theorem small_size {n : Nat} (h : n ≤ 1000) : n ≤ sizeLine := Nat.le_of_lt (small1000 h)
end U
namespace U
open PySem L2
theorem seq_abs {t u : TS'} {D : Ends'} {σ : St'} {H : PHp} (h : ∀ R : TS', R = u → uSeq t R D σ H) : uSeq t u D σ H := h u rfl
end U


set_option linter.all false
set_option maxRecDepth 100000
set_option maxHeartbeats 4000000
namespace U
open PySem PySem.Spec PyProof.Rows L2
def F2 (o : Obj) : Option Value := match o.data with
  | .fields vs => vs[2]?
  | _ => none
def Sm (o' o : Obj) : Prop := o'.dict = o.dict ∧ F2 o' = F2 o
theorem Sm.trans {a b c : Obj} (x : Sm b a) (y : Sm c b) : Sm c a := ⟨y.1.trans x.1, y.2.trans x.2⟩
def Ke (h h' : Heap) : Prop := ∀ b o, h.get? b = some o → ∃ o', h'.get? b = some o' ∧ Sm o' o
theorem Ke.refl (h : Heap) : Ke h h := fun _ o e => ⟨o, e, rfl, rfl⟩
theorem Ke.trans {h1 h2 h3 : Heap} (x : Ke h1 h2) (y : Ke h2 h3) : Ke h1 h3 := fun b o e => by
  obtain ⟨o', e1, q1⟩ := x b o e
  obtain ⟨o2, e2, q2⟩ := y b o' e1
  exact ⟨o2, e2, q1.trans q2⟩
def Kf (f : Obj → Obj) : Prop := ∀ o, o.isFreed = false → (f o).isFreed = false ∧ Sm (f o) o
theorem Ke.update {h : Heap} {a : Addr} {f : Obj → Obj} (k : Kf f) : Ke h (h.update a f) := fun b o e => by
  by_cases q : b = a
  · subst q
    have nf := (Heap.get?_some_iff.mp e).2
    exact ⟨f o, Heap.get?_update_self f e (k o nf).1, (k o nf).2⟩
  · exact ⟨o, (Heap.get?_update_other _ _ (Ne.symm q)).trans e, rfl, rfl⟩
theorem Ke.push {h : Heap} {o : Obj} : Ke h (h.push o) := fun _ u e => ⟨u, Heap.get?_push_of_some _ e, rfl, rfl⟩
inductive DK {α : Type} : Sem α → Prop
  | pure (a : α) : DK (.pure a)
  | uns (w : String) : DK (.unsupported w)
  | rule {t : String} {k : Unit → Sem α} : DK (k ()) → DK (.rule t k)
  | load {a : Addr} {p : Option Value} {k : Obj → Sem α} : (∀ o, DK (k o)) → DK (.load a p k)
  | update {a : Addr} {p : Option Value} {f : Obj → Obj} {k : Unit → Sem α} : Kf f → DK (k ()) → DK (.update a p f k)
  | alloc {o : Obj} {k : Addr → Sem α} : (∀ a, DK (k a)) → DK (.alloc o k)
  | stack {k : List (Code × Pos) → Sem α} : (∀ a, DK (k a)) → DK (.stack k)
theorem DK.bind {α β : Type} {m : Sem α} {f : α → Sem β} (h : DK m) (hf : ∀ a, DK (f a)) : DK (m >>= f) := by
  show DK (m.bind f)
  induction h with
  | pure a => exact hf a
  | uns w => exact .uns w
  | rule _ ih => exact .rule ih
  | load _ ih => exact .load ih
  | update k _ ih => exact .update k ih
  | alloc _ ih => exact .alloc ih
  | stack _ ih => exact .stack ih
theorem DK.wp {α : Type} {M : Model} {Γ : PySem.Ctx} {t : Sem α} (h : DK t) : ∀ {Q : α → Pos → Shared → Prop} {E : Value → Pos → Shared → Prop} {p : Pos} {s : Shared} {h0 : Heap}, Ke h0 s.heap → Sem.wp M Γ t (fun a p s' => Ke h0 s'.heap → Q a p s') E p s → Sem.wp M Γ t Q E p s := by
  induction h with
  | pure a => intro Q E p s h0 k q; simp only [Sem.wp] at q ⊢; exact q k
  | uns w => intro Q E p s h0 k q; simp only [Sem.wp] at q
  | rule _ ih => intro Q E p s h0 k q; simp only [Sem.wp] at q ⊢; exact ih k q
  | load _ ih => intro Q E p s h0 k q; simp only [Sem.wp] at q ⊢; obtain ⟨o, e, q⟩ := q; exact ⟨o, e, ih o k q⟩
  | update kf _ ih => intro Q E p s h0 k q; simp only [Sem.wp] at q ⊢; exact ⟨q.1, ih (k.trans (.update kf)) q.2⟩
  | alloc _ ih => intro Q E p s h0 k q; simp only [Sem.wp] at q ⊢; exact ih _ (k.trans .push) q
  | stack _ ih => intro Q E p s h0 k q; simp only [Sem.wp] at q ⊢; exact ih _ k q
theorem DK.use {α : Type} {M : Model} {A : Around} {t : Sem α} {Q : α → Shared → Prop} {E : Value → Shared → Prop} {s : Shared} (d : DK t) (h : wpAny M A t (fun a s' => Ke s.heap s'.heap → Q a s') E s) : wpAny M A t Q E s :=
  fun Γ p hΓ => d.wp (Ke.refl _) (h Γ p hΓ)
theorem kf_fields (g : Array Value → Array Value) (hg : ∀ vs, (g vs)[2]? = vs[2]?) : Kf (Obj.mapFields g) := fun o nf => by
  obtain ⟨c, d, dt, sl⟩ := o
  cases dt <;> exact ⟨by first | exact nf | rfl, rfl, by first | rfl | exact hg _⟩
theorem dk_field (v : Value) (i : Nat) : DK (field v i) := by
  unfold field fieldsOf
  refine .bind ?_ fun vs => ?_
  · cases v <;> try exact .uns _
    refine .bind (.load fun o => .pure o) fun o => ?_
    split
    · exact .pure _
    · exact .uns _
  · split
    · exact .pure _
    · exact .uns _
theorem dk_setField (v : Value) (i : Nat) (x : Value) (hi : i ≠ 2 := by decide) : DK (setField v i x) := by
  unfold setField
  cases v <;> try exact .uns _
  unfold updateField
  refine .bind (.load fun o => .pure o) fun o => ?_
  split
  · split
    · exact .update (kf_fields _ fun vs => Array.getElem?_setIfInBounds_ne hi) (.pure _)
    · exact .uns _
  · exact .uns _
theorem dk_setFlight (e : Value) (f : Option Addr) : DK (setFlight e f) := by
  unfold setFlight
  refine .bind (dk_field _ _) fun tb => ?_
  split
  · exact dk_setField _ _ _
  · exact .pure _
theorem dk_place (f : Addr) (b : Bool) : DK (entryPlaceOf f b) := by
  unfold entryPlaceOf
  refine .bind (.stack fun a => .pure a) fun acts => ?_
  split <;> exact .pure _
theorem dk_kept (env : Env) (b : Bool) (l : List Env) : DK (keptBack env b l) := by
  unfold keptBack
  split
  · split
    · exact .pure _
    · refine .bind ?_ fun _ => .pure _
      unfold underTheClaimsCaller
      exact .bind (.stack fun a => .pure a) fun _ => .pure _
  · exact .pure _
theorem dk_imp (env : Env) (l : List Env) : DK (behindIsImport env l) := by
  unfold behindIsImport
  repeat' split
  all_goals first | exact .pure _ | skip
  exact .bind (dk_field _ _) fun _ => .pure _
theorem dk_ready : ∀ l : List Env, DK (readyFrames l)
  | [] => by unfold readyFrames; exact .pure _
  | env :: outer => by
    unfold readyFrames
    split
    · refine .bind (.load fun o => .pure o) fun o => ?_
      split
      · exact .pure _
      · refine .bind (dk_imp _ _) fun _ => .bind (dk_kept _ _ _) fun _ => .bind (.update (fun o nf => ⟨(by obtain ⟨c, d, dt, sl⟩ := o; cases dt <;> first | exact nf | rfl), rfl, rfl⟩) (.pure _)) fun _ => dk_ready outer
    · exact .uns _
theorem dk_frameOf (env : Env) : DK (PySem.frameOf env) := by
  unfold PySem.frameOf frameEnvs
  refine .bind (.bind (.stack fun a => .pure a) fun _ => .pure _) fun l => .bind ?_ fun r => ?_
  · unfold frameObject
    split
    · exact .pure _
    · exact .bind (dk_ready _) fun _ => .pure _
  · split
    · exact .pure _
    · exact .uns _
theorem dk_entry (a b c d e : Value) (l : List Value) : DK (EntryCells.newEntry a b c d e l) := by
  unfold EntryCells.newEntry newFields newObj newObjAsIs
  dsimp only
  have al : ∀ o : Obj, DK (do let a ← alloc o; pure (Value.ref a) : Sem Value) := fun o => .bind (.alloc fun a => .pure a) fun _ => .pure _
  generalize (if l.isEmpty = true then List.replicate 6 Value.none else l) = z
  by_cases h : ([a, b, c, d, e] ++ z).toArray.size > sizeLine + 2
  · rw [if_pos h]
    exact .bind (.uns _) fun _ => al _
  · rw [if_neg h]
    exact al _
theorem dk_note (e : Value) (env : Env) : DK (noteFrame e env) := by
  unfold noteFrame
  split
  · refine .bind (dk_field _ _) fun head => ?_
    have fin : ∀ f : Addr, DK (do setField e 1 (← EntryCells.newEntry head (← PySem.frameOf env) .none (rawInt f) .none (← entryPlaceOf f (head != .none)))) := fun f =>
      .bind (dk_frameOf _) fun _ => .bind (dk_place _ _) fun _ => .bind (dk_entry _ _ _ _ _ _) fun _ => dk_setField _ _ _
    split
    · refine .bind (dk_field _ _) fun _ => ?_
      split
      · exact .pure _
      · exact .bind (dk_setField _ _ _) fun _ => fin _
    · exact fin _
  · exact .uns _
theorem dk_leaving (env : Env) (e : Value) : DK (leaving env e) := by
  unfold leaving
  exact .bind (dk_note _ _) fun _ => dk_setFlight _ _
end U


set_option linter.all false
set_option maxRecDepth 100000
set_option maxHeartbeats 4000000
namespace U
open PySem PySem.Spec PyProof.Rows L2
variable {B : Bs}
def FlyAt (h : Heap) (a C T : Addr) (fl : Value) : Prop :=
  ∃ (oe : Obj) (vs : Array Value) (oT : Obj) (ts : Array Value) (a0 : Value), h.get? a = some oe ∧ oe.cls = .ref C ∧ vs[0]? = some a0 ∧ oe.data = .fields vs ∧ vs[1]? = some (.ref T) ∧ T ≠ a ∧ h.get? T = some oT ∧ oT.data = .fields ts ∧ ts[3]? = some fl
def AtD (h : Heap) (a : Addr) (H : Hp) (d : Option Addr) : Prop := (∀ n, d = some n → ∃ oe dx o, h.get? a = some oe ∧ oe.dict = some dx ∧ H dx = some (.frz o (.own a)) ∧ IsAt o n) ∧ (d = none → ∃ oe, h.get? a = some oe ∧ F2 oe = some .none)
theorem AtD.ke {h h' : Heap} {a : Addr} {H : Hp} {d : Option Addr} (x : AtD h a H d) (k : Ke h h') : AtD h' a H d := ⟨fun n e => by
  obtain ⟨oe, dx, o, e1, e2, e3, e4⟩ := x.1 n e
  obtain ⟨o', q1, q2, _⟩ := k a oe e1
  exact ⟨o', dx, o, q1, q2.trans e2, e3, e4⟩, fun e => by
  obtain ⟨oe, e1, e2⟩ := x.2 e
  obtain ⟨o', q1, _, q2⟩ := k a oe e1
  exact ⟨o', q1, q2.trans e2⟩⟩
theorem objOk_get {P : Program} {w : World} {H : Hp} {h : Heap} {a : Addr} {o : HO} (k : ObjOk P w H h a o) : ∃ ob, h.get? a = some ob := by
  cases o with
  | lst _ => obtain ⟨_, _, _, _, e⟩ := k; exact ⟨_, e⟩
  | tup _ => obtain ⟨_, _, _, o, e, _⟩ := k; exact ⟨o, e⟩
  | dK _ => obtain ⟨_, _, _, _, o, _, _, e, _⟩ := k; exact ⟨o, e⟩
  | dT _ => obtain ⟨_, _, _, _, o, _, _, e, _⟩ := k; exact ⟨o, e⟩
  | set _ _ => obtain ⟨o, _, _, _, e, _⟩ := k; exact ⟨o, e⟩
  | ins _ _ _ => obtain ⟨_, _, _, e, _⟩ := k; exact ⟨_, e⟩
  | own _ => obtain ⟨o, e⟩ := k; exact ⟨o, e⟩
  | xd _ => obtain ⟨_, ⟨o, _, _, e, _⟩, _⟩ := k; exact ⟨o, e⟩
  | rng _ _ => obtain ⟨_, _, _, e⟩ := k; exact ⟨_, e⟩
  | frz o _ => obtain ⟨e, _⟩ := k; exact ⟨o, e⟩
  | tbl _ => exact ⟨_, k⟩
  | met _ _ => exact ⟨_, k⟩
  | ext _ => obtain ⟨_, ⟨o, e⟩, _⟩ := k; exact ⟨o, e⟩
theorem hok_none {P : Program} {w : World} {H : Hp} {h : Heap} {a : Addr} (x : HOk P w H h) (e : h.get? a = none) : H a = none := by
  cases q : H a with
  | none => rfl
  | some o => obtain ⟨ob, z⟩ := objOk_get (x a o q); rw [e] at z; cases z
section
variable {X : Cx} {pins : List (Addr × Obj)} {σ : L2.St} {H H' : Hp} {s : Shared} {h' : Heap} {a C T : Addr} {fl : Value} {d : Option Addr}
structure Plain (X : Cx) : Prop where
  ex : X.ex = []
  stk : X.stack = X.env :: X.outer
  fr : X.env.frame = some X.env.locals
theorem Plain.frs (pl : Plain X) : L2.frs X.stack = X.env.locals :: X.fs := by
  rw [pl.stk]
  show (X.env :: X.outer).filterMap (·.frame) = _
  rw [List.filterMap_cons, pl.fr]
  rfl
structure XAt (X : Cx) (pins : List (Addr × Obj)) (H : Hp) (s : Shared) (a C T : Addr) (fl : Value) (d : Option Addr) : Prop where
  dat : AtD s.heap a H d
  fly : FlyAt s.heap a C T fl
  ha : H a = none
  hT : H T = none
  na : X.s₀.heap.get? a = none
  nT : X.s₀.heap.get? T = none
  pin : ∀ p ∈ X.pn ++ pins, p.1 ≠ a ∧ p.1 ≠ T
theorem entry_none (I : Inv X pins σ H s) (pl : Plain X) {b : Addr} (e : s.heap.get? b = none) : X.s₀.heap.get? b = none := by
  cases q : X.s₀.heap.get? b with
  | none => rfl
  | some o =>
    obtain ⟨o', z⟩ := I.base.there b o q (by rw [pl.ex]; simp)
    rw [e] at z; cases z
theorem step_x (I : Inv X pins σ H s) (pl : Plain X) (ha : H a = none) (hT : H T = none) (na : X.s₀.heap.get? a = none) (nT : X.s₀.heap.get? T = none) (pin : ∀ p ∈ X.pn ++ pins, p.1 ≠ a ∧ p.1 ≠ T)
    (fa : ∀ o, s.heap.get? a = some o → ∃ vs, o.data = .fields vs) (fT : ∀ o, s.heap.get? T = some o → ∃ vs, o.data = .fields vs)
    (keep : ∀ b o, s.heap.get? b = some o → b ∉ L2.frs X.stack → b ≠ a → b ≠ T → h'.get? b = some o) (up : s.heap.UpToSlots h') : Inv X pins σ H { s with heap := h' } := by
  have frData : ∀ b o, b ∈ L2.frs X.stack → s.heap.get? b = some o → ∀ vs, o.data ≠ .fields vs := fun b o hb e => by
    obtain ⟨_, o', e', hd⟩ := I.stack.mem (b := b) hb
    rw [e] at e'; cases e'; exact hd
  have inFr : ∀ b, b = X.env.locals ∨ b ∈ X.fs → b ∈ L2.frs X.stack := fun b hb => by
    rw [pl.frs]; exact List.mem_cons.mpr hb
  have neA : ∀ b o, s.heap.get? b = some o → (∀ vs, o.data ≠ .fields vs) → b ≠ a ∧ b ≠ T := fun b o e hd => by
    constructor
    · rintro rfl; obtain ⟨vs, z⟩ := fa o e; exact hd vs z
    · rintro rfl; obtain ⟨vs, z⟩ := fT o e; exact hd vs z
  have any : ∀ b o, b ≠ a → b ≠ T → s.heap.get? b = some o → ∃ sl, h'.get? b = some { o with slots := sl } := fun b o n1 n2 e => by
    by_cases hb : b ∈ L2.frs X.stack
    · exact up b o e (frData b o hb e)
    · exact ⟨o.slots, keep b o e hb n1 n2⟩
  have entry : ∀ b o, X.s₀.heap.get? b = some o → b ≠ a ∧ b ≠ T := fun b o e => ⟨(fun z => by subst z; rw [na] at e; cases e), (fun z => by subst z; rw [nT] at e; cases e)⟩
  have neL : ∀ b o, X.s₀.heap.get? b = some o → b ≠ X.env.locals := fun b o e => Nat.ne_of_lt (Nat.lt_of_lt_of_le (Heap.lt_size e) I.ok.above)
  have hx : ∀ b, b ∉ X.ex := fun b => by rw [pl.ex]; simp
  have notFr : ∀ b o, X.s₀.heap.get? b = some o → b ∉ X.fs → b ∉ L2.frs X.stack := fun b o e hb hm => by
    rw [pl.frs] at hm
    rcases List.mem_cons.mp hm with z | z
    · exact neL b o e z
    · exact hb z
  refine ⟨I.ok, I.os, I.bare, ⟨fun b o e n hb hx' => ?_, fun b o e n hb hx' => ?_, I.base.free, fun b o e hx' => ?_, I.base.tups, I.base.frzs, I.base.tbls⟩, ?_, fun x c e => ?_, I.free, I.freeC, fun p hp => ?_, fun b u e => ?_, I.len⟩
  · exact keep b o (I.base.keep b o e n hb hx') (notFr b o e hb) (entry b o e).1 (entry b o e).2
  · obtain ⟨sl, e1⟩ := I.base.slot b o e n hb hx'
    obtain ⟨sl', e2⟩ := any b _ (entry b o e).1 (entry b o e).2 e1
    exact ⟨sl', e2⟩
  · obtain ⟨o', e1⟩ := I.base.there b o e hx'
    obtain ⟨sl', e2⟩ := any b _ (entry b o e).1 (entry b o e).2 e1
    exact ⟨_, e2⟩
  · obtain ⟨m, hn, hl⟩ := I.loc
    refine ⟨m, up.ns hn, fun i x v e1 e2 e3 => ?_⟩
    obtain ⟨u, r, l⟩ := hl i x v e1 e2 e3
    refine ⟨u, r, ?_⟩
    rcases l with l | ⟨k, c, e, o, ho, hd⟩
    · exact .inl l
    · have nd : ∀ vs, o.data ≠ .fields vs := fun vs z => by rw [hd] at z; cases z
      obtain ⟨sl, q⟩ := any c o (neA c o ho nd).1 (neA c o ho nd).2 ho
      exact .inr ⟨k, c, e, _, q, hd⟩
  · obtain ⟨v, o, ho, hd⟩ := I.cell x c e
    have nd : ∀ vs, o.data ≠ .fields vs := fun vs z => by rw [hd] at z; cases z
    obtain ⟨sl, q⟩ := any c o (neA c o ho nd).1 (neA c o ho nd).2 ho
    exact ⟨v, _, q, hd⟩
  · obtain ⟨e, n, ne, nf, d⟩ := I.pin p hp
    refine ⟨keep p.1 p.2 e (fun z => ?_) (pin p hp).1 (pin p hp).2, n, ne, nf, d⟩
    rw [pl.frs] at z
    rcases List.mem_cons.mp z with z | z
    · exact ne z
    · exact nf z
  · refine (I.hok b u e).stay (fun c v hc q => ?_) (fun _ q => q) fun _ _ q => q
    have hc' : ∃ o, H c = some o := by
      rcases hc with rfl | hc
      · exact ⟨_, e⟩
      · exact ⟨_, hc⟩
    obtain ⟨oc, ec⟩ := hc'
    refine keep c v q (fun z => ?_) (fun z => by subst z; rw [ha] at ec; cases ec) (fun z => by subst z; rw [hT] at ec; cases ec)
    rw [I.stkFree c z] at ec; cases ec
open PySem.W in
theorem after_x (I : Inv X pins σ H s) (pl : Plain X) (ha : H a = none) (na : X.s₀.heap.get? a = none) (pa : ∀ p ∈ X.pn ++ pins, p.1 ≠ a) (fa : ∀ o, s.heap.get? a = some o → ∃ vs, o.data = .fields vs)
    (T0 : Addr) (hT0 : H T0 = none) (nT0 : X.s₀.heap.get? T0 = none) (pT0 : ∀ p ∈ X.pn ++ pins, p.1 ≠ T0) (fT0 : ∀ o, s.heap.get? T0 = some o → ∃ vs, o.data = .fields vs)
    (a0 : Value) (st : (hideAll s.heap (L2.frs X.stack ++ [a, T0])).StaysIn h') (ff : h'.FunFrames (hideAll s.heap (L2.frs X.stack ++ [a, T0])) X.stack) (tr : h'.TracedAtW (hideAll s.heap (L2.frs X.stack ++ [a, T0])) a (.ref C) a0 fl) (up : s.heap.UpToSlots h') (dat : AtD h' a H d) :
    Inv X pins σ H { s with heap := h' } ∧ ∃ T, XAt X pins H { s with heap := h' } a C T fl d := by
  have I' : Inv X pins σ H { s with heap := h' } := step_x I pl ha hT0 na nT0 (fun p hp => ⟨pa p hp, pT0 p hp⟩) fa fT0 (fun b o e n1 n2 n3 => st b o (hideAll_get _ e (by simp [n1, n2, n3]))) up
  refine ⟨I', ?_⟩
  obtain ⟨oe, vs, T, oT, ts, e1, ⟨e2, e3⟩, e4, e5, e6, e7, e8, e9, e10⟩ := tr
  have key : T = T0 ∨ s.heap.get? T = none := by
    by_cases hT : T = T0
    · exact .inl hT
    · right
      cases q : s.heap.get? T with
      | none => rfl
      | some o =>
        have nfr : T ∉ L2.frs X.stack := fun hm => by
          obtain ⟨_, o', e', hd⟩ := ff.mem (b := T) hm
          rw [e8] at e'; cases e'; exact hd ts e9
        have := hideAll_get (L2.frs X.stack ++ [a, T0]) q (by simp [nfr, e7, hT])
        rw [e6] at this; cases this
  refine ⟨T, dat, ⟨oe, vs, oT, ts, a0, e1, e2, e3, e4, e5, e7, e8, e9, e10⟩, ha, ?_, na, ?_, fun p hp => ⟨pa p hp, ?_⟩⟩
  · rcases key with rfl | k
    · exact hT0
    · exact hok_none I.hok k
  · rcases key with rfl | k
    · exact nT0
    · exact entry_none I pl k
  · rcases key with rfl | k
    · exact pT0 p hp
    · intro z
      have := (I.pin p hp).1
      rw [z, k] at this; cases this
open PySem.W in
theorem hid_ok (I : Inv X pins σ H s) (as : List Addr) : s.heap.FunFrames (hideAll s.heap (L2.frs X.stack ++ as)) X.stack :=
  funFrames_hide I.stack fun env he b hb => List.mem_append_left _ (List.mem_filterMap.mpr ⟨env, he, hb⟩)
theorem XAt.data (x : XAt X pins H s a C T fl d) : (∀ o, s.heap.get? a = some o → ∃ vs, o.data = .fields vs) ∧ ∀ o, s.heap.get? T = some o → ∃ vs, o.data = .fields vs := by
  obtain ⟨oe, vs, oT, ts, a0, e1, e2, e3, e4, e5, e7, e8, e9, e10⟩ := x.fly
  exact ⟨fun o e => by rw [e1] at e; cases e; exact ⟨_, e4⟩, fun o e => by rw [e8] at e; cases e; exact ⟨_, e9⟩⟩
open PySem.W in
theorem XAt.traced (x : XAt X pins H s a C T fl d) : ∃ a0, s.heap.TracedAtW (hideAll s.heap (L2.frs X.stack ++ [a, T])) a (.ref C) a0 fl := by
  obtain ⟨oe, vs, oT, ts, a0, e1, e2, e3, e4, e5, e7, e8, e9, e10⟩ := x.fly
  exact ⟨a0, oe, vs, T, oT, ts, e1, ⟨e2, e3⟩, e4, e5, hideAll_none _ (by simp), e7, e8, e9, e10⟩
variable {M : Model} {E : Value → Shared → Prop} {Q : Unit → Shared → Prop}
open PySem.W in
theorem note_x (I : Inv X pins σ H s) (pl : Plain X) (x : XAt X pins H s a C T .none d)
    (h : ∀ h' T', Inv X pins σ H { s with heap := h' } → XAt X pins H { s with heap := h' } a C T' (rawInt X.env.locals) d → Q () { s with heap := h' }) : wpAny M X.A (noteFrame (.ref a) X.env) Q E s := by
  obtain ⟨a0, tr⟩ := x.traced
  obtain ⟨d1, d2⟩ := x.data
  have ff := hid_ok I [a, T]
  have hfr := I.ok.frames
  rw [pl.stk] at ff tr hfr
  refine (dk_note _ _).use (wpAny_noteFrame_onW hfr ff pl.fr tr (fun b o e => of_hideAll _ e) (hideAll_none _ (by simp)) fun h' ⟨k1, k2, k3, k4⟩ ke => ?_)
  rw [← pl.stk] at k1 k2 k3
  obtain ⟨I', T', x'⟩ := after_x I pl x.ha x.na (fun p hp => (x.pin p hp).1) d1 T x.hT x.nT (fun p hp => (x.pin p hp).2) d2 a0 k1 k2 k3 k4 (x.dat.ke ke)
  exact h h' T' I' x'
open PySem.W in
theorem land_x {A : Around} (I : Inv X pins σ H s) (pl : Plain X) (x : XAt X pins H s a C T fl d)
    (h : ∀ h' T', Inv X pins σ H { s with heap := h' } → XAt X pins H { s with heap := h' } a C T' .none d → Q () { s with heap := h' }) : wpAny M A (setFlight (.ref a) none) Q E s := by
  obtain ⟨a0, tr⟩ := x.traced
  obtain ⟨d1, d2⟩ := x.data
  refine (dk_setFlight _ _).use (wpAny_setFlight_noneW (fun b o e => of_hideAll _ e) (hid_ok I [a, T]) tr fun h' k1 k2 k3 k4 ke => ?_)
  obtain ⟨I', T', x'⟩ := after_x I pl x.ha x.na (fun p hp => (x.pin p hp).1) d1 T x.hT x.nT (fun p hp => (x.pin p hp).2) d2 a0 k1 k2 k3 (fun b o e hd => ⟨o.slots, k4 b o e hd⟩) (x.dat.ke ke)
  exact h h' T' I' x'
def CXU (P : Program) (w : World) : CXT := fun outer H s E e s' => ∃ (a C T : Addr) (H1 : Hp) (d : Option Addr), e = .ref a ∧ (FlyAt s'.heap a C T .none ∧ AtD s'.heap a H1 d) ∧ (H1 a = none ∧ H1 T = none) ∧ (s.heap.get? a = none ∧ s.heap.get? T = none) ∧
  s'.os = s.os ∧ AllBare s'.gens ∧ Un (L2.frs outer) [] H H1 s.heap s'.heap ∧ HOk P w H1 s'.heap ∧ E (.ref C) d H1
open PySem.W in
theorem leave_made {XE : XK} {h1 : Heap} {args : List Value} (I : Inv X pins σ H s) (pl : Plain X) (mx : Heap.MadeExcOf s.heap h1 a (.ref C) args) (hE : XE (.ref C) none H) :
    wpAny M X.A (leaving X.env (.ref a)) (fun _ s'' => CXU X.prog X.w X.outer X.H₀ X.s₀ XE (.ref a) s'') E { s with heap := h1 } := by
  have I1 : Inv X pins σ H { s with heap := h1 } := I.kept (t' := s.toks) mx.keeps
  obtain ⟨t, e1, e2, e3⟩ := mx.there
  have ha := hok_none I.hok mx.new
  have na := entry_none I pl mx.new
  have pa : ∀ p ∈ X.pn ++ pins, p.1 ≠ a := fun p hp z => by have := (I.pin p hp).1; rw [z, mx.new] at this; cases this
  have fa : ∀ o, h1.get? a = some o → ∃ vs, o.data = .fields vs := fun o e => by rw [e1] at e; cases e; exact ⟨_, rfl⟩
  have ff := hid_ok I1 [a, a]
  have hfr := I1.ok.frames
  rw [pl.stk] at ff hfr
  have dat : AtD h1 a H none := ⟨(fun _ z => by cases z), fun _ => ⟨_, e1, rfl⟩⟩
  refine (dk_leaving _ _).use (wpAny_leaving_firstW hfr ff pl.fr e1 (fun b o e => of_hideAll _ e) (hideAll_none _ (by simp)) rfl rfl rfl fun h' ⟨k1, k2, k3, k4⟩ ke => ?_)
  rw [← pl.stk] at k1 k2 k3
  obtain ⟨I', T', x'⟩ := after_x I1 pl ha na pa fa a ha na pa fa _ k1 k2 k3 k4 (dat.ke ke)
  have hu := I'.base
  rw [pl.ex] at hu
  exact ⟨a, C, T', H, _, rfl, ⟨x'.fly, x'.dat⟩, ⟨x'.ha, x'.hT⟩, ⟨x'.na, x'.nT⟩, I'.os, I'.bare, hu, I'.hok, hE⟩
theorem from_call {XE : XK} {e : Value} {s' : Shared} (I : Inv X pins σ H s) (pl : Plain X) (c : CXU X.prog X.w X.stack H s XE e s') :
    ∃ a C T H1 d, e = .ref a ∧ Inv X pins σ H1 s' ∧ XAt X pins H1 s' a C T .none d ∧ XE (.ref C) d H1 ∧ Kp H H1 := by
  obtain ⟨a, C, T, H1, d, rfl, ⟨fl, dat⟩, ⟨h1, h2⟩, ⟨n1, n2⟩, os, ba, un, hok, hE⟩ := c
  refine ⟨a, C, T, H1, d, rfl, I.call' (ch := []) os un hok ba (fun _ z => nomatch z), ⟨dat, fl, h1, h2, entry_none I pl n1, entry_none I pl n2, fun p hp => ⟨fun z => ?_, fun z => ?_⟩⟩, hE, ⟨un.tups, un.frzs⟩⟩
  · have := (I.pin p hp).1; rw [z, n1] at this; cases this
  · have := (I.pin p hp).1; rw [z, n2] at this; cases this
end
end U


set_option linter.all false
set_option maxHeartbeats 4000000
set_option maxRecDepth 100000
namespace U
open PySem PySem.Spec PyProof.Rows L2 PySem.W
theorem be_entry : entryFor table "BaseException.__getattribute__" = some Builtin.«object.__getattribute__» :=
  entryFor_alias (id' := "object.__getattribute__") (by kernel_rfl) (by first | rfl | decide +kernel) (by decide +kernel) (by kernel_rfl)
section
variable {prog : Program} {w : World} {A : Around} {E : Value → Shared → Prop} {h : Heap} {g : Array GenState} {d : Drawn} {t : Nat} {os : OsState} {a C : Addr} {o : Obj} {K : Frag}
theorem exc_get {R : Result → Shared → Prop} (X : K.In h) (hx : h.get? a = some o) (hc : o.cls = .ref C) (hm : mroIn K C (.type "object") = some true) (hq : R (.ok (.ret (.ref C))) ⟨h, g, d, t, os⟩) :
    codeAny (model prog w) A (.call (.builtin "getset_descriptor.__get__") ⟨[.builtin "object.__class__", .ref a, .ref C], []⟩) R ⟨h, g, d, t, os⟩ := by
  have hT5 : (⟨h, g, d, t, os⟩ : Shared).TypeIs (.builtin "object.__class__") "getset_descriptor" := F.typeOf_object_class
  have LS : Looks (model prog w) h (isSubtype (.ref C) (.type "object")) true := looks_mroIn X hm
  have f8 := F.owner_object_class
  refine codeAny_call_builtin F.slot_gs_get.plain F.entry_gs_get (F.slot_gs_get.check _ _ _ _ _ _ _ _ hT5 (F.args_gs_get _ _ _) ?_)
  repeat (any_goals (first | assumption | wp_step))
  rw [hc, f8]
  refine LS.at ?_
  repeat (any_goals (first | assumption | wp_step))
  refine ⟨Code.quiet_builtin _ (by decide +kernel), codeAny_builtin F.entry_object_class ?_⟩
  repeat (any_goals (first | assumption | wp_step))
  all_goals (rw [hc]; exact hq)
theorem exc_entry {tk : Tok} {Q : Fin → Shared → Prop} (X : K.In h) (hx : h.get? a = some o) (hc : o.cls = .ref C) (hm : mroIn K C (.type "object") = some true) (hf : findIn K (.ref C) "__class__" = some (some (.builtin "object.__class__"))) (hq : Q (.done (.ret (.ref C))) ⟨h, g, d, t, os⟩) :
    wpAny (model prog w) A (Builtin.«object.__getattribute__» ⟨[.ref a, .str "__class__" tk], []⟩) Q E ⟨h, g, d, t, os⟩ := by
  have hT5 : (⟨h, g, d, t, os⟩ : Shared).TypeIs (.builtin "object.__class__") "getset_descriptor" := F.typeOf_object_class
  have LF : Looks (model prog w) h (typeLookup (.ref C) "__class__") (some (.builtin "object.__class__")) := looks_findIn X hf
  have f5 := F.typeOf_object_class
  have f6 := F.slot_gs_get.lookup
  have f7 := F.slot_gs_set.lookup
  repeat (any_goals (first | assumption | wp_step))
  rw [hc]
  refine LF.at ?_
  repeat (any_goals (first | assumption | wp_step))
  refine exc_get X hx hc hm ?_
  repeat (any_goals (first | assumption | wp_step))
theorem be_kind : builtinKind "BaseException.__getattribute__" = some .slot := by decide +kernel
theorem be_split : splitId "BaseException.__getattribute__" = some ("BaseException", "__getattribute__") := by decide +kernel
theorem exc_check {M : Model} {tk : Tok} {Q : Unit → Shared → Prop} (X : K.In h) (hx : h.get? a = some o) (hc : o.cls = .ref C) (hm : mroIn K C (.type "BaseException") = some true) (hq : Q () ⟨h, g, d, t, os⟩) :
    wpAny M A (checkBuiltinCall "BaseException.__getattribute__" ⟨[.ref a, .str "__class__" tk], []⟩) Q E ⟨h, g, d, t, os⟩ := by
  have LB : Looks M h (isSubtype (.ref C) (.type "BaseException")) true := looks_mroIn X hm
  simp only [checkBuiltinCall, be_kind, be_split]
  repeat (first | (with_reducible refine wpAny_loadPart_at hx ?_; rw [hc]) | with_reducible refine LB.at ?_ | wp_step)
  exact hq
theorem exc_call {tk : Tok} {R : Result → Shared → Prop} (X : K.In h) (hx : h.get? a = some o) (hc : o.cls = .ref C) (hm : mroIn K C (.type "object") = some true) (hb : mroIn K C (.type "BaseException") = some true)
    (hf : findIn K (.ref C) "__class__" = some (some (.builtin "object.__class__"))) (hq : R (.ok (.ret (.ref C))) ⟨h, g, d, t, os⟩) :
    codeAny (model prog w) A (.call (.builtin "BaseException.__getattribute__") ⟨[.ref a, .str "__class__" tk], []⟩) R ⟨h, g, d, t, os⟩ :=
  codeAny_call_builtin_at (Code.quiet_builtin _ (by decide +kernel)) be_entry (exc_check X hx hc hb (exc_entry X hx hc hm hf hq))
theorem be_bind (self : Value) : bindSpecial (.builtin "BaseException.__getattribute__") self = pure (.builtin "BaseException.__getattribute__", [self]) := by
  have hop : withoutEnding? "BaseException.__getattribute__" "#opaque" = none := by decide +kernel
  have hdat : withoutEnding? "BaseException.__getattribute__" "#data" = none := by decide +kernel
  simp only [bindSpecial, typeOf, builtinType, hop, hdat, be_kind]; rfl
theorem exc_by {tk : Tok} {Q : Value → Shared → Prop} (X : K.In h) (hx : h.get? a = some o) (hc : o.cls = .ref C) (hm : mroIn K C (.type "object") = some true) (hb : mroIn K C (.type "BaseException") = some true)
    (hf : findIn K (.ref C) "__class__" = some (some (.builtin "object.__class__"))) (hg : findIn K (.ref C) "__getattribute__" = some (some (.builtin "BaseException.__getattribute__"))) (hh : findIn K (.ref C) "__getattr__" = some none) (hq : Q (.ref C) ⟨h, g, d, t, os⟩) :
    wpAny (model prog w) A (getAttrBy (.ref a) (.str "__class__" tk) false) Q E ⟨h, g, d, t, os⟩ := by
  have LG : Looks (model prog w) h (typeLookup (.ref C) "__getattribute__") (some (.builtin "BaseException.__getattribute__")) := looks_findIn X hg
  have LH : Looks (model prog w) h (typeLookup (.ref C) "__getattr__") none := looks_findIn X hh
  have f3 := be_bind (.ref a)
  unfold getAttrBy
  refine wpAny_holding ?_
  repeat (first | (with_reducible refine wpAny_loadPart_at hx ?_; rw [hc]) | with_reducible refine LG.at ?_ | with_reducible refine LH.at ?_ | wp_step)
  refine exc_call X hx hc hm hb hf ?_
  show wpAny (model prog w) A (handedOut (.ref C)) Q E _
  exact handed_on rfl hq
theorem exc_attr {Q : Option Value → Shared → Prop} (X : K.In h) (hx : h.get? a = some o) (hc : o.cls = .ref C) (hm : mroIn K C (.type "object") = some true) (hb : mroIn K C (.type "BaseException") = some true)
    (hf : findIn K (.ref C) "__class__" = some (some (.builtin "object.__class__"))) (hg : findIn K (.ref C) "__getattribute__" = some (some (.builtin "BaseException.__getattribute__"))) (hh : findIn K (.ref C) "__getattr__" = some none)
    (hq : Q (some (.ref C)) ⟨h, g, d, t + 1, os⟩) : wpAny (model prog w) A (getAttr? (.ref a) "__class__") Q E ⟨h, g, d, t, os⟩ := by
  unfold getAttr? getAttrBy?
  repeat (any_goals (first | assumption | with_reducible apply exc_by X hx hc hm hb hf hg hh | wp_step))
end
structure XCls (K : Frag) (C : Addr) : Prop where
  ex : excIn K C [.type "ValueError", .type "Exception", .type "BaseException", .type "object"] "ValueError.__new__" = true
  ob : mroIn K C (.type "object") = some true
  be : mroIn K C (.type "BaseException") = some true
  ga : findIn K (.ref C) "__getattribute__" = some (some (.builtin "BaseException.__getattribute__"))
  gt : findIn K (.ref C) "__getattr__" = some none
  cl : findIn K (.ref C) "__class__" = some (some (.builtin "object.__class__"))
theorem XCls.obj {K : Frag} {C : Addr} (c : XCls K C) : ∃ (dd : Option Addr) (cd : ClassData) (sl : Array (Option Value)), K.lookup C = some ⟨.type "type", dd, .cls cd, sl⟩ := by
  have q := c.ex
  unfold excIn at q
  split at q
  · rename_i dd cd sl ho
    exact ⟨dd, cd, sl, ho⟩
  · cases q
structure XC0 (K : Frag) (C : Addr) : Prop where
  obj : ∃ (dd : Option Addr) (cd : ClassData) (sl : Array (Option Value)), K.lookup C = some ⟨.type "type", dd, .cls cd, sl⟩
  ob : mroIn K C (.type "object") = some true
  be : mroIn K C (.type "BaseException") = some true
  ga : findIn K (.ref C) "__getattribute__" = some (some (.builtin "BaseException.__getattribute__"))
  gt : findIn K (.ref C) "__getattr__" = some none
  cl : findIn K (.ref C) "__class__" = some (some (.builtin "object.__class__"))
theorem XCls.c0 {K : Frag} {C : Addr} (c : XCls K C) : XC0 K C := ⟨c.obj, c.ob, c.be, c.ga, c.gt, c.cl⟩
theorem kitx_exc {K : Frag} {a C : Addr} (c : XC0 K C) : KitX K (.ref a) (.ref C) (ExcA a C) where
  ty := fun M h _ ⟨o, h1, h2⟩ => h2 ▸ (Looks.ld h1).andThen .now
  it := fun M h X _ => by
    obtain ⟨dd, cd, sl, ho⟩ := c.obj
    intro A' Q' E' s' k q
    unfold isType loadHead
    exact wpAny_bind (wpAny_loadPart (k _ _ (X _ _ ho)) (wpAny_pure q))
  ne := fun h tp dd its n sl X htp => by
    obtain ⟨dd, cd, sl, ho⟩ := c.obj
    refine Bool.eq_false_iff.mpr fun q => ?_
    have e : C = tp := Value.ref.inj (beq_iff_eq.mp q)
    subst e
    have z := (X _ _ ho).symm.trans htp
    exact absurd (congrArg Obj.cls (Option.some.inj z)) (by show ¬ Value.type "type" = Value.type "tuple"; decide)
  ca := fun {_ _ _ _ _ s} X ⟨o, h1, h2⟩ k => by
    obtain ⟨h, g, d, t, os⟩ := s
    exact exc_attr X h1 h2 c.ob c.be c.cl c.ga c.gt k
end U


set_option linter.all false
set_option maxRecDepth 100000
set_option maxHeartbeats 4000000
namespace U
open PySem PySem.Spec PyProof.Rows L2
variable {B : Bs}
def XL (K : PySem.W.Frag) (B : Bs) (E' : XK') (E : XK) : Prop := ∀ c d H1' H1, E' c d H1' → HR K H1' H1 → Ev B.1 B.2 H1' H1 → E c d H1
section
variable {P : Program} {w : World} {K : PySem.W.Frag} {mg : Str → Option Value} {base : Heap}
theorem plain_cx {CX : CXT} {N : List Str} {qual : Str} {sc : Scope} {f : Addr} {cdv : Value} {A : Around} {outer : List Env} {s : Shared} {H : Hp} {E : XK} : Plain (cxOf CX P w K mg base N qual sc f cdv A outer s H E) := ⟨rfl, rfl, rfl⟩
theorem okX {x qual : Str} {st : Stmt} {f : Addr} {fd : FuncData} {N ps : List Str} {k : Nat} {sp : Sp'} (F : Fun K x qual st f fd) (S : FnScope N ps (defScope st)) (len : ∀ vs H Q E, sp vs H Q E → vs.length = ps.length)
    (hbody : ∀ (cdv : Value) (A : Around) (outer : List Env) (s : Shared) (H : Hp) (E : XK) (vs' : List PV) (H' : PHp) (Q' : VK') (E' : XK'), Room k (A.deeper (envOfC qual (defScope st) s.heap.objs.size f cdv)) → XL K (H', H) E' E → sp vs' H' Q' E' →
      ∃ t, PSs' (cxOf (CXU P w) P w K mg base N qual (defScope st) f cdv A outer s H E) (H', H) (defBody st) t ∧ t (ends Q') (start' N vs') H') : FnOk' P w K mg base (CXU P w) (k + 1) f fd ps sp := by
  obtain ⟨oc, od, kV, doc, pm, an, cdv, ct, osl, rfl, lk, hcd⟩ := F.ex
  refine fn_of lk hcd S (fun vs H Q E zz => by obtain ⟨vs', H', Q', E', r, hr, h, _⟩ := zz; rw [RPs.length _ r]; exact len _ _ _ _ h) fun A outer s H vs Q E hr hsp => ?_
  obtain ⟨vs', H', Q', E', r, hh, h, k1, k2⟩ := hsp
  obtain ⟨t, ht, hq⟩ := hbody cdv A outer s H E vs' H' Q' E' hr k2 h
  refine ⟨_, ht, start' N vs', H', _, sr_start r hh, hq, ?_, ?_, ?_, ?_⟩
  · rintro σ1' H1' σ1 H1 ⟨H3, sb, q⟩ s1 e1
    exact k1 _ H3 _ H1 q (by simp [RP]) (s1.hp.sub sb) (e1.sub sb)
  · rintro v' H1' v H1 ⟨H3, sb, q⟩ r1 s1 e1
    exact k1 _ H3 _ H1 q r1 (s1.sub sb) (e1.sub sb)
  · intro _ _ _ _ z; exact z.elim
  · intro _ _ _ _ z; exact z.elim
end
section
variable {X : Cx} {k : Nat} {f C D : Addr} {fd : FuncData} {ps : List Str} {sp : Sp'} {E : XK} {E' : XK'} {x m n : Str} {p np pos apos cpos : Pos} {e o : Expr} {es : List Expr} {ta : TE'} {t : TA'}
def Lv (X : Cx) (E : XK) : Prop := X.xe = fun e s' => wpAny (model X.prog X.w) X.A (leaving X.env e) (fun _ s'' => CXU X.prog X.w X.outer X.H₀ X.s₀ E e s'') (fun e' s'' => CXU X.prog X.w X.outer X.H₀ X.s₀ E e' s'') s'
theorem cls_at {K : PySem.W.Frag} {h : Heap} (KX : K.In h) (c : XCls K C) : ∃ (bm : List Value) (N : Addr) (nm q : Str) (bs : List Value) (hdct : Bool) (sn : List Str) (sub : List Value) (ab : Bool) (col : Option Bool) (dd : Option Addr) (k0 k1 k2 k3 k5 : Option Value) (mN : Str → Option Value),
    h.get? C = some (excClassObj nm q C N bs bm hdct sn sub ab col dd k0 k1 k2 k3 k5 "ValueError.__new__") ∧ h.Ns N mN ∧ mN "__init__" = none ∧ OwnTail h [.type "ValueError", .type "Exception", .type "BaseException", .type "object"] bm := by
  have q := c.ex
  unfold PySem.W.excIn at q
  split at q
  · rename_i dd cd sl ho
    split at q
    · rename_i C' bm k0 k1 k2 k3 n k5 hm hs
      simp only [Bool.and_eq_true, beq_iff_eq, Bool.not_eq_true'] at q
      obtain ⟨⟨⟨⟨⟨rfl, rfl⟩, hdel⟩, ht⟩, hok⟩, hni⟩ := q
      obtain ⟨nm, bs, mro, ns, qn, hd, sn, sub, ab, col, del⟩ := cd
      dsimp only at hm hdel hok hni
      subst hm hdel
      have hsl : sl = #[k0, k1, k2, k3, some (.builtin "ValueError.__new__"), k5] := by
        obtain ⟨l⟩ := sl
        simp only at hs
        rw [hs]
      subst hsl
      exact ⟨bm, ns, nm, qn, bs, hd, sn, sub, ab, col, dd, k0, k1, k2, k3, k5, _, KX _ _ ho, .of_isNs (PySem.W.isNs_of_in KX hok), PySem.W.nsMap_none_of_in KX hok hni, PySem.W.tail_of_in KX ht⟩
    · cases q
  · cases q
def uRaise (C : Addr) (E' : XK') : TS' := fun _ _ H => E' (.ref C) none H
theorem qs_raise {msg : Str} {j : Nat} {mp : Pos} (l : Lv X E) (pl : Plain X) (hE : XL X.K B E' E) (hc : X.calm = true) (c : XCls X.K C) (hg : Gl X x) (hm : X.mg x = some (.ref C)) (hdb : (x == ("__debug__" : Str)) = false := by decide) :
    PS' X B (.Raise (some (.Call (.Name x np) [.Constant (.str msg) j mp] [] cpos)) none pos) (uRaise C E') := by
  intro pins s σ H Dn I ⟨σ', H', D', sr, h, dr⟩
  have hE1 : E (.ref C) none H := hE _ _ H' H h sr.hp sr.ev
  obtain ⟨bm, N, nm, q, bs, hdct, sn, sub, ab, col, dd, k0, k1, k2, k3, k5, mN, hC, hN, hni, TL⟩ := cls_at I.mod.kin c
  refine wpAny_Raise_call_subT (C := C) (nm := nm) (q := q) (N := N) (bs := bs) (bm := bm) (hdct := hdct) (sn := sn) (sub := sub) (ab := ab) (col := col) (dd := dd) (k0 := k0) (k1 := k1) (k2 := k2) (k3 := k3) (k5 := k5) PySem.F.excBase_ValueError (TL.hasType (by decide)) (I.ok.hd hc) rfl hni (ld_glob I hg hm ⟨rfl, ?_⟩ hdb)
  refine Calls.evalArgs_plain ?_
  refine thn (pa_cons (X := X) pe_str pa_nil rfl cpos pins s σ H (fun vs H1 => vs = [.str msg] ∧ H1 = H) I ⟨rfl, rfl⟩) fun us s2 ⟨vs, H1, I2, r, ev, eh⟩ => ?_
  subst ev; subst eh
  have hl : us.length = 1 := by rw [← r.length]; rfl
  refine ⟨rfl, by show us.length ≤ sizeLine; rw [hl]; exact small_size (by decide), I2.bk _ _ hC, hN.keeps I2.bk, TL.keeps I2.bk, fun h' a mx => ?_⟩
  rw [l]
  exact leave_made I2 pl mx hE1
end
end U


set_option linter.all false
set_option maxRecDepth 100000
set_option maxHeartbeats 4000000
namespace U
open PySem PySem.Spec PyProof.Rows L2
variable {B : Bs}
section
variable {X : Cx} {pins : List (Addr × Obj)} {σ : L2.St} {H : Hp} {s : Shared} {a C T : Addr} {fl : Value} {d : Option Addr}
theorem name_goes {M : Model} {A : Around} {E : Value → Shared → Prop} {i : Nat} {n : Str} {pos : Pos} {Q : Unit → Shared → Prop} (I : Inv X pins σ H s) (hN : X.N.Nodup) (hi : X.N[i]? = some n) (hl : X.env.scope.names.lookup n = some .local)
    (h : ∀ s', Inv X pins (σ.set i none) H s' → Q () s') : wpAny M A (do bindName X.env n .none; unbindBehindTheSuite X.env n pos) Q E s := by
  obtain ⟨m, hn, hlo⟩ := id I.loc
  have hcls : (X.env.scope.kind == .class || (X.env.scope.kind == .module && X.env.locals != X.env.globals)) = false := by rw [I.ok.kind]; rfl
  refine wpAny_nameGoes_keeps hl hn hcls fun h' v hn' hs => h _ ?_
  obtain ⟨oL, _, _, hoL, _⟩ := id hn
  have cne := I.cne
  refine ⟨I.ok, I.os, I.bare, ⟨fun b o e n' hb hx => ?_, fun b o e n' hb hx => ?_, I.base.free, fun b o e hx => ?_, I.base.tups, I.base.frzs, I.base.tbls⟩, ⟨_, hn', fun j y v' e1 e2 e3 => ?_⟩, fun y c e => ?_, I.free, I.freeC, fun p hp => ?_, fun b ob e => ?_, by rw [List.length_set]; exact I.len⟩
  · exact (hs.2 b (Nat.ne_of_lt (Nat.lt_of_lt_of_le (Heap.lt_size e) I.ok.above))).trans (I.base.keep b o e n' hb hx)
  · obtain ⟨sl, e1⟩ := I.base.slot b o e n' hb hx
    exact ⟨sl, (hs.2 b (Nat.ne_of_lt (Nat.lt_of_lt_of_le (Heap.lt_size e) I.ok.above))).trans e1⟩
  · obtain ⟨o', e1⟩ := I.base.there b o e hx
    exact ⟨o', (hs.2 b (Nat.ne_of_lt (Nat.lt_of_lt_of_le (Heap.lt_size e) I.ok.above))).trans e1⟩
  · by_cases hj : j = i
    · subst hj
      by_cases hlt : j < σ.length
      · rw [List.getElem?_set_self hlt] at e2; cases e2
      · rw [List.getElem?_eq_none (by simpa using Nat.le_of_not_lt hlt)] at e2; cases e2
    · rw [List.getElem?_set_ne (Ne.symm hj)] at e2
      obtain ⟨u', r', q⟩ := hlo j y v' e1 e2 e3
      refine ⟨u', r', ?_⟩
      rcases q with ⟨k, e⟩ | ⟨k, c, e, z⟩
      · refine .inl ⟨k, ?_⟩
        have : y ≠ n := fun e => hj (nodup_ix hN e1 (e ▸ hi))
        simp [this, e]
      · exact .inr ⟨k, c, e, z.sameBut hs (cne y c e)⟩
  · obtain ⟨w', z⟩ := I.cell y c e
    exact ⟨w', z.sameBut hs (cne y c e)⟩
  · obtain ⟨e, n', ne, nf, d⟩ := I.pin p hp
    exact ⟨(hs.2 p.1 ne).trans e, n', ne, nf, d⟩
  · refine (I.hok b ob e).stay (fun c w' hc q => (hs.2 c ?_).trans q) (fun _ q => q) fun _ _ q => q
    rintro rfl
    rcases hc with rfl | hc
    · rw [I.free] at e; cases e
    · rw [I.free] at hc; cases hc
theorem track_ext {φ : Heap → Prop} (I : Inv X pins σ H s) (x : XAt X pins H s a C T fl d) (hφ : φ s.heap) (hs : ∀ h1 h2 : Heap, φ h1 → (∀ o, h1.get? a = some o → h2.get? a = some o) → φ h2) : Inv X pins σ (upd H a (.ext φ)) s := by
  obtain ⟨oe, vs, oT, ts, a0, e1, e2, e3, e4, e5, e7, e8, e9, e10⟩ := x.fly
  have hL : X.env.locals ≠ a := by
    rintro rfl
    obtain ⟨m, ⟨o, es, ep, ho, hd, _⟩, _⟩ := I.loc
    rw [e1] at ho; cases ho; rw [e4] at hd; cases hd
  refine ⟨I.ok, I.os, I.bare, ⟨I.base.keep, I.base.slot, fun b o e n hx => ?_, I.base.there, fun b xs e => ?_, fun b o u e => ?_, fun b ps e => ?_⟩, I.loc, I.cell, ?_, fun y c e => ?_, fun p hp => ?_, fun b ob e => ?_, I.len⟩
  · rw [upd_ne (fun z => by subst z; rw [x.na] at e; cases e)]; exact I.base.free b o e n hx
  · have := I.base.tups b xs e
    rw [upd_ne (ne_of_none this x.ha)]; exact this
  · have := I.base.frzs b o u e
    rw [upd_ne (ne_of_none this x.ha)]; exact this
  · obtain ⟨more, this⟩ := I.base.tbls b ps e
    exact ⟨more, by rw [upd_ne (ne_of_none this x.ha)]; exact this⟩
  · rw [upd_ne hL]; exact I.free
  · refine (upd_ne ?_).trans (I.freeC y c e)
    rintro rfl
    obtain ⟨v, o, ho, hd⟩ := I.cell y c e
    rw [e1] at ho; cases ho; rw [e4] at hd; cases hd
  · obtain ⟨e, n, ne, nf, d⟩ := I.pin p hp
    exact ⟨e, by rw [upd_ne (x.pin p hp).1]; exact n, ne, nf, d⟩
  · by_cases hb : b = a
    · subst hb
      rw [upd_same] at e; cases e
      exact ⟨hφ, ⟨oe, e1⟩, hs⟩
    · rw [upd_ne hb] at e
      exact (I.hok b ob e).stay (fun _ _ _ q => q) (fun c q => by rw [upd_ne (ne_of_none q x.ha)]; exact q) fun c xs q => by rw [upd_ne (ne_of_none q x.ha)]; exact q
def exo (C : Addr) (d : Option Addr) : PO := match d with
  | none => .exc C
  | some n => .excA C n
theorem track_x {K : PySem.W.Frag} (I : Inv X pins σ H s) (x : XAt X pins H s a C T fl d) : ∃ φ, Inv X pins σ (upd H a (.ext φ)) s ∧ OAt K (upd H a (.ext φ)) a (exo C d) := by
  obtain ⟨oe, vs, oT, ts, a0, e1, e2, e3, e4, e5, e7, e8, e9, e10⟩ := x.fly
  cases d with
  | none => exact ⟨ExcA a C, track_ext I x ⟨oe, e1, e2⟩ (fun h1 h2 ⟨o, q1, q2⟩ k => ⟨o, k o q1, q2⟩), upd_same⟩
  | some n =>
    obtain ⟨oe', dx, o, q1, q2, q3, q4⟩ := x.dat.1 n rfl
    rw [e1] at q1
    cases q1
    exact ⟨ExcD a C dx, track_ext I x ⟨oe, e1, e2, q2, _, e4⟩ (fun h1 h2 ⟨o, q1, q2⟩ k => ⟨o, k o q1, q2⟩), dx, o, upd_same, (upd_ne (ne_of_none q3 x.ha)).trans q3, q4⟩
abbrev mk (X : Cx) (e : Value) : Cx := { X with A := X.A.mark (some e), calm := false, xe := fun _ _ => False }
theorem inv_mk (I : Inv X pins σ H s) (e : Value) : Inv (mk X e) pins σ H s :=
  ⟨⟨I.ok.mod, I.ok.kind, I.ok.glob, I.ok.blt, I.ok.above, I.ok.inj, I.ok.has, I.ok.cab, (fun z => by cases z), I.ok.frames, I.ok.stk, I.ok.exf, I.ok.bs, I.ok.bsz, I.ok.noex, I.ok.exfs, I.ok.funs, I.ok.frf⟩, I.os, I.bare, I.base, I.loc, I.cell, I.free, I.freeC, I.pin, I.hok, I.len⟩
theorem inv_unmk {e : Value} (ok : X.Ok) (I : Inv (mk X e) pins σ H s) : Inv X pins σ H s := ⟨ok, I.os, I.bare, I.base, I.loc, I.cell, I.free, I.freeC, I.pin, I.hok, I.len⟩
theorem plain_mk (pl : Plain X) (e : Value) : Plain (mk X e) := ⟨pl.ex, pl.stk, pl.fr⟩
open PySem.W in
theorem excMatches_own {M : Model} {A : Around} {E : Value → Shared → Prop} {D : Addr} {b : Bool} {Q : Bool → Shared → Prop} (KX : X.K.In s.heap) (cD : XCls X.K D) (hm : mroIn X.K C (.ref D) = some b) (x : ∃ o, s.heap.get? a = some o ∧ o.cls = .ref C)
    (h : Q b s) : wpAny M A (excMatches (.ref a) (.ref D)) Q E s := by
  obtain ⟨oe, he, hcls⟩ := x
  obtain ⟨bm, N, nm, q, bs, hdct, sn, sub, ab, col, dd, k0, k1, k2, k3, k5, mN, hC, hN, hni, TL⟩ := cls_at KX cD
  have hcB : (Value.ref D :: bm).contains (.type "BaseException") = true := by rw [List.contains_cons, TL.hasType (X := "BaseException") (b := true) (by decide), Bool.or_true]
  have LS : Looks M s.heap (isSubtype (.ref C) (.ref D)) b := looks_mroIn KX hm
  have f := tc_notTuple
  obtain ⟨hp, g, d, t, os⟩ := s
  unfold excMatches
  repeat (first | (with_reducible refine wpAny_loadPart_at he ?_; rw [hcls]) | with_reducible refine wpAny_loadPart_at hC ?_ | (with_reducible refine wpAny_isSubtype_exc hC ?_; rw [hcB]) | with_reducible refine LS.at ?_ | wp_step)
  cases b with
  | true => wp_walk; exact h
  | false => wp_walk; exact h
end
end U


set_option linter.all false
set_option maxRecDepth 100000
set_option maxHeartbeats 4000000
namespace U
open PySem PySem.Spec PyProof.Rows L2
variable {B : Bs}
abbrev TX' := St' → PHp → VK' → XK' → Prop
abbrev TSX' := Ends' → (St' → XK') → St' → PHp → Prop
structure Come (X : Cx) (B : Bs) (pins : List (Addr × Obj)) (σ' : St') (H' : PHp) (H : Hp) (E' : XK') (σ1 : L2.St) (a : Addr) (s1 : Shared) : Prop where
  ex : ∃ H1' H1 C T d, Inv X pins σ1 H1 s1 ∧ XAt X pins H1 s1 a C T .none d ∧ SR X.K B σ' H1' σ1 H1 ∧ Ev H' H H1' H1 ∧ E' (.ref C) d H1'
def PXE (X : Cx) (B : Bs) (e : Expr) (t : TX') : Prop := ∀ (Ex : Value → Shared → Prop) (pins : List (Addr × Obj)) (s : Shared) (σ : L2.St) (H : Hp) (Q : VK) (σ' : St') (H' : PHp) (Q' : VK') (E' : XK'), Inv X pins σ H s → SR X.K B σ' H' σ H → t σ' H' Q' E' →
  (∀ v' H1' v H1, Q' v' H1' → RP X.K H1 v' v → SR X.K B σ' H1' σ H1 → Ev H' H H1' H1 → Q v H1) → (∀ a s1, Come X B pins σ' H' H E' σ a s1 → Ex (.ref a) s1) → wpAny (model X.prog X.w) X.A (eval e X.env) (EP X pins σ Q) Ex s
def PSX (X : Cx) (B : Bs) (st : Stmt) (t : TSX') : Prop := ∀ (Ex : Value → Shared → Prop) (pins : List (Addr × Obj)) (s : Shared) (σ : L2.St) (H : Hp) (D : Ends) (σ' : St') (H' : PHp) (D' : Ends') (E' : St' → XK'), Inv X pins σ H s → SR X.K B σ' H' σ H → t D' E' σ' H' → DR X.K B D' D H' H →
  (∀ σ1' σ1 a s1, Come X B pins σ1' H' H (E' σ1') σ1 a s1 → Ex (.ref a) s1) → wpAny (model X.prog X.w) X.A (exec st X.env) (SP X pins D) Ex s
def PSXs (X : Cx) (B : Bs) (sts : List Stmt) (t : TSX') : Prop := ∀ (Ex : Value → Shared → Prop) (pins : List (Addr × Obj)) (s : Shared) (σ : L2.St) (H : Hp) (D : Ends) (σ' : St') (H' : PHp) (D' : Ends') (E' : St' → XK'), Inv X pins σ H s → SR X.K B σ' H' σ H → t D' E' σ' H' → DR X.K B D' D H' H →
  (∀ σ1' σ1 a s1, Come X B pins σ1' H' H (E' σ1') σ1 a s1 → Ex (.ref a) s1) → wpAny (model X.prog X.w) X.A (execs sts X.env) (SP X pins D) Ex s
section
variable {X : Cx} {k : Nat} {f C D : Addr} {fd : FuncData} {ps : List Str} {sp : Sp'} {x m n : Str} {p np pos apos cpos : Pos} {e o : Expr} {es : List Expr} {ta : TE'} {t : TA'}
theorem no_ex {α : Type} {A : Around} {tr : Sem α} {Q : α → Shared → Prop} {Ex : Value → Shared → Prop} {M : Model} {s : Shared} (h : wpAny M A tr Q (fun _ _ => False) s) : wpAny M A tr Q Ex s := wpAny_mono h (fun _ _ q => q) fun _ _ z => z.elim
theorem Come.later {pins : List (Addr × Obj)} {σ' : St'} {H' H1' : PHp} {H H1 : Hp} {E' : XK'} {σ1 : L2.St} {a : Addr} {s1 : Shared} (c : Come X B pins σ' H1' H1 E' σ1 a s1) (e : Ev H' H H1' H1) : Come X B pins σ' H' H E' σ1 a s1 := by
  obtain ⟨H2', H2, C, T, d, i, x, s, v, q⟩ := c.ex
  exact ⟨H2', H2, C, T, d, i, x, s, e.trans v, q⟩
theorem runX {pins : List (Addr × Obj)} {σ : L2.St} {H : Hp} {s : Shared} {Q : VK} {us : List Value} {vs : List V} {Ex : Value → Shared → Prop} {σ' : St'} {H' : PHp} {vs' : List PV} {Q' : VK'} {E' : XK'} (pl : Plain X)
    (F : FnOk' X.prog X.w X.K X.mg X.base (CXU X.prog X.w) k f fd ps sp) (hr : Room k X.A) (hb : Binds X.K fd ps []) (I : Inv X pins σ H s) (sr : SR X.K B σ' H' σ H) (r : Vals vs us) (r' : RPs X.K H vs' vs) (h : sp vs' H' Q' E')
    (hQ : ∀ v' H1' v H1, Q' v' H1' → RP X.K H1 v' v → SR X.K B σ' H1' σ H1 → Ev H' H H1' H1 → Q v H1) (hE : ∀ a s1, Come X B pins σ' H' H E' σ a s1 → Ex (.ref a) s1) :
    wpAny (model X.prog X.w) X.A (call (.ref f) us) (EP X pins σ Q) Ex s := by
  have hsp : lowSp X.K sp vs H Q (fun c d H1 => ∃ H1', E' c d H1' ∧ HR X.K H1' H1 ∧ Ev H' H H1' H1) :=
    ⟨vs', H', Q', E', r', sr.hp, h, fun v' H2' v H2 q r2 h2 e2 => hQ v' H2' v H2 q r2 (sr.kp e2 h2) e2, fun c d H2' H2 q h2 e2 => ⟨H2', q, h2, e2⟩⟩
  have hl : (us ++ []).length = ps.length := by rw [List.append_nil, ← r.length]; exact F.len _ _ _ _ hsp
  have hb' := hb s us I.kIn hl
  rw [List.append_nil] at hb'
  refine wpAny_call (codeAny_mono (F.run X.A X.stack s H ⟨us, []⟩ us vs Q _ hr I.env0 hb' r hsp) fun r s' hq => ?_)
  cases r with
  | error e =>
    have hq' : CXU X.prog X.w X.stack H s (fun c d H1 => ∃ H1', E' c d H1' ∧ HR X.K H1' H1 ∧ Ev H' H H1' H1) e s' := hq
    obtain ⟨a, C, T, H1, d, rfl, I1, x1, ⟨H1', q, h1, e1⟩, _⟩ := from_call I pl hq'
    exact hE a s' ⟨H1', H1, C, T, d, I1, x1, sr.kp e1 h1, e1, q⟩
  | ok fl =>
    cases fl with
    | ret u => exact I.after hq
    | next => exact False.elim hq
    | brk => exact False.elim hq
    | cont => exact False.elim hq
def xCall (sp : Sp') (t : TA') : TX' := fun σ H Q E => t σ H fun vs H1 => sp vs H1 Q E
theorem px_call (pl : Plain X) (F : FnOk' X.prog X.w X.K X.mg X.base (CXU X.prog X.w) k f fd ps sp) (hr : Room k X.A) (hg : Gl X x) (hm : X.mg x = some (.ref f)) (hk : PySem.W.keepIn X.K (.ref f) = true) (hb : Binds X.K fd ps [])
    (ha : PA' X.nox B (e :: es) t) (hdb : (x == ("__debug__" : Str)) = false := by decide) (he : starEach (e :: es) X.env = (false, eval e X.env) :: starEach es X.env := by rfl) (hpl : (backTo pos (starEach es X.env)).any (·.1) = false := by rfl) :
    PXE X B (.Call (.Name x p) (e :: es) [] pos) (xCall sp t) := by
  intro Ex pins s σ H Q σ' H' Q' E' I sr h hQ hE
  refine wpAny_Call_Name_kw (ld_glob I hg hm ?_ hdb)
  have hA := ha pos pins s σ H (fun vs H1 => ∃ vs' H1', RPs X.K H1 vs' vs ∧ SR X.K B σ' H1' σ H1 ∧ Ev H' H H1' H1 ∧ sp vs' H1' Q' E') (I.wish _) ⟨σ', H', _, sr, h, fun vs' H1' vs H1 q r s1 e1 => ⟨vs', H1', r, s1, e1, q⟩⟩
  refine PySem.W.callWith_K (h₀ := X.base) I.ok.mod.kin hk (thn (no_ex hA) fun us s1 ⟨vs, H1, I1, r, vs', H1', r', s1', e1, q⟩ => ⟨I1.kIn, ?_⟩) he hpl
  exact runX pl F hr hb I1.unwish s1' r r' q (fun v' H2' v H2 q r2 s2 e2 => hQ v' H2' v H2 q r2 s2 (e1.trans e2)) fun a s2 c => hE a s2 (c.later e1)
def xSet (i : Nat) (t : TX') : TSX' := fun D E σ H => t σ H (fun v H1 => D.nx (σ.set i (some v)) H1) (E σ)
def xDrop (t : TX') : TSX' := fun D E σ H => t σ H (fun _ H1 => D.nx σ H1) (E σ)
theorem qx_set {i : Nat} {y : Str} {pos' : Pos} {tx : TX'} (hN : X.N.Nodup) (hi : X.N[i]? = some y) (hy : Loc X.env.scope y) (he : PXE X B e tx) (hs : swapsWith e (some (.Name y pos')) pos.line X.env = pure false := by rfl)
    (hf : X.fn y = true ∨ X.env.scope.names.lookup y = some .local := by first | exact .inl rfl | exact .inr rfl | assumption) : PSX X B (.Assign [.Name y pos'] e pos) (xSet i tx) := by
  intro Ex pins s σ H D σ' H' D' E' I sr h dr hE
  refine wpAny_Assign_Name (thn (he Ex pins s σ H (fun v H1 => ∃ v' H1', D'.nx (σ'.set i (some v')) H1' ∧ RP X.K H1 v' v ∧ SR X.K B σ' H1' σ H1 ∧ Ev H' H H1' H1) σ' H' _ (E' σ') I sr h (fun v' H1' v H1 q r s1 e1 => ⟨v', H1', q, r, s1, e1⟩) fun a s1 c => hE σ' σ a s1 c) fun v s1 ⟨y, H1, I1, r1, v', H1', q, r, s1', e1⟩ => ?_) hs
  exact store_ok I1 hN hi hy r1 (fun s2 I2 => ⟨_, H1, I2, dr.nx _ _ _ _ q (s1'.set r i) e1⟩) hf
def xSeq (t u : TSX') : TSX' := fun D E σ H => t { D with nx := u D E } E σ H
theorem qxs_one {st : Stmt} {ts : TSX'} (h : PSX X B st ts) : PSXs X B [st] ts := by
  intro Ex pins s σ H D σ' H' D' E' I sr ht dr hE
  refine wpAny_execs_cons (thn (h Ex pins s σ H D σ' H' D' E' I sr ht dr hE) fun f s1 q => ?_)
  cases f with
  | next => exact wpAny_execs_nil q
  | _ => exact q
def xIf (c : TT') (t u : TSX') : TSX' := fun D E σ H => c σ H fun b H1 => cif b (t D E σ H1) (u D E σ H1)
def uTry (K : PySem.W.Frag) (D : Addr) (t : TSX') (i j : Nat) : TS' := fun Dn σ H => t Dn (fun σ1 c d H1 => ∃ C, c = .ref C ∧ (XC0 K C ∧ PySem.W.mroIn K C (.ref D) = some true) ∧ ∀ a, H1 a = none → Dn.nx (((σ1.set i (some (.ref a))).set j (some (.ref a))).set i none) (put H1 a (exo C d))) σ H
theorem qs_try {body : List Stmt} {tb : TSX'} {i j : Nat} {z : Str} {zp n2 ap hp : Pos} (pl : Plain X) (hN : X.N.Nodup) (hi : X.N[i]? = some n) (hj : X.N[j]? = some z) (hln : X.env.scope.names.lookup n = some .local) (hlz : X.env.scope.names.lookup z = some .local)
    (cD : XCls X.K D) (hg : Gl X x) (hm : X.mg x = some (.ref D)) (hb : PSXs X B body tb)
    (hdb : (x == ("__debug__" : Str)) = false := by decide) (hnd : (n == ("__debug__" : Str)) = false := by decide) (hncd : (n == ("__classdict__" : Str)) = false := by decide)
    (hsw : swapsWith (.Name n n2) (some (.Name z zp)) ap.line X.env = pure false := by rfl) :
    PS' X B (.Try body [.ExceptHandler (some (.Name x np)) (some n) [.Assign [.Name z zp] (.Name n n2) ap] hp] [] [] pos) (uTry X.K D tb i j) := by
  intro pins s σ H Dn I ⟨σ', H', D', sr, h, dr⟩
  refine wpAny_Try_except (wpAny_mono (hb (fun e s₁ => wpAny (model X.prog X.w) X.A (noteFrame e X.env) (fun _ s₂ => wpAny (model X.prog X.w) X.A (setFlight e none) (fun _ s₃ => wpAny (model X.prog X.w) X.A (handleBy e X.env [.ExceptHandler (some (.Name x np)) (some n) [.Assign [.Name z zp] (.Name n n2) ap] hp]) (SP X pins Dn) X.xe s₃) X.xe s₂) X.xe s₁)
    pins s σ H Dn σ' H' D' _ I sr h dr ?_) (fun f s₁ q => ?_) fun _ _ q => q)
  · rintro σ1' σ1 a s1 ⟨H1', H1, C, T, d, I1, x1, sr1, e1, C', ec, ⟨cC, hmC⟩, hn⟩
    cases ec
    refine note_x I1 pl x1 fun h2 T2 I2 x2 => ?_
    refine land_x I2 pl x2 fun h3 T3 I3 x3 => ?_
    obtain ⟨oe, vs, oT, ts, a0, q1, q2, _⟩ := id x3.fly
    refine wpAny_handleBy_cons (codeAny_handlers_test (ld_glob (inv_mk I3 (.ref a)) hg hm ?_ hdb)) (by intro q; cases q)
    refine excMatches_own (X := X) I3.kIn cD hmC ⟨oe, q1, q2⟩ ?_
    show codeAny _ _ (.handlers (.ref a) [.ExceptHandler none (some n) [.Assign [.Name z zp] (.Name n n2) ap] hp] X.env) _ _
    refine codeAny_handlers_suite_as ?_
    refine land_x (X := mk X (.ref a)) (inv_mk I3 (.ref a)) (plain_mk pl _) (T := T3) (fl := .none) ⟨x3.dat, x3.fly, x3.ha, x3.hT, x3.na, x3.nT, x3.pin⟩ fun h4 T4 I4 x4 => ?_
    obtain ⟨φ, I5, oat⟩ := track_x (K := X.K) I4 x4
    refine store_ok (X := mk X (.ref a)) (v := .ref a) I5 hN hi (Or.inl hln) rfl (fun s5 I6 => ?_) (.inr hln)
    have ps := pss_one (ps_set (X := mk X (.ref a)) (pos := ap) (i := j) hN hj (Or.inl hlz) (pe_var (pos := n2) hi (Or.inl hln) hnd hncd) hsw (.inr hlz))
    have hiσ : i < σ1.length := by rw [I1.len]; exact (List.getElem?_eq_some_iff.mp hi).1
    refine no_ex (thn (ps pins s5 _ _ { nx := fun σ6 H6 => σ6 = (σ1.set i (some (.ref a))).set j (some (.ref a)) ∧ H6 = upd H1 a (.ext φ), rt := fun _ _ => False } I6 ⟨.ref a, List.getElem?_set_self hiσ, rfl, rfl⟩) fun f s6 q => ?_)
    cases f with
    | next =>
      obtain ⟨σ6, H6, I7, rfl, rfl⟩ := q
      show wpAny _ X.A (do bindName X.env n .none; unbindBehindTheSuite X.env n hp) _ _ _
      refine name_goes (inv_unmk I.ok I7) hN hi hln fun s7 I8 => ?_
      refine ⟨_, _, I8, dr.nx _ _ _ _ (hn a (sr1.hp.free x1.ha)) ?_ (e1.trans (Ev.new x1.ha))⟩
      have srn : SR X.K B σ1' (put H1' a (exo C d)) σ1 (upd H1 a (.ext φ)) := sr1.new x1.ha oat
      have r : RP X.K (upd H1 a (.ext φ)) (.ref a) (.ref a) := by simp [RP]
      have sr2 := (srn.set r i).set r j
      refine ⟨by simp [sr2.len], fun k v' ek => ?_, sr2.hp, sr2.ev⟩
      by_cases hk : i = k
      · subst hk
        by_cases hlt : i < σ1'.length
        · rw [List.getElem?_set_self (by simpa using hlt)] at ek; cases ek
        · rw [List.getElem?_eq_none (by simpa using Nat.le_of_not_lt hlt)] at ek; cases ek
      · rw [List.getElem?_set_ne hk] at ek ⊢
        exact sr2.loc k v' ek
    | ret v => obtain ⟨_, _, _, _, _, z⟩ := q; exact z.elim
    | brk => obtain ⟨_, _, _, z⟩ := q; exact z.elim
    | cont => obtain ⟨_, _, _, z⟩ := q; exact z.elim
  · cases f with
    | next => exact wpAny_execs_nil q
    | ret v => exact q
    | brk => exact q
    | cont => exact q
def isxOf (K : PySem.W.Frag) (D : Value) (x : PV) (H : PHp) (Q : VK') : Prop := match x with
  | .ref a => ∃ C d b, H a = some (exo C d) ∧ XC0 K C ∧ PySem.W.kitOne K (.ref C) D = some b ∧ Q (.bl b) H
  | _ => False
def uIsx (K : PySem.W.Frag) (D : Value) (ta : TE') : TE' := fun σ H Q => ta σ H fun x H1 => isxOf K D x H1 Q
theorem call_isx {dv : V} (Dv : Value) (hD : ∀ u, RelV dv u → u = Dv) : CallR X (.builtin "isinstance") (fun xs H Q => ∃ a C b φ, xs = [.ref a, dv] ∧ (H a = some (.ext φ) ∧ ∀ h, φ h → ExcA a C h) ∧ XC0 X.K C ∧ PySem.W.kitOne X.K (.ref C) Dv = some b ∧ Q (.bl b) H) := by
  intro pins s σ H xs us Q I r h
  obtain ⟨a, C, b, φ, rfl, ⟨ha, hφ⟩, c, k, q⟩ := h
  obtain ⟨u, w', rfl, rx, rc⟩ := vals2 r
  have e1 : w' = Dv := hD _ rc
  subst e1
  cases rx
  obtain ⟨ph, _, _⟩ := (show ObjOk X.prog X.w H s.heap a (.ext φ) from I.hok a _ ha)
  exact PySem.W.kia_one (kitx_exc c) I.kIn (hφ _ ph) k (fun z => nomatch z) fun tk => ⟨.bl b, H, I.tok _, rfl, q⟩
theorem low_isx {K : PySem.W.Frag} {dv' : PV} {dv : V} {Dv : Value} (rd : ∀ H, RP K H dv' dv) {σ : L2.St} {H : Hp} {Q : VK} (h : low K B (uIsx K Dv ta) σ H Q) :
    tCB (fun xs H Q => ∃ a C b φ, xs = [.ref a, dv] ∧ (H a = some (.ext φ) ∧ ∀ h, φ h → ExcA a C h) ∧ XC0 K C ∧ PySem.W.kitOne K (.ref C) Dv = some b ∧ Q (.bl b) H) (tCons (low K B ta) (tCons (tC dv) tNil)) σ H Q := by
  obtain ⟨σ', H', Q', s, h, k⟩ := h
  refine ⟨σ', H', _, s, h, fun x' H1' x H1 h1 rx s1 e1 => ?_⟩
  cases x' with
  | ref a =>
    obtain ⟨C, d, b, ea, c, kk, q⟩ := h1
    simp only [RP] at rx
    subst rx
    obtain ⟨φ, e1', e2'⟩ : ∃ φ, H1 a = some (.ext φ) ∧ ∀ h, φ h → ExcA a C h := by
      have q := s1.hp _ _ ea
      cases d with
      | none => exact ⟨_, q, fun _ z => z⟩
      | some n => obtain ⟨dx, o, z, _⟩ := q; exact ⟨_, z, fun _ ⟨o, a, b, _⟩ => ⟨o, a, b⟩⟩
    exact ⟨a, C, b, φ, rfl, ⟨e1', e2'⟩, c, kk, k _ _ _ _ q (by simp [RP]) s1 e1⟩
  | _ => exact h1.elim
theorem qe_isx {pD : Pos} (hm : X.mg x = some (.ref D)) (hgD : Gl X x) (hg : Gl X "isinstance") (hi : X.mg "isinstance" = none) (ha : PE' X B e ta) (hdb : (x == ("__debug__" : Str)) = false := by decide)
    (he : starEach [e, .Name x pD] X.env = (false, eval e X.env) :: starEach [.Name x pD] X.env := by rfl) (he2 : starEach [.Name x pD] X.env = (false, eval (.Name x pD) X.env) :: starEach [] X.env := by rfl) (hpl : (backTo pos (starEach [.Name x pD] X.env)).any (·.1) = false := by rfl) :
    PE' X B (.Call (.Name "isinstance" p) [e, .Name x pD] [] pos) (uIsx X.K (.ref D) ta) :=
  pe_imp (pe_callB (call_isx (dv := .ref D) (.ref D) fun u r => r) hg hi boot_isinstance (pa_cons ha (pa_cons (pe_glob hgD hm (v := .ref D) rfl hdb) pa_nil he2) he) (by decide) (by decide) he hpl) fun _ _ _ h => low_isx (dv' := .ref D) (fun _ => by simp [RP]) h
theorem qe_isxT {pD : Pos} {T : String} (hm : X.mg x = none) (hv : bootBuiltins x = some (.type T)) (hgD : Gl X x) (hg : Gl X "isinstance") (hi : X.mg "isinstance" = none) (ha : PE' X B e ta) (hdb : (x == ("__debug__" : Str)) = false := by decide) (hxn : x ≠ "__name__" := by decide)
    (he : starEach [e, .Name x pD] X.env = (false, eval e X.env) :: starEach [.Name x pD] X.env := by rfl) (he2 : starEach [.Name x pD] X.env = (false, eval (.Name x pD) X.env) :: starEach [] X.env := by rfl) (hpl : (backTo pos (starEach [.Name x pD] X.env)).any (·.1) = false := by rfl) :
    PE' X B (.Call (.Name "isinstance" p) [e, .Name x pD] [] pos) (uIsx X.K (.type T) ta) :=
  pe_imp (pe_callB (call_isx (dv := .ty T) (.type T) fun u r => r) hg hi boot_isinstance (pa_cons ha (pa_cons (pe_bltn hgD hm hv (v := .ty T) rfl hxn hdb) pa_nil he2) he) (by decide) (by decide) he hpl) fun _ _ _ h => low_isx (dv' := .oth (.ty T)) (fun _ => by simp [RP]) h
end
end U


set_option linter.all false
set_option maxRecDepth 100000
set_option maxHeartbeats 4000000
namespace U
open PySem L2
def pr (p : Str × Bool) : PV := .tup [.str p.1, .bl p.2]
def told (xs : List (Str × Bool)) : List PV := (xs.filter (·.2)).map fun p => PV.str p.1
theorem kinds_loop {D : Ends'} {xs : List (Str × Bool)} {a : PV} {r q : Addr} {H0 : PHp} {u v : Option PV} {ok : PHp → Prop} (hrq : r ≠ q) (hok : ∀ H : PHp, (∀ b, b ≠ r → H b = H0 b) → ok H) (h : H0 r = some (.lst [])) (hl : xs.length ≤ 100)
    (hD : ∀ H u v, H r = some (.lst (told xs)) → (∀ b, b ≠ r → H b = H0 b) → D.nx [some a, some (.ref r), some (.ref q), u, v] H) :
    uForL ok (vTup 2 (vCons (vName 3) (vCons (vName 4) vNil))) (uIfS (uTest (uVar 4)) (uDrop (uBM uAppend (uVar 1) (uCons (uVar 3) uNil))) uNext) D (xs.map pr) [some a, some (.ref r), some (.ref q), u, v] H0 := by
  suffices key : ∀ (ys : List (Str × Bool)) (acc : List PV) (H : PHp) u v, H r = some (.lst acc) → (∀ b, b ≠ r → H b = H0 b) → acc ++ told ys = told xs → acc.length + ys.length ≤ 100 →
      uForL ok (vTup 2 (vCons (vName 3) (vCons (vName 4) vNil))) (uIfS (uTest (uVar 4)) (uDrop (uBM uAppend (uVar 1) (uCons (uVar 3) uNil))) uNext) D (ys.map pr) [some a, some (.ref r), some (.ref q), u, v] H from
    key xs [] H0 u v h (fun _ _ => rfl) rfl (by simpa using hl)
  intro ys
  induction ys with
  | nil =>
    intro acc H u v hr hb e _
    refine ⟨hok H hb, hD H u v ?_ hb⟩
    rw [hr, ← e]; simp [told]
  | cons y ys ih =>
    intro acc H u v hr hb e hl
    obtain ⟨n, b⟩ := y
    refine ⟨hok H hb, ?_⟩
    simp only [pr, w_vt, w_vc, vName, w_vn, List.set_cons_zero, List.set_cons_succ, uIfS, uTest, uVar, List.getElem?_cons_zero, List.getElem?_cons_succ, w_V, List.length_cons, List.length_nil, true_and]
    simp only [List.length_cons] at hl
    cases b with
    | false =>
      simp only [w_B, cif_f, uNext]
      exact ih acc H _ _ hr hb (by rw [← e]; simp [told]) (by omega)
    | true =>
      simp only [w_B, cif_t, uDrop, w_bm, uVar, List.getElem?_cons_zero, List.getElem?_cons_succ, w_V, w_il, uCons, uNil, w_ap]
      refine ⟨⟨_, hr⟩, acc, hr, small1000 (by omega), ?_⟩
      refine ih (acc ++ [.str n]) _ _ _ put_same (fun b hb' => (put_ne hb').trans (hb b hb')) (by rw [← e]; simp [told]) (by simp; omega)
end U
namespace U
open PySem L2
def IsV (σ : St') (H : PHp) (te : TE') (b : Bool) : Prop := ∀ Q : VK', Q (.bl b) H → te σ H Q
theorem isv_isx {K : PySem.W.Frag} {D : Value} {a C : Addr} {d : Option Addr} {σ : St'} {H : PHp} {b : Bool} (ha : H a = some (exo C d)) (c : XC0 K C) (k : PySem.W.kitOne K (.ref C) D = some b) : IsV (some (.ref a) :: σ) H (uIsx K D (uVar 0)) b :=
  fun Q h => (⟨C, d, b, ha, c, k, h⟩ : isxOf K D (.ref a) H Q)
theorem isv_not {σ : St'} {H : PHp} {te : TE'} {b : Bool} (h : IsV σ H te b) : IsV σ H (uNotV te) (!b) := fun Q q => h _ q
def uItems : List (Str × TE') → TA'
  | [] => uNil
  | (n, te) :: r => uCons (uTup (uCons (uC (.str n)) (uCons te uNil))) (uItems r)
def AllV (σ : St') (H : PHp) : List (Str × TE') → List Bool → Prop
  | [], [] => True
  | (_, te) :: r, b :: bs => IsV σ H te b ∧ AllV σ H r bs
  | _, _ => False
def pairs : List (Str × TE') → List Bool → List PV
  | (n, _) :: r, b :: bs => .tup [.str n, .bl b] :: pairs r bs
  | _, _ => []
theorem items_ok {σ : St'} {H : PHp} : ∀ {l : List (Str × TE')} {bs : List Bool} {Q : List PV → PHp → Prop}, AllV σ H l bs → Q (pairs l bs) H → uItems l σ H Q
  | [], [], Q, _, q => q
  | (n, te) :: r, b :: bs, Q, ⟨h, hr⟩, q => by
    have s2 : (2 : Nat) ≤ sizeLine := small_size (by decide)
    show te σ H fun v H1 => _
    refine h _ ?_
    refine ⟨s2, ?_⟩
    exact items_ok (Q := fun vs H' => Q (.tup [.str n, .bl b] :: vs) H') hr q
structure KI (H0 H : PHp) (a r q C : Addr) (d : Option Addr) (L : List PV) : Prop where
  ha : H a = some (exo C d)
  hr : H r = some (.lst [])
  hq : H q = some (.lst L)
  sb : Sub H0 H
  nq : H0 q = none
  ln : L.length ≤ 100
  rq : r ≠ q
theorem pairs_len : ∀ (l : List (Str × TE')) (bs : List Bool), (pairs l bs).length ≤ l.length
  | [], bs => by cases bs <;> simp [pairs]
  | _ :: _, [] => by simp [pairs]
  | (n, te) :: r, b :: bs => by simpa [pairs] using pairs_len r bs
theorem k_first {H0 H : PHp} {a r C : Addr} {d : Option Addr} {l : List (Str × TE')} {bs : List Bool} {R : TS'} {D : Ends'} {o u v : Option PV} (ha : H a = some (exo C d)) (hr : H r = some (.lst [])) (sb : Sub H0 H) (hl : l.length ≤ 4)
    (hv : AllV [some (.ref a), some (.ref r), o, u, v] H l bs) (h : ∀ q H', KI H0 H' a r q C d (pairs l bs) → R D [some (.ref a), some (.ref r), some (.ref q), u, v] H') :
    uSeq (uAsg (uLst (uItems l)) (vName 2)) R D [some (.ref a), some (.ref r), o, u, v] H := by
  show uItems l _ H fun xs H1 => _
  have hn := pairs_len l bs
  refine items_ok hv ⟨small_size (by omega), fun q hq => ?_⟩
  exact h q _ ⟨(put_ne (ne_none ha hq)).trans ha, (put_ne (ne_none hr hq)).trans hr, put_same, sb.put (sb.free hq), sb.free hq, by omega, ne_none hr hq⟩
theorem k_more {H0 H : PHp} {a r q C : Addr} {d : Option Addr} {L : List PV} {l : List (Str × TE')} {bs : List Bool} {R : TS'} {D : Ends'} {u v : Option PV} (i : KI H0 H a r q C d L) (hl : l.length ≤ 4 ∧ L.length ≤ 50)
    (hv : AllV [some (.ref a), some (.ref r), some (.ref q), u, v] H l bs) (h : ∀ H', KI H0 H' a r q C d (L ++ pairs l bs) → R D [some (.ref a), some (.ref r), some (.ref q), u, v] H') :
    uSeq (uDrop (uBM uExtend (uVar 2) (uCons (uLst (uItems l)) uNil))) R D [some (.ref a), some (.ref r), some (.ref q), u, v] H := by
  show isL (.ref q) H ∧ uItems l _ H fun xs H1 => _
  have hn := pairs_len l bs
  refine ⟨⟨_, i.hq⟩, items_ok hv ⟨small_size (by omega), fun p hp => ?_⟩⟩
  have qp := ne_none i.hq hp
  show uExtend (.ref q) [.ref p] (put H p (.lst (pairs l bs))) fun _ H1 => R D [some (.ref a), some (.ref r), some (.ref q), u, v] H1
  refine ⟨L, pairs l bs, (put_ne qp).trans i.hq, put_same, small_size (by omega), ?_⟩
  have aq : a ≠ q := by rintro rfl; have := i.ha.symm.trans i.hq; cases d <;> cases this
  exact h _ ⟨(put_ne aq).trans ((put_ne (ne_none i.ha hp)).trans i.ha), (put_ne i.rq).trans ((put_ne (ne_none i.hr hp)).trans i.hr), put_same, (i.sb.put (i.sb.free hp)).put i.nq, i.nq, by rw [List.length_append]; omega, i.rq⟩
theorem k_last {H0 H : PHp} {a r q C : Addr} {d : Option Addr} {xs : List (Str × Bool)} {R : TS'} {D : Ends'} {u v : Option PV} {nm : Str} (i : KI H0 H a r q C d (xs.map pr)) (hn : told xs = [.str nm])
    (h : ∀ H' u v, Sub (put H0 r (.lst [.str nm])) H' → R D [some (.ref a), some (.ref r), some (.ref q), u, v] H') :
    uSeq (uFor (uSeqI (uVar 2)) (vTup 2 (vCons (vName 3) (vCons (vName 4) vNil))) (uIfS (uTest (uVar 4)) (uDrop (uBM uAppend (uVar 1) (uCons (uVar 3) uNil))) uNext)) R D [some (.ref a), some (.ref r), some (.ref q), u, v] H := by
  show ∃ l, H q = some (.lst l) ∧ _
  refine ⟨_, i.hq, ?_⟩
  have hl : xs.length ≤ 100 := by simpa using i.ln
  refine kinds_loop i.rq (fun H' hb => (hb q (Ne.symm i.rq)).trans i.hq) i.hr hl fun H1 u v e1 e2 => h H1 u v fun b o e => ?_
  by_cases hb : b = r
  · subst hb; rw [put_same] at e; rw [e1, ← e, hn]
  · rw [put_ne hb] at e; rw [e2 b hb]; exact i.sb b o e
end U
namespace U
open PySem
theorem len0 {P : List Value → Prop} (h : P []) (us : List Value) (hl : us.length = 0) : P us := by
  cases us with
  | nil => exact h
  | cons a r => exact absurd hl (Nat.succ_ne_zero _)
theorem len1 {P : List Value → Prop} (h : ∀ a, P [a]) (us : List Value) (hl : us.length = 1) : P us := by
  cases us with
  | nil => exact absurd hl.symm (Nat.succ_ne_zero _)
  | cons a r => exact len0 (P := fun r => P (a :: r)) (h a) r (Nat.succ.inj hl)
theorem len2 {P : List Value → Prop} (h : ∀ a b, P [a, b]) (us : List Value) (hl : us.length = 2) : P us := by
  cases us with
  | nil => exact absurd hl.symm (Nat.succ_ne_zero _)
  | cons a r => exact len1 (P := fun r => P (a :: r)) (h a) r (Nat.succ.inj hl)
theorem len3 {P : List Value → Prop} (h : ∀ a b c, P [a, b, c]) (us : List Value) (hl : us.length = 3) : P us := by
  cases us with
  | nil => exact absurd hl.symm (Nat.succ_ne_zero _)
  | cons a r => exact len2 (P := fun r => P (a :: r)) (h a) r (Nat.succ.inj hl)
theorem len4 {P : List Value → Prop} (h : ∀ a b c d, P [a, b, c, d]) (us : List Value) (hl : us.length = 4) : P us := by
  cases us with
  | nil => exact absurd hl.symm (Nat.succ_ne_zero _)
  | cons a r => exact len3 (P := fun r => P (a :: r)) (h a) r (Nat.succ.inj hl)
end U
namespace U
open PySem PySem.Spec PyProof.Rows L2
variable {B : Bs} {X : Cx}
end U


set_option linter.all false
set_option maxRecDepth 100000
set_option maxHeartbeats 4000000
namespace L2
open PySem PySem.Spec PyProof.Rows
def compCx (X : Cx) (N2 : List Str) (scope : Scope) (cl : List (Str × Addr)) (s0 : Shared) (H0 : Hp) (fp : List Addr) (ps : List (Addr × Obj)) : Cx :=
  { X with N := N2, s₀ := s0, H₀ := H0, env := compEnvC scope cl s0.heap.objs.size X.env, outer := X.stack, stack := X.stack, ex := fp, fn := fun x => (cl.lookup x).isNone, pn := ps, xe := fun _ _ => False }
def sig0 (nt : Nat) (js : List Nat) (σ : St) : St := List.replicate nt none ++ js.map fun j => (σ[j]?).join
theorem lookup_relabel_free {env : Env} : ∀ {names : List (Str × NameKind)} {x : Str}, names.lookup x = some .free →
    (names.map fun (n, k) => if (k == NameKind.free && env.scope.kind == .function && env.kindOf n == some .cell) then (n, NameKind.cell) else (n, k)).lookup x = some .cell ∨
    (names.map fun (n, k) => if (k == NameKind.free && env.scope.kind == .function && env.kindOf n == some .cell) then (n, NameKind.cell) else (n, k)).lookup x = some .free
  | [], _, h => by simp at h
  | (n, k) :: r, x, h => by
    have ih := @lookup_relabel_free env r x
    show List.lookup x ((if (k == NameKind.free && env.scope.kind == .function && env.kindOf n == some .cell) = true then (n, NameKind.cell) else (n, k)) :: _) = _ ∨ List.lookup x ((if (k == NameKind.free && env.scope.kind == .function && env.kindOf n == some .cell) = true then (n, NameKind.cell) else (n, k)) :: _) = _
    cases hx : x == n with
    | true =>
      simp only [List.lookup_cons, hx] at h
      cases h
      by_cases hc : (NameKind.free == NameKind.free && env.scope.kind == .function && env.kindOf n == some .cell) = true
      · rw [if_pos hc]; simp [List.lookup_cons, hx]
      · rw [if_neg hc]; simp [List.lookup_cons, hx]
    | false =>
      simp only [List.lookup_cons, hx] at h
      by_cases hc : (k == NameKind.free && env.scope.kind == .function && env.kindOf n == some .cell) = true
      · rw [if_pos hc]; simp only [List.lookup_cons, hx]; exact ih h
      · rw [if_neg hc]; simp only [List.lookup_cons, hx]; exact ih h
structure CompOk (X : Cx) (N2 : List Str) (nt : Nat) (js : List Nat) (scope : Scope) (cl : List (Str × Addr)) (sc : Scope) : Prop where
  clos : closureFor scope X.env = pure cl
  sub : ∀ x c, cl.lookup x = some c → X.env.cells.lookup x = some c
  xsc : X.env.scope = sc
  kind : scope.kind = .function
  nocell : ∀ y ∈ scope.names, y.2 ≠ .cell
  loc : ∀ y ∈ scope.names, y.2 = .local → scope.names.lookup y.1 = some .local
  has : ∀ y ∈ scope.names, y.2 = .free → y.1 ∈ cl.map (·.1)
  frs : ∀ x ∈ N2.drop nt, scope.names.lookup x = some .free ∧ sc.names.lookup x = some .cell
  len : N2.length = nt + js.length
  pl : ∀ (k j : Nat), js[k]? = some j → X.N[j]? = N2[nt + k]?
theorem mem_lookup {α : Type} : ∀ {l : List (Str × α)} {x : Str}, x ∈ l.map (·.1) → ∃ c, l.lookup x = some c
  | [], _, h => by simp at h
  | (n, k) :: r, x, h => by
    cases hx : x == n with
    | true => exact ⟨k, by simp [List.lookup_cons, hx]⟩
    | false =>
      have h' : x = n ∨ x ∈ r.map (·.1) := by simpa using h
      have hn : x ≠ n := by intro e; subst e; simp at hx
      obtain ⟨c, e⟩ := mem_lookup (h'.resolve_left hn)
      exact ⟨c, by simp [List.lookup_cons, hx, e]⟩
theorem lookup_mem {α : Type} : ∀ {l : List (Str × α)} {x : Str} {c : α}, l.lookup x = some c → (x, c) ∈ l
  | [], _, _, h => by simp at h
  | (n, k) :: r, x, c, h => by
    cases hx : x == n with
    | true =>
      simp only [List.lookup_cons, hx] at h
      have e : x = n := by simpa using hx
      cases h; subst e; exact List.mem_cons_self
    | false =>
      simp only [List.lookup_cons, hx] at h
      exact List.mem_cons_of_mem _ (lookup_mem h)
section
variable {X : Cx} {pins : List (Addr × Obj)} {σ : St} {H : Hp} {s : Shared} {N2 : List Str} {nt : Nat} {js : List Nat} {scope sc : Scope} {cl : List (Str × Addr)} {fp : List Addr}
theorem CompOk.kindOf (O : CompOk X N2 nt js scope cl sc) {x : Str} {C : Addr} (h : (compEnvC scope cl C X.env).kindOf x = some .cell ∨ (compEnvC scope cl C X.env).kindOf x = some .free) : ∃ c, cl.lookup x = some c := by
  have h' : (relabel scope X.env).names.lookup x = some .cell ∨ (relabel scope X.env).names.lookup x = some .free := h
  have key : ∀ (k : NameKind), (relabel scope X.env).names.lookup x = some k → (k = .cell ∨ k = .free) → ∃ y ∈ scope.names, y.1 = x ∧ (y.2 = .cell ∨ y.2 = .free) := fun k e hk => by
    have m := lookup_mem e
    obtain ⟨⟨n, k'⟩, hm, e'⟩ := List.mem_map.mp m
    by_cases hc : (k' == NameKind.free && X.env.scope.kind == .function && X.env.kindOf n == some .cell) = true
    · simp only [hc, if_true] at e'
      have e1 : n = x := congrArg Prod.fst e'
      refine ⟨(n, k'), hm, e1, .inr ?_⟩
      rw [Bool.and_eq_true, Bool.and_eq_true] at hc
      exact beq_iff_eq.mp hc.1.1
    · have e'' : (n, k') = (x, k) := by
        dsimp only at e'
        rw [if_neg hc] at e'
        exact e'
      cases e''
      exact ⟨(x, k), hm, rfl, hk⟩
  obtain ⟨y, hy, rfl, hk⟩ := h'.elim (fun e => key _ e (.inl rfl)) fun e => key _ e (.inr rfl)
  rcases hk with hk | hk
  · exact absurd hk (O.nocell y hy)
  · exact mem_lookup (O.has y hy hk)
theorem compCx_ok (O : CompOk X N2 nt js scope cl sc) (I : Inv X pins σ H s) (hf : ∀ b ∈ fp, FpOk X pins H b) (hlt : ∀ b ∈ fp, b < s.heap.objs.size) : (compCx X N2 scope cl s H fp (X.pn ++ pins)).Ok where
  mod := I.ok.mod
  kind := O.kind
  glob := I.ok.glob
  blt := I.ok.blt
  above := Nat.le_refl _
  inj := fun x y c h1 h2 => I.ok.inj x y c (O.sub x c h1) (O.sub y c h2)
  has := fun x h => O.kindOf h
  cab := fun x c h1 h2 => by
    have h1' : (cl.lookup x).isNone = true := h1
    have h2' : cl.lookup x = some c := h2
    rw [h2'] at h1'; cases h1'
  hd := I.ok.hd
  frames := I.ok.frames
  stk := .inl rfl
  exf := fun b hb => ⟨Nat.ne_of_lt (hlt b hb), fun x c e => (hf b hb).2.2.2.2.1 x c (O.sub x c e)⟩
  bs := I.bs
  bsz := Nat.le_trans I.ok.bsz I.sz
  noex := fun b o e hb => by
    obtain ⟨_, _, _, h3, _⟩ := hf b hb
    rcases h3 with h3 | h3
    · exact I.ok.noex b o e h3
    · exact absurd (Nat.lt_of_lt_of_le (Heap.lt_size (I.ok.bs b o e).1) h3) (Nat.lt_irrefl _)
  exfs := fun b hb hs => by
    obtain ⟨_, h1, h2, _⟩ := hf b hb
    rcases List.mem_cons.mp (I.stkSub b hs) with e | e
    · exact h1 e
    · exact h2 e
  funs := I.stack
  frf := I.stkFree
theorem comp_start (O : CompOk X N2 nt js scope cl sc) (I : Inv X pins σ H s) (hf : ∀ b ∈ fp, FpOk X pins H b) (hlt : ∀ b ∈ fp, b < s.heap.objs.size) {h4 : Heap} {t4 : Nat} (hn : h4.Ns s.heap.objs.size fun _ => none)
    (hk : ∀ b o, s.heap.get? b = some o → h4.get? b = some o) : Inv (compCx X N2 scope cl s H fp (X.pn ++ pins)) [] (sig0 nt js σ) H { s with heap := h4, toks := t4 } := by
  refine ⟨compCx_ok O I hf hlt, rfl, I.bare, Un.kept hk, ⟨_, hn, fun i x v e1 e2 e3 => ?_⟩, fun x c e => ?_, I.hok.fresh (Nat.le_refl _), fun x c e => I.freeC x c (O.sub x c e), fun p hp => ?_, I.hok.kept hk, ?_⟩
  · unfold sig0 at e2
    by_cases hi : i < nt
    · rw [List.getElem?_append_left (by simpa using hi), List.getElem?_replicate] at e2
      split at e2 <;> cases e2
    · obtain ⟨k, rfl⟩ : ∃ k, i = nt + k := ⟨i - nt, by omega⟩
      rw [List.getElem?_append_right (by simp), List.length_replicate, Nat.add_sub_cancel_left, List.getElem?_map] at e2
      cases ej : js[k]? with
      | none => rw [ej] at e2; cases e2
      | some j =>
        rw [ej] at e2
        have e2' : (σ[j]?).join = some v := Option.some.inj e2
        have eσ : σ[j]? = some (some v) := by
          cases q : σ[j]? with
          | none => rw [q] at e2'; cases e2'
          | some o => rw [q] at e2'; exact congrArg some e2'
        have eN : X.N[j]? = some x := (O.pl k j ej).trans e1
        have hx : x ∈ N2.drop nt := by
          have : (N2.drop nt)[k]? = some x := by rw [List.getElem?_drop]; exact e1
          exact List.mem_of_getElem? this
        obtain ⟨f1, f2⟩ := O.frs x hx
        have vis : Vis X.env.scope x := .inr (.inl (by rw [O.xsc]; exact f2))
        obtain ⟨m, hnX, hl⟩ := I.loc
        obtain ⟨u, r, l⟩ := hl j x v eN eσ vis
        refine ⟨u, r, .inr ⟨?_, ?_⟩⟩
        · exact lookup_relabel_free f1
        · rcases l with ⟨k1, _⟩ | ⟨_, c, ec, ic⟩
          · have k2 : sc.names.lookup x = some .local := by rw [← O.xsc]; exact k1
            rw [f2] at k2; cases k2
          · obtain ⟨c', ec'⟩ := mem_lookup (O.has (x, .free) (lookup_mem f1) rfl)
            have := O.sub x c' ec'
            rw [ec] at this; cases this
            obtain ⟨o, ho, hd⟩ := ic
            exact ⟨c, ec', o, hk _ _ ho, hd⟩
  · obtain ⟨v, o, ho, hd⟩ := I.cell x c (O.sub x c e)
    exact ⟨v, o, hk _ _ ho, hd⟩
  · have hp' : p ∈ X.pn ++ pins := by
      have hp2 : p ∈ (X.pn ++ pins) ++ [] := hp
      rwa [List.append_nil] at hp2
    obtain ⟨e, n, ne, nf, d⟩ := I.pin p hp'
    refine ⟨hk _ _ e, n, Nat.ne_of_lt (Heap.lt_size e), fun hb => ?_, d⟩
    rcases List.mem_cons.mp (I.stkSub p.1 hb) with z | z
    · exact ne z
    · exact nf z
  · unfold sig0
    show _ = N2.length
    rw [List.length_append, List.length_replicate, List.length_map, O.len]
theorem comp_end {σ' : St} {H' : Hp} {s' : Shared} {pl : List (Addr × Obj)} (I : Inv X pins σ H s) (hf : ∀ b ∈ fp, FpOk X pins H b) (J : Inv (compCx X N2 scope cl s H fp (X.pn ++ pins)) pl σ' H' s') : Inv X pins σ H' s' :=
  I.call' (ch := fp) J.os J.base J.hok J.bare fun b hb => by
    obtain ⟨h0, h1, h2, h3, h4, h5⟩ := hf b hb
    exact ⟨h3, h1, h4, h5⟩
end
end L2
namespace L2
open PySem PySem.Spec PyProof.Rows
def PIf (Y : Cx) (ifs : List Expr) (t : TT) : Prop :=
  ∀ (pins : List (Addr × Obj)) (s : Shared) (σ : St) (H : Hp) (Q : Bool → Hp → Prop), Inv Y pins σ H s → t σ H Q →
    wpAny (model Y.prog Y.w) Y.A (forIn ifs true fun c r => if r = true then do let ok ← isTrue c Y.env (eval c Y.env); pure (ForInStep.yield ok) else pure (ForInStep.yield r)) (TP Y pins σ Q) Y.xe s
def tYes : TT := fun _ H Q => Q true H
theorem pif_nil {Y : Cx} : PIf Y [] tYes := fun _ _ _ H _ I h => wpAny_tests_nil ⟨H, I, h⟩
theorem pif_one {Y : Cx} {c : Expr} {t : TT} (h : PT Y c t) : PIf Y [c] t := fun pins s σ H Q I hw => wpAny_tests_one (h pins s σ H Q I hw)
def turnC (acc : Addr) (J : It) (g : TG) (tt : TT) (te : TE) (W : Nat → Nat → L2.St → Hp → Prop) (i m : Nat) (σ0 : L2.St) (H : Hp) : Prop :=
  J.go i H ∧ ∀ x H', J.yld i H x H' → g x σ0 H' fun σ3 H2 => tt σ3 H2 fun b H3 =>
    if b = true then te σ3 H3 fun y H4 => ∃ ys, H4 acc = some (.lst ys) ∧ ys.length < sizeLine ∧ ∃ m', m' < m ∧ W (i + 1) m' σ3 (upd H4 acc (.lst (ys ++ [y])))
    else ∃ m', m' < m ∧ W (i + 1) m' σ3 H3
def tComp (nt : Nat) (js : List Nat) (wi : TI) (g : TG) (tt : TT) (te : TE) : TE := fun σ H Q => wi σ H fun J H1 => ∀ acc, H1 acc = none →
  ∃ W : Nat → Nat → L2.St → Hp → Prop, (∃ m, W 0 m (sig0 nt js σ) (upd H1 acc (.lst []))) ∧ ∀ i m σ0 H, W i m σ0 H → (J.stop i H ∧ Q (.ref acc) H) ∨ turnC acc J g tt te W i m σ0 H
structure CompB (Y : Cx) (tg : Expr) (ifs : List Expr) (elt : Expr) (g : TG) (tt : TT) (te : TE) : Prop where
  tgt : PG Y tg g
  tst : PIf Y ifs tt
  elt : PE Y elt te
theorem compLoop_own {prog : Program} {w : World} {A : Around} {R : Result → Shared → Prop} {s : Shared} {elt target iter : Expr} {ifs : List Expr} {scope : Scope} {pos : Pos} {it acc : Value} {env : Env} (I : Nat → Shared → Prop)
    (turn : ∀ n s, I n s → wpAny (model prog w) A (pyNext it) (fun r s₁ => match r with
      | none => R (.ok .next) s₁
      | some v => wpAny (model prog w) A (letOwnedTupleGo target it v) (fun _ s₀ => wpAny (model prog w) A (assign target env v) (fun _ s₂ =>
          wpAny (model prog w) A (forIn ifs true fun c r => if r = true then do let ok ← isTrue c env (eval c env); pure (ForInStep.yield ok) else pure (ForInStep.yield r)) (fun ok s₃ =>
            if ok = true then wpAny (model prog w) A (eval elt env) (fun x s₄ =>
              wpAny (model prog w) A (call (.builtin "list.append") [acc, x]) (fun _ s₅ => ∃ m, m < n ∧ I m s₅) (fun _ _ => False) s₄) (fun _ _ => False) s₃
            else ∃ m, m < n ∧ I m s₃) (fun _ _ => False) s₂) (fun _ _ => False) s₀) (fun _ _ => False) s₁) (fun _ _ => False) s)
    (n : Nat) (h : I n s) :
    codeAny (model prog w) A (.compLoop (.ListComp elt [⟨target, iter, ifs, 0⟩] scope pos) 0 it acc env) R s := by
  refine codeAny_loop rfl I (fun n s hI => ?_) n h
  show wpAny _ A ((compTurn (.ListComp elt [⟨target, iter, ifs, 0⟩] scope pos) 0 it acc env).onRaise (fun x => do noteFrame x env; theTreesLotGoes x)) _ _ s
  refine wpAny_noted ?_
  rw [compTurn_list]
  refine wpAny_bind (wpAny_standAt (wpAny_bind (wpAny_mono (turn n s hI) (fun r s₁ h₁ => ?_) fun _ _ h' => h'.elim)))
  cases r with
  | none => exact wpAny_pure h₁
  | some v =>
    refine wpAny_bind (wpAny_mono h₁ (fun _ s₀ h₀ => ?_) fun _ _ h' => h'.elim)
    refine wpAny_bind (wpAny_mono h₀ (fun _ s₂ h₂ => wpAny_bind (wpAny_mono h₂ (fun ok s₃ h₃ => ?_) fun _ _ h' => h'.elim)) fun _ _ h' => h'.elim)
    cases ok with
    | false => exact wpAny_pure ⟨rfl, h₃⟩
    | true =>
      exact wpAny_bind (wpAny_bind (wpAny_mono h₃ (fun x s₄ h₄ => wpAny_bind (wpAny_mono h₄ (fun _ s₅ h₅ => wpAny_pure (wpAny_pure ⟨rfl, h₅⟩)) fun _ _ h' => h'.elim)) fun _ _ h' => h'.elim))
section
variable {X : Cx} {pins : List (Addr × Obj)} {σ : St} {H : Hp} {s : Shared} {N2 : List Str} {nt : Nat} {js : List Nat} {scope sc : Scope} {cl : List (Str × Addr)} {fp : List Addr} {elt iter tg : Expr} {ifs : List Expr} {pos : Pos}
  {wi : TI} {g : TG} {tt : TT} {te : TE}
theorem comp_run (O : CompOk X N2 nt js scope cl sc) (hc : X.calm = true) (B : ∀ (s0 : Shared) (H0 : Hp) (fp : List Addr) (ps : List (Addr × Obj)), CompB (compCx X N2 scope cl s0 H0 fp ps) tg ifs elt g tt te)
    {it : Addr} {tn : Nat → Heap → Prop} {J : It} {E : Value → Shared → Prop} {Q : VK} {RR : Value → Addr → Result → Shared → Prop}
    (I : Inv X pins σ H s) (T : Turn X.prog X.w X.K tg J fp it tn) (st : tn 0 s.heap) (hf : ∀ b ∈ fp, FpOk X pins H b)
    (h : ∀ acc, H acc = none → ∃ W : Nat → Nat → L2.St → Hp → Prop, (∃ m, W 0 m (sig0 nt js σ) (upd H acc (.lst []))) ∧ ∀ i m σ0 H, W i m σ0 H → (J.stop i H ∧ Q (.ref acc) H) ∨ turnC acc J g tt te W i m σ0 H)
    (hRR : ∀ (acc C : Addr) (s' : Shared) (H' : Hp) (m : Str → Option Value), s'.heap.Ns C m → Inv X pins σ H' s' → H' C = none → C ≠ X.env.locals → X.s₀.heap.objs.size ≤ C → (∀ x c, X.env.cells.lookup x = some c → c ≠ C) → (∀ p ∈ X.pn ++ pins, p.1 ≠ C) → Q (.ref acc) H' → RR (.ref acc) C (.ok .next) s') :
    wpAny (model X.prog X.w) X.A (newList []) (fun acc s₃ => wpAny (model X.prog X.w) X.A (newFunctionEnv scope X.env.globals cl [] X.env.qual none .none (some X.env)) (fun cenv s₄ =>
      codeAny (model X.prog X.w) X.A (.compStart (.ListComp elt [⟨tg, iter, ifs, 0⟩] scope pos) 0 (.ref it) acc { cenv with scope := relabel scope X.env }) (RR acc cenv.locals) s₄) E s₃) E s := by
  have hlt : ∀ b ∈ fp, b < s.heap.objs.size := fun b hb => by
    obtain ⟨o, e, _⟩ := T.obj _ _ st b hb
    exact Heap.lt_size e
  have hnA : H s.heap.objs.size = none := I.hok.fresh (Nat.le_refl _)
  obtain ⟨W, ⟨m0, w0⟩, turn⟩ := h s.heap.objs.size hnA
  refine wpAny_newObj_type (wpAny_newFunctionEnv O.nocell (by intro y hy; simp at hy) (fun h₁ hns₁ hsb₁ => ?_) O.kind)
  dsimp only at hns₁ hsb₁ ⊢
  have I3 : Inv X pins σ (upd H s.heap.objs.size (.lst [])) { s with heap := s.heap.push { cls := .type "list", dict := none, data := .seq ([] : List Value).toArray } } :=
    I.laid (t' := s.toks) (fun b u e => Heap.get?_push_of_some _ e) (Nat.le_refl _) ⟨by show 0 ≤ sizeLine; exact Nat.zero_le _, [], 0, .nil, Heap.get?_push_size _ rfl⟩
  generalize hs3 : ({ s with heap := s.heap.push { cls := .type "list", dict := none, data := .seq ([] : List Value).toArray } } : Shared) = s3 at I3
  have e3 : s3.heap = s.heap.push { cls := .type "list", dict := none, data := .seq ([] : List Value).toArray } := by rw [← hs3]
  rw [← e3] at hns₁ hsb₁ ⊢
  have et : s3.toks = s.toks := by rw [← hs3]
  have hf3 : ∀ b ∈ fp, FpOk X pins (upd H s.heap.objs.size (.lst [])) b := fun b hb => by
    obtain ⟨f0, f⟩ := hf b hb
    exact ⟨by rw [upd_ne (Nat.ne_of_lt (hlt b hb))]; exact f0, f⟩
  have hlt3 : ∀ b ∈ fp, b < s3.heap.objs.size := fun b hb => by rw [e3, Heap.size_push]; exact Nat.lt_succ_of_lt (hlt b hb)
  have hk4 : ∀ b o, s3.heap.get? b = some o → h₁.get? b = some o := fun b o e => hsb₁.extBut b o (Nat.ne_of_lt (Heap.lt_size e)) (Heap.get?_push_of_some _ e)
  have hns' : h₁.Ns s3.heap.objs.size fun _ => none := hns₁
  have I4 := comp_start (t4 := s3.toks + ([] : List (Str × Value)).length) O I3 hf3 hlt3 hns' hk4
  have st4 : tn 0 h₁ := T.keep _ _ _ st fun b hb o e => hk4 b o (by rw [e3]; exact Heap.get?_push_of_some _ e)
  have B4 := B s3 (upd H s.heap.objs.size (.lst [])) fp (X.pn ++ pins)
  generalize hY : compCx X N2 scope cl s3 (upd H s.heap.objs.size (.lst [])) fp (X.pn ++ pins) = Y at I4 B4
  have yP : Y.prog = X.prog := by rw [← hY]; rfl
  have yw : Y.w = X.w := by rw [← hY]; rfl
  have yK : Y.K = X.K := by rw [← hY]; rfl
  have yA : Y.A = X.A := by rw [← hY]; rfl
  have yc : Y.calm = true := by rw [← hY]; exact hc
  have yx : Y.xe = fun _ _ => False := by rw [← hY]; rfl
  have ye : Y.env = compEnvC scope cl s3.heap.objs.size X.env := by rw [← hY]; rfl
  have fpY : ∀ {H' : Hp}, (∀ b ∈ fp, H' b = none) → ∀ b ∈ fp, FpOk Y [] H' b := fun hn b hb => by
    obtain ⟨f0, f1, f2, f3, f4, f5⟩ := hf3 b hb
    rw [← hY]
    refine ⟨hn b hb, Nat.ne_of_lt (hlt3 b hb), fun hs => ?_, .inl hb, fun x c e => f4 x c (O.sub x c e), fun p hp => ?_⟩
    · rcases List.mem_cons.mp (I3.stkSub b hs) with e | e
      · exact f1 e
      · exact f2 e
    · have hp2 : p ∈ (X.pn ++ pins) ++ [] := hp
      rw [List.append_nil] at hp2
      exact f5 p hp2
  have fin : ∀ {σ' : St} {H' : Hp} {s' : Shared} {pl : List (Addr × Obj)}, Inv Y pl σ' H' s' → Q (.ref s.heap.objs.size) H' → RR (.ref s.heap.objs.size) s3.heap.objs.size (.ok .next) s' := fun {σ' H' s' pl} I' q => by
    have J' : Inv X pins σ H' s' := comp_end I3 hf3 (hY ▸ I')
    obtain ⟨m, hn, _⟩ := I'.loc
    have hfr := I'.free
    rw [ye] at hn hfr
    refine hRR _ _ s' H' m hn J' hfr (Nat.ne_of_gt I3.lt) I3.sz (fun x c e z => ?_) (fun p hp z => ?_) q
    · obtain ⟨v, q⟩ := I3.cell x c e
      exact absurd (Nat.lt_of_lt_of_le q.lt (by rw [z]; exact Nat.le_refl _)) (Nat.lt_irrefl _)
    · exact absurd (Nat.lt_of_lt_of_le (Heap.lt_size (I3.pin p hp).1) (by rw [z]; exact Nat.le_refl _)) (Nat.lt_irrefl _)
  have loop : ∀ s4 : Shared, s4 = { s3 with heap := h₁, toks := s3.toks + ([] : List (Str × Value)).length } →
      codeAny (model X.prog X.w) X.A (.compLoop (.ListComp elt [⟨tg, iter, ifs, 0⟩] scope pos) 0 (.ref it) (.ref s.heap.objs.size) (compEnvC scope cl s3.heap.objs.size X.env)) (RR (.ref s.heap.objs.size) s3.heap.objs.size) s4 := by
    rintro s4 rfl
    refine compLoop_own (fun n s' => ∃ i σ0 H', Inv Y [] σ0 H' s' ∧ tn i s'.heap ∧ (∀ b ∈ fp, H' b = none) ∧ W i n σ0 H') ?_ m0
      ⟨0, _, _, I4, st4, fun b hb => (hf3 b hb).1, w0⟩
    rintro n s5 ⟨i, σ5, H5, I5, st5, fr5, w5⟩
    rcases turn i n σ5 H5 w5 with ⟨stop, q⟩ | ⟨go, step⟩
    · have r := T.done Y yP yw yK yc i [] s5 _ H5 (fun _ _ => False) I5 (fpY fr5) st5 stop
      rw [yA] at r
      refine thn r fun r s6 ⟨hr, I6⟩ => ?_
      subst hr
      exact fin I6 q
    · have r := T.item Y yP yw yK yc i [] s5 _ H5 (fun _ _ => False) I5 (fpY fr5) st5 go
      rw [yA] at r
      refine thn r fun r s6 ⟨u, hr, h6⟩ => ?_
      subst hr
      refine thn h6 fun _ s7 ⟨x, H7, I7, r7, y7, st7, fr7⟩ => ?_
      have I7' := I7.pinned (fpY fr7) (T.obj _ _ st7)
      have r := B4.tgt _ s7 _ H7 x u _ I7' r7 (step x H7 y7)
      rw [yP, yw, yA, yx, ye] at r
      refine thn r fun _ s8 ⟨σ8, H8, I8, q8⟩ => ?_
      have r := B4.tst _ s8 σ8 H8 _ I8 q8
      rw [yP, yw, yA, yx, ye] at r
      refine thn r fun ok s9 ⟨H9, I9, q9⟩ => ?_
      have back : ∀ {s' : Shared} {H' : Hp}, Inv Y ([] ++ pinsAt fp s7.heap) σ8 H' s' → (Inv Y [] σ8 H' s' ∧ tn (i + 1) s'.heap ∧ ∀ b ∈ fp, H' b = none) := fun {s' H'} I' => by
        refine ⟨I'.unpinned, T.keep _ _ _ st7 fun b hb o e => (I'.pin (b, o) (List.mem_append_right _ (List.mem_append_right _ (mem_pinsAt hb e)))).1, fun b hb => ?_⟩
        obtain ⟨o, e, d⟩ := T.obj _ _ st7 b hb
        exact (I'.pin (b, o) (List.mem_append_right _ (List.mem_append_right _ (mem_pinsAt hb e)))).2.1
      cases ok with
      | false =>
        have q9' : ∃ m', m' < n ∧ W (i + 1) m' σ8 H9 := q9
        obtain ⟨m', hm, w9⟩ := q9'
        obtain ⟨b1, b2, b3⟩ := back I9
        show ∃ m, m < n ∧ _
        exact ⟨m', hm, i + 1, σ8, H9, b1, b2, b3, w9⟩
      | true =>
        have q9' : te σ8 H9 fun y H4 => ∃ ys, H4 s.heap.objs.size = some (.lst ys) ∧ ys.length < sizeLine ∧ ∃ m', m' < n ∧ W (i + 1) m' σ8 (upd H4 s.heap.objs.size (.lst (ys ++ [y]))) := q9
        have r := B4.elt _ s9 σ8 H9 _ I9 q9'
        rw [yP, yw, yA, yx, ye] at r
        show wpAny _ _ (eval elt _) _ _ s9
        refine thn r fun y s10 ⟨yv, H10, I10, r10, q10⟩ => ?_
        obtain ⟨ys, a1, a2, m', hm, w10⟩ := q10
        have r := mt_append (X := Y) _ s10 σ8 H10 (.ref s.heap.objs.size) [yv] (.ref s.heap.objs.size) [y] (fun _ H' => H' = upd H10 s.heap.objs.size (.lst (ys ++ [yv]))) I10 rfl (.cons r10 .nil) ⟨_, ys, yv, rfl, rfl, a1, a2, rfl⟩
        rw [yP, yw, yA, yx] at r
        refine thn r fun _ s11 ⟨_, H11, I11, _, e11⟩ => ?_
        subst e11
        obtain ⟨b1, b2, b3⟩ := back I11
        exact ⟨m', hm, i + 1, σ8, _, b1, b2, b3, w10⟩
  have st4' : tn 0 ({ s3 with heap := h₁, toks := s3.toks + ([] : List (Str × Value)).length } : Shared).heap := st4
  have hs4 : ({ s with heap := h₁, toks := s.toks + ([] : List (Str × Value)).length } : Shared) = { s3 with heap := h₁, toks := s3.toks + ([] : List (Str × Value)).length } := by rw [← hs3]
  exact codeAny_compStart_list (loop _ hs4) (T.self _ 0 _ _ _ st4 (loop _ hs4))
theorem pe_compO (O : CompOk X N2 nt js scope cl sc) (hc : X.calm = true) (hi : PI X tg iter wi) (B : ∀ (s0 : Shared) (H0 : Hp) (fp : List Addr) (ps : List (Addr × Obj)), CompB (compCx X N2 scope cl s0 H0 fp ps) tg ifs elt g tt te)
    (hs : ∀ x, foldedSetIterable iter X.env x = pure x := by intro _; rfl) : PE X (.ListComp elt [⟨tg, iter, ifs, 0⟩] scope pos) (tComp nt js wi g tt te) := by
  intro pins s σ H Q I h
  rw [eval_ListComp]
  refine wpAny_comprehension_free (use := none) rfl hs O.clos O.kind O.loc (thn (hi pins s σ H _ I h) fun xv s1 h1 => thn h1 fun itv s2 h2 => ?_)
  obtain ⟨it, fp, tn, J, H2, e, I2, T, st2, f2, q⟩ := h2
  subst e
  refine comp_run (RR := fun acc C => compPost (model X.prog X.w) X.A X.xe none (EP X pins σ Q) acc C) O hc B I2 T st2 f2 q ?_
  intro acc C s' H' m hn J' c1 c2 c3 c4 c5 q'
  refine ⟨m, hn, fun h' hsb => ⟨.ref acc, H', ?_, rfl, q'⟩⟩
  exact J'.turned (t' := s'.toks) (fun b o hb e => hsb.extBut b o hb e) c1 (Ne.symm c2 |> fun z => fun y => z y.symm) (.inr c3) c4 c5
theorem ps_setCO {i : Nat} {y : Str} {py spos : Pos} (hN : X.N.Nodup) (hy : X.N[i]? = some y) (hl : Loc X.env.scope y) (O : CompOk X N2 nt js scope cl sc) (hc : X.calm = true) (hi : PI X tg iter wi)
    (B : ∀ (s0 : Shared) (H0 : Hp) (fp : List Addr) (ps : List (Addr × Obj)), CompB (compCx X N2 scope cl s0 H0 fp ps) tg ifs elt g tt te)
    (hsw : swapsWith (.ListComp elt [⟨tg, iter, ifs, 0⟩] scope pos) (some (.Name y py)) spos.line X.env = pure true := by rfl)
    (hs : ∀ x, foldedSetIterable iter X.env x = pure x := by intro _; rfl) (hfn : X.fn y = true ∨ X.env.scope.names.lookup y = some .local := by first | exact .inl rfl | exact .inr rfl | assumption) :
    PS X (.Assign [.Name y py] (.ListComp elt [⟨tg, iter, ifs, 0⟩] scope pos) spos) (tAsg (tComp nt js wi g tt te) (gName i)) := by
  intro pins s σ H D I h
  rw [exec_Assign_Name_used _ _ _ _ hsw]
  refine wpAny_bind (wpAny_standAt (wpAny_bind ?_))
  show wpAny _ X.A (do let _ ← comprehension (.ListComp elt [⟨tg, iter, ifs, 0⟩] scope pos) scope X.env _ (newList []) false (eval iter X.env) (some (assign (.Name y py) X.env))) _ _ s
  refine wpAny_bind (wpAny_mono (wpAny_comprehension_free (use := some (assign (.Name y py) X.env)) (Q := fun _ s' => SP X pins D .next s') rfl hs O.clos O.kind O.loc
    (thn (hi pins s σ H _ I h) fun xv s1 h1 => thn h1 fun itv s2 h2 => ?_)) (fun _ s' hq => wpAny_pure (wpAny_pure hq)) fun _ _ e => e)
  obtain ⟨it, fp, tn, J, H2, e, I2, T, st2, f2, q⟩ := h2
  subst e
  refine comp_run (Q := fun v H1 => gName i v σ H1 D.nx) (RR := fun acc C => compPost (model X.prog X.w) X.A X.xe (some (assign (.Name y py) X.env)) (fun _ s' => SP X pins D .next s') acc C) O hc B I2 T st2 f2 q ?_
  intro acc C s' H' m hn J' c1 c2 c3 c4 c5 q'
  show wpAny _ X.A (assign (.Name y py) X.env (.ref acc)) _ _ _
  refine wpAny_assign_Name (store_ok2 (v := .ref acc) J' hN hy hl rfl (fun s2 I2' ⟨a, sb, ha⟩ => ?_) hfn)
  have hCa : C ≠ a := by
    rcases ha with ha | ha
    · rw [ha]; exact c2
    · exact fun z => c4 y a ha z.symm
  refine ⟨m, hn.sameBut sb hCa, fun h' hsb => ⟨_, H', ?_, q'⟩⟩
  exact I2'.turned (t' := s2.toks) (fun b o hb e => hsb.extBut b o hb e) c1 c2 (.inr c3) c4 c5
end
end L2


set_option linter.all false
set_option maxRecDepth 100000
set_option maxHeartbeats 4000000
namespace U
open PySem PySem.Spec PyProof.Rows L2
variable {B : Bs} {X : Cx} {pos : Pos}
def sigU (nt : Nat) (js : List Nat) (σ : St') : St' := List.replicate nt none ++ js.map fun j => (σ[j]?).join
theorem SR.sig {K : PySem.W.Frag} {σ' : St'} {H' : PHp} {σ : L2.St} {H : Hp} (s : SR K B σ' H' σ H) (nt : Nat) (js : List Nat) : SR K B (sigU nt js σ') H' (sig0 nt js σ) H := by
  refine ⟨by simp [sigU, sig0], fun i v' e => ?_, s.hp, s.ev⟩
  unfold sigU at e
  unfold sig0
  by_cases hi : i < nt
  · rw [List.getElem?_append_left (by simpa using hi), List.getElem?_replicate] at e
    split at e <;> cases e
  · rw [List.getElem?_append_right (by simp; omega), List.length_replicate, List.getElem?_map] at e ⊢
    cases ej : js[i - nt]? with
    | none => rw [ej] at e; cases e
    | some j =>
      rw [ej] at e
      have e2 : (σ'[j]?).join = some v' := Option.some.inj e
      cases q : σ'[j]? with
      | none => rw [q] at e2; cases e2
      | some o =>
        rw [q] at e2
        have e3 : σ'[j]? = some (some v') := by rw [q]; exact congrArg some e2
        obtain ⟨v, a, b⟩ := s.loc j v' e3
        exact ⟨v, by show some ((σ[j]?).join) = _; rw [a]; rfl, b⟩
def uCompL (ok : PHp → Prop) (g : TG') (tt : TT') (te : TE') (acc : Addr) (Q : VK') : List PV → St' → PHp → Prop
  | [], σ, H => ok H ∧ Q (.ref acc) H
  | x :: r, σ, H => ok H ∧ g x σ H fun σ3 H2 => tt σ3 H2 fun b H3 => cif b (te σ3 H3 fun y H4 => ∃ l, H4 acc = some (.lst l) ∧ l.length < sizeLine ∧ uCompL ok g tt te acc Q r σ3 (put H4 acc (.lst (l ++ [y])))) (uCompL ok g tt te acc Q r σ3 H3)
def uComp (nt : Nat) (js : List Nat) (wi : TI') (g : TG') (tt : TT') (te : TE') : TE' := fun σ H Q => wi σ H fun J H1 => ∀ acc, H1 acc = none → uCompL J.ok g tt te acc Q J.items (sigU nt js σ) (put H1 acc (.lst []))
def PIf' (Y : Cx) (B : Bs) (ifs : List Expr) (t : TT') : Prop := PIf Y ifs (lowT Y.K B t)
def uYes : TT' := fun _ H Q => Q true H
theorem qif_nil {Y : Cx} : PIf' Y B [] uYes := fun pins s σ H Q I ⟨σ', H', Q', sr, h, k⟩ => pif_nil pins s σ H Q I (k true H' H h sr (Ev.refl _ _))
theorem qif_one {Y : Cx} {c : Expr} {t : TT'} (h : PT' Y B c t) : PIf' Y B [c] t := pif_one h
theorem low_comp {K : PySem.W.Frag} {nt : Nat} {js : List Nat} {wi : TI'} {g : TG'} {tt : TT'} {te : TE'} {σ : L2.St} {H : Hp} {Q : VK} (h : low K B (uComp nt js wi g tt te) σ H Q) :
    tComp nt js (lowI K B wi) (lowG K B g) (lowT K B tt) (low K B te) σ H Q := by
  obtain ⟨σ', H', Q', s, h, k⟩ := h
  refine ⟨σ', H', _, s, h, fun J' H1' J H1 h1 wk s1 e1 acc ha => ?_⟩
  have h1 := h1 acc (s1.hp.free ha)
  have sn : SR K B σ' (put H1' acc (.lst [])) σ (upd H1 acc (.lst [])) := s1.new ha ⟨[], upd_same, RPs.nil _⟩
  have en : Ev H1' H1 (put H1' acc (.lst [])) (upd H1 acc (.lst [])) := Ev.new ha
  refine ⟨fun i m σ2 H2 => i ≤ J'.items.length ∧ m = J'.items.length - i ∧ ∃ σ2' H2', SR K B σ2' H2' σ2 H2 ∧ SR K B σ' H2' σ H2 ∧ Ev H1' H1 H2' H2 ∧ uCompL J'.ok g tt te acc Q' (J'.items.drop i) σ2' H2',
    ⟨J'.items.length, Nat.zero_le _, by simp, _, _, sn.sig nt js, sn, en, h1⟩, ?_⟩
  rintro i m σ2 H2 ⟨hi, rfl, σ2', H2', s2, so, e2, h2⟩
  have k2 := e2.kp s1.hp
  by_cases hlt : i < J'.items.length
  · obtain ⟨x', hx⟩ : ∃ x', J'.items[i]? = some x' := ⟨_, List.getElem?_eq_getElem hlt⟩
    have hd : J'.items.drop i = x' :: J'.items.drop (i + 1) := by
      rw [List.drop_eq_getElem_cons hlt]
      rw [List.getElem?_eq_getElem hlt] at hx
      cases hx; rfl
    rw [hd] at h2
    obtain ⟨ok2, h2⟩ := (show J'.ok H2' ∧ _ from h2)
    refine .inr ⟨wk.go H2' H2 i k2 s2.hp ok2 hlt, fun x H3 y => ?_⟩
    obtain ⟨rfl, rx⟩ := wk.yld H2' H2 i x H3 k2 s2.hp ok2 y
    refine ⟨x', σ2', H2', _, rx x' hx, s2, h2, fun σ3' H3' σ3 H3 h3 s3 e3 => ⟨σ3', H3', _, s3, h3, fun b H4' H4 h4 s4 e4 => ?_⟩⟩
    cases b with
    | false =>
      have e24 := e3.trans e4
      exact iteF ⟨J'.items.length - (i + 1), by omega, hlt, rfl, σ3', H4', s4, so.kp e24 s4.hp, e2.trans e24, h4⟩
    | true =>
      refine iteT ⟨σ3', H4', _, s4, h4, fun y' H5' y H5 h5 ry5 s5 e5 => ?_⟩
      obtain ⟨l, a1, a2, h5⟩ := h5
      have e25 := (e3.trans e4).trans e5
      obtain ⟨us, q1, q2⟩ := s5.hp _ _ a1
      have wr := wrL s5.hp a1 (RPs.append _ q2 (RPs.cons _ ry5 (RPs.nil _)))
      refine ⟨us, q1, by rw [RPs.length _ q2]; exact a2, J'.items.length - (i + 1), by omega, hlt, rfl, σ3', _, s5.wr a1 wr, (so.kp e25 s5.hp).wr a1 wr, (e2.trans e25).trans (Ev.wr a1), h5⟩
  · have hi' : i = J'.items.length := by omega
    subst hi'
    rw [List.drop_length] at h2
    obtain ⟨ok2, h2⟩ := (show J'.ok H2' ∧ _ from h2)
    exact .inl ⟨wk.stop H2' H2 _ k2 s2.hp ok2 (Nat.le_refl _), k _ _ _ _ h2 (by simp [RP]) so (e1.trans e2)⟩

section
variable {N2 : List Str} {nt : Nat} {js : List Nat} {scope sc : Scope} {cl : List (Str × Addr)} {elt iter tg : Expr} {ifs : List Expr} {wi : TI'} {g : TG'} {tt : TT'} {te : TE'}
structure CompB' (Y : Cx) (B : Bs) (tg : Expr) (ifs : List Expr) (elt : Expr) (g : TG') (tt : TT') (te : TE') : Prop where
  tgt : PG' Y B tg g
  tst : PIf' Y B ifs tt
  elt : PE' Y B elt te
theorem qe_comp (O : CompOk X N2 nt js scope cl sc) (hc : X.calm = true) (hi : PI' X B tg iter wi) (b : ∀ (s0 : Shared) (H0 : Hp) (fp : List Addr) (ps : List (Addr × Obj)), CompB' (compCx X N2 scope cl s0 H0 fp ps) B tg ifs elt g tt te)
    (hs : ∀ x, foldedSetIterable iter X.env x = pure x := by intro _; rfl) : PE' X B (.ListComp elt [⟨tg, iter, ifs, 0⟩] scope pos) (uComp nt js wi g tt te) :=
  pe_imp (pe_compO (g := lowG X.K B g) (tt := lowT X.K B tt) (te := low X.K B te) O hc hi (fun s0 H0 fp ps => ⟨(b s0 H0 fp ps).tgt, (b s0 H0 fp ps).tst, (b s0 H0 fp ps).elt⟩) hs) fun _ _ _ h => low_comp h
theorem qs_setC {i : Nat} {y : Str} {py spos : Pos} (hN : X.N.Nodup) (hy : X.N[i]? = some y) (hl : Loc X.env.scope y) (O : CompOk X N2 nt js scope cl sc) (hc : X.calm = true) (hi : PI' X B tg iter wi)
    (b : ∀ (s0 : Shared) (H0 : Hp) (fp : List Addr) (ps : List (Addr × Obj)), CompB' (compCx X N2 scope cl s0 H0 fp ps) B tg ifs elt g tt te)
    (hsw : swapsWith (.ListComp elt [⟨tg, iter, ifs, 0⟩] scope pos) (some (.Name y py)) spos.line X.env = pure true := by rfl)
    (hs : ∀ x, foldedSetIterable iter X.env x = pure x := by intro _; rfl) (hfn : X.fn y = true ∨ X.env.scope.names.lookup y = some .local := by first | exact .inl rfl | exact .inr rfl | assumption) :
    PS' X B (.Assign [.Name y py] (.ListComp elt [⟨tg, iter, ifs, 0⟩] scope pos) spos) (uAsg (uComp nt js wi g tt te) (vName i)) :=
  ps_imp (ps_setCO (g := lowG X.K B g) (tt := lowT X.K B tt) (te := low X.K B te) hN hy hl O hc hi (fun s0 H0 fp ps => ⟨(b s0 H0 fp ps).tgt, (b s0 H0 fp ps).tst, (b s0 H0 fp ps).elt⟩) hsw hs hfn) fun D σ H ⟨σ', H', D', s, h, d⟩ => by
    refine low_comp ⟨σ', H', _, s, h, fun v' H1' v H1 q r s1 e1 => ?_⟩
    exact d.nx _ _ _ _ q (s1.set r i) e1
end
end U
namespace U
open PySem PySem.Spec PyProof.Rows L2
def AllL (cs : List (Str × Addr)) : List (Str × Addr) → Prop
  | [] => True
  | p :: r => cs.lookup p.1 = some p.2 ∧ AllL cs r
theorem AllL.mem {cs : List (Str × Addr)} : ∀ {l : List (Str × Addr)} {p : Str × Addr}, AllL cs l → p ∈ l → cs.lookup p.1 = some p.2
  | q :: r, p, h, m => by
    rcases List.mem_cons.mp m with rfl | m
    · exact h.1
    · exact AllL.mem h.2 m
theorem cok {X : Cx} {N2 : List Str} {nt : Nat} {js : List Nat} {scope sc : Scope} {cl : List (Str × Addr)} (clos : closureFor scope X.env = pure cl) (sub : AllL X.env.cells cl) (xsc : X.env.scope = sc) (kind : scope.kind = .function)
    (nocell : ∀ y ∈ scope.names, y.2 ≠ .cell) (loc : ∀ y ∈ scope.names, y.2 = .local → scope.names.lookup y.1 = some .local) (names : cl.map (·.1) = ((scope.names.filter (·.2 == .free)).map (·.1)).reverse)
    (frs : ∀ x ∈ N2.drop nt, scope.names.lookup x = some .free ∧ sc.names.lookup x = some .cell) (len : N2.length = nt + js.length) (pl : js.map (fun j => X.N[j]?) = (N2.drop nt).map some) : CompOk X N2 nt js scope cl sc :=
  ⟨clos, fun x c e => sub.mem (lookup_mem e), xsc, kind, nocell, loc, fun y m f => by rw [names]; exact List.mem_reverse.mpr (List.mem_map_of_mem (List.mem_filter.mpr ⟨m, by rw [f]; rfl⟩)), frs, len, fun k j e => by
    have h : (js.map (fun j => X.N[j]?))[k]? = ((N2.drop nt).map some)[k]? := by rw [pl]
    rw [List.getElem?_map, List.getElem?_map, e, List.getElem?_drop] at h
    cases q : N2[nt + k]? with
    | none => rw [q] at h; cases h
    | some x => rw [q] at h; exact Option.some.inj h⟩
end U
namespace U
open PySem PySem.Spec PyProof.Rows L2
end U


set_option linter.all false
set_option maxRecDepth 100000
set_option maxHeartbeats 4000000
namespace L2
open PySem PySem.Spec PyProof.Rows
variable {X : Cx} {a b c d : Expr} {pos : Pos} {ta tb tc td : TE}
def tChain3 (r r' r'' : R2) (ta tb tc td : TE) : TE := fun σ H Q => ta σ H fun x H1 => tb σ H1 fun y H2 => r x y H2 fun z H3 => ∃ k, z = .bl k ∧
  (if k = true then tc σ H3 fun w' H4 => r' y w' H4 fun z' H5 => ∃ k', z' = .bl k' ∧ (if k' = true then td σ H5 fun v' H6 => r'' w' v' H6 Q else Q (.bl false) H5) else Q (.bl false) H3)
theorem pe_chain3 {op op' op'' : CmpOp} {r r' r'' : R2} (ho : OpR X (compareOp op) r) (ho' : OpR X (compareOp op') r') (ho'' : OpR X (compareOp op'') r'') (ha : PE X a ta) (hb : PE X b tb) (hc : PE X c tc) (hd : PE X d td)
    (hm : lastMarks [op, op', op''] [b, c, d] = false := by with_unfolding_all rfl) : PE X (.Compare a [op, op', op''] [b, c, d] pos) (tChain3 r r' r'' ta tb tc td) := by
  intro pins s σ H Q I h
  refine Compare_chain (thn (ha pins s σ H _ I h) fun v s1 ⟨x, H1, I1, r1, q1⟩ => chain_link (thn (hb pins s1 σ H1 _ I1 q1) fun u s2 ⟨y, H2, I2, r2, q2⟩ =>
    thn (ho pins s2 σ H2 x y v u _ I2 r1 r2 q2) fun d s3 ⟨z, H3, I3, r3, k, e, q3⟩ => ?_)) hm
  subst e
  cases r3
  refine wpAny_truthy_bool ?_
  cases k with
  | false => exact ite_ff ⟨.bl false, H3, I3, rfl, q3⟩
  | true =>
    refine ite_tt (chain_link (thn (hc pins s3 σ H3 _ I3 q3) fun w' s4 ⟨z', H4, I4, r4, q4⟩ => thn (ho' pins s4 σ H4 y z' u w' _ I4 r2 r4 q4) fun d' s5 ⟨z5, H5, I5, r5, k5, e5, q5⟩ => ?_))
    subst e5
    cases r5
    refine wpAny_truthy_bool ?_
    cases k5 with
    | false => exact ite_ff ⟨.bl false, H5, I5, rfl, q5⟩
    | true => exact ite_tt (chain_last (thn (hd pins s5 σ H5 _ I5 q5) fun w6 s6 ⟨z6, H6, I6, r6, q6⟩ => ho'' pins s6 σ H6 z' z6 w' w6 Q I6 r4 r6 q6))
end L2
namespace U
open PySem PySem.Spec PyProof.Rows L2
variable {B : Bs} {X : Cx} {a b c d e o value : Expr} {pos pos' apos p : Pos} {ta tb tc td tv : TE'} {f m x : Str} {C g : Addr}
def uChain3 (r r' r'' : R2') (ta tb tc td : TE') : TE' := fun σ H Q => ta σ H fun x H1 => tb σ H1 fun y H2 => r x y H2 fun z H3 => withB z fun k => cif k (tc σ H3 fun w' H4 => r' y w' H4 fun z' H5 => withB z' fun k' => cif k' (td σ H5 fun v' H6 => r'' w' v' H6 Q) (Q (.bl false) H5)) (Q (.bl false) H3)
theorem qe_chain3 {op op' op'' : CmpOp} {r1' r2' r3' : R2'} {r1 r2 r3 : R2} (ho : OpR X (compareOp op) r1) (v1 : VR X.K B r1' r1) (ho' : OpR X (compareOp op') r2) (v2 : VR X.K B r2' r2) (ho'' : OpR X (compareOp op'') r3) (v3 : VR X.K B r3' r3)
    (ha : PE' X B a ta) (hb : PE' X B b tb) (hc : PE' X B c tc) (hd : PE' X B d td)
    (hm : lastMarks [op, op', op''] [b, c, d] = false := by with_unfolding_all rfl) : PE' X B (.Compare a [op, op', op''] [b, c, d] pos) (uChain3 r1' r2' r3' ta tb tc td) := pe_imp (pe_chain3 ho ho' ho'' ha hb hc hd hm) fun σ H Q ⟨σ', H', Q', s, h, k⟩ => by
  refine ⟨σ', H', _, s, h, fun x' H1' x H1 h1 rx s1 e1 => ⟨σ', H1', _, s1, h1, fun y' H2' y H2 h2 ry s2 e2 => ?_⟩⟩
  refine v1 σ' σ H2' H2 x' y' x y _ _ s2 (RP.kp X.K (e2.kp s1.hp) rx) ry h2 fun z' H3' z H3 q rz s3 e3 => ?_
  obtain ⟨b, rfl, q⟩ := q.ex
  simp only [RP] at rz
  refine ⟨b, rz, ?_⟩
  cases b with
  | false => exact iteF (k _ _ _ _ q (by simp [RP]) s3 ((e1.trans e2).trans e3))
  | true =>
    refine iteT ⟨σ', H3', _, s3, q, fun w' H4' w H4 h4 rw4 s4 e4 => ?_⟩
    refine v2 σ' σ H4' H4 y' w' y w _ _ s4 (RP.kp X.K ((e3.trans e4).kp s2.hp) ry) rw4 h4 fun z5' H5' z5 H5 q5 rz5 s5 e5 => ?_
    obtain ⟨b5, rfl, q5⟩ := q5.ex
    simp only [RP] at rz5
    refine ⟨b5, rz5, ?_⟩
    cases b5 with
    | false => exact iteF (k _ _ _ _ q5 (by simp [RP]) s5 ((((e1.trans e2).trans e3).trans e4).trans e5))
    | true =>
      refine iteT ⟨σ', H5', _, s5, q5, fun v' H6' v H6 h6 rv s6 e6 => ?_⟩
      exact v3 σ' σ H6' H6 w' v' w v _ _ s6 (RP.kp X.K ((e5.trans e6).kp s4.hp) rw4) rv h6 fun z7' H7' z7 H7 q7 rz7 s7 e7 => k _ _ _ _ q7 rz7 s7 ((((((e1.trans e2).trans e3).trans e4).trans e5).trans e6).trans e7)
def fldOf (C : Addr) (f : Str) (x : PV) (H : PHp) (Q : VK') : Prop := match x with
  | .ref a => ∃ dx fs v, H a = some (.ins C dx fs) ∧ fs.lookup f = some v ∧ Q v H
  | _ => False
def uFld (C : Addr) (f : Str) (ta : TE') : TE' := fun σ H Q => ta σ H fun x H1 => fldOf C f x H1 Q
theorem frel_lookup {K : PySem.W.Frag} {H : Hp} {f : Str} {v : PV} {fs : List (Str × PV)} {gs : List (Str × V)} (h : FRel K H fs gs) (e : fs.lookup f = some v) : ∃ u, gs.lookup f = some u ∧ RP K H v u := by
  induction h with
  | nil => simp at e
  | @cons a b _ _ h t ih =>
    obtain ⟨n, y⟩ := a
    obtain ⟨m, z⟩ := b
    obtain ⟨rfl, hr⟩ := h
    dsimp only at hr
    cases hx : f == n with
    | true =>
      simp only [List.lookup_cons, hx] at e ⊢
      cases e
      exact ⟨z, rfl, hr⟩
    | false =>
      simp only [List.lookup_cons, hx] at e ⊢
      exact ih e
theorem frel_none {K : PySem.W.Frag} {H : Hp} {f : Str} {fs : List (Str × PV)} {gs : List (Str × V)} (h : FRel K H fs gs) (e : fs.lookup f = none) : gs.lookup f = none := by
  induction h with
  | nil => rfl
  | @cons a b _ _ h t ih =>
    obtain ⟨n, y⟩ := a
    obtain ⟨m, z⟩ := b
    obtain ⟨rfl, hr⟩ := h
    cases hx : f == n with
    | true => simp only [List.lookup_cons, hx] at e; cases e
    | false =>
      simp only [List.lookup_cons, hx] at e ⊢
      exact ih e
theorem frel_len {K : PySem.W.Frag} {H : Hp} {fs : List (Str × PV)} {gs : List (Str × V)} (h : FRel K H fs gs) : gs.length = fs.length := by
  induction h with
  | nil => rfl
  | cons _ _ ih => simp [ih]
theorem qe_fld (ha : PE' X B e ta) (cl : Cls X.K C) (n : NoAttr X.K C f) (hb : attributeBase e f X.env (eval e X.env) = eval e X.env) : PE' X B (.Attribute e f pos) (uFld C f ta) := pe_imp (pe_fld ha hb) fun σ H Q ⟨σ', H', Q', s, h, k⟩ => by
  refine ⟨σ', H', _, s, h, fun x' H1' x H1 h1 rx s1 e1 => ?_⟩
  cases x' with
  | ref a =>
    obtain ⟨dx, fs, v, ea, l, q⟩ := h1
    simp only [RP] at rx
    subst rx
    obtain ⟨gs, eg, fr⟩ := s1.hp _ _ ea
    obtain ⟨u, lu, ru⟩ := frel_lookup fr l
    exact ⟨a, C, dx, gs, u, rfl, eg, cl, n, lu, k _ _ _ _ q ru s1 e1⟩
  | _ => exact h1.elim
def putU (f : Str) (v : PV) : List (Str × PV) → List (Str × PV)
  | [] => [(f, v)]
  | (g, x) :: r => if g = f then (g, v) :: r else (g, x) :: putU f v r
theorem frel_put {K : PySem.W.Frag} {H : Hp} {f : Str} {v : PV} {u : V} (rv : RP K H v u) {fs : List (Str × PV)} {gs : List (Str × V)} (h : FRel K H fs gs) : FRel K H (putU f v fs) (putF f u gs) := by
  induction h with
  | nil => exact .cons ⟨rfl, rv⟩ .nil
  | @cons a b _ _ h t ih =>
    obtain ⟨n, y⟩ := a
    obtain ⟨m, z⟩ := b
    obtain ⟨rfl, hr⟩ := h
    unfold putU putF
    by_cases hn : n = f
    · rw [if_pos hn, if_pos hn]; exact .cons ⟨rfl, rv⟩ t
    · rw [if_neg hn, if_neg hn]; exact .cons ⟨rfl, hr⟩ ih
def stFld (C : Addr) (f : Str) (x y : PV) (H : PHp) (Q : PHp → Prop) : Prop := match x with
  | .ref a => ∃ dx fs, H a = some (.ins C dx fs) ∧ fs.length < 1000 ∧ Q (put H a (.ins C dx (putU f y fs)))
  | _ => False
def uStFld (C : Addr) (f : Str) (ta tv : TE') : TS' := fun D σ H => tv σ H fun y H1 => ta σ H1 fun x H2 => stFld C f x y H2 fun H3 => D.nx σ H3
theorem qs_fld (ha : PE' X B o ta) (hv : PE' X B value tv) (cl : Cls X.K C) (n : NoAttr X.K C f) (hs : swapsWith value (some (.Attribute o f pos')) pos.line X.env = pure false) : PS' X B (.Assign [.Attribute o f pos'] value pos) (uStFld C f ta tv) := ps_imp (ps_fld ha hv hs) fun D σ H ⟨σ', H', D', s, h, dd⟩ => by
  refine ⟨σ', H', _, s, h, fun y' H1' y H1 h1 ry s1 e1 => ⟨σ', H1', _, s1, h1, fun x' H2' x H2 h2 rx s2 e2 => ?_⟩⟩
  cases x' with
  | ref a =>
    obtain ⟨dx, fs, ea, l, q⟩ := h2
    simp only [RP] at rx
    subst rx
    obtain ⟨gs, eg, fr⟩ := s2.hp _ _ ea
    have ry2 := RP.kp X.K (e2.kp s1.hp) ry
    have new : OAt X.K (upd H2 a (.ins C dx (putF f y gs))) a (.ins C dx (putU f y' fs)) := ⟨_, upd_same, FRel.kp (s2.hp.kpw ea) (frel_put ry2 fr)⟩
    exact ⟨a, C, dx, gs, rfl, eg, cl, n, by rw [frel_len fr]; exact l, dd.nx _ _ _ _ q (s2.wr ea new) ((e1.trans e2).trans (Ev.wr ea))⟩
  | _ => exact h2.elim
def isIn (C : Addr) (m : Str) (x : PV) (H : PHp) : Prop := match x with
  | .ref a => ∃ dx fs, H a = some (.ins C dx fs) ∧ fs.lookup m = none
  | _ => False
def uMeth (C : Addr) (m : Str) (sp : Sp') (E' : XK') (ta : TE') (t : TA') : TE' := fun σ H Q => ta σ H fun x H1 => isIn C m x H1 ∧ t σ H1 fun vs H2 => sp (x :: vs) H2 Q E'
section
variable {k : Nat} {fd : FuncData} {ps : List Str} {sp : Sp'} {es : List Expr} {t : TA'}
def uMake (C : Addr) (sp : Sp') (E' : XK') (t : TA') : TE' := fun σ H Q => t σ H fun vs H1 => ∀ x dx, H1 x = none → H1 dx = none → dx ≠ x → sp (.ref x :: vs) (put H1 x (.ins C dx [])) (fun v H2 => v = .non ∧ Q (.ref x) H2) E'
end
end U


set_option linter.all false
set_option maxRecDepth 100000
set_option maxHeartbeats 4000000
namespace L2
open PySem PySem.Spec PyProof.Rows
variable {X : Cx}
def rAll (K : PySem.W.Frag) : List V → Hp → VK → Prop := fun xs H Q => ∃ (p : Addr) (bs : List Bool), xs = [.ref p] ∧ SqL K H p (bs.map V.bl) ∧ Q (.bl (bs.all id)) H
theorem vals_bools : ∀ {bs : List Bool} {us : List Value}, Vals (bs.map V.bl) us → us = bs.map Value.bool
  | [], _, .nil => rfl
  | b :: bs, _, .cons r t => by rw [vals_bools t]; cases r; rfl
theorem call_all (hc : X.calm = true) : CallR X (.builtin "all") (rAll X.K) := by
  intro pins s σ H xs us Q I r h
  obtain ⟨a, bs, rfl, hq, q⟩ := h
  obtain ⟨u, rfl, ru⟩ := Vals.one r
  cases ru
  obtain ⟨its, rv, p, hz⟩ := I.list hq
  have e := vals_bools rv
  subst e
  have hl : s.heap.IsList a (bs.map Value.bool).toArray := p.isList
  have llt : a < s.heap.objs.size := by obtain ⟨o, e, _⟩ := hl; exact Heap.lt_size e
  have hne : a ≠ s.heap.objs.size := Nat.ne_of_lt llt
  refine call_all_walk (wpAny_pyIter_list hl ?_)
  refine ⟨s.heap.objs.size, [s.heap.objs.size, a], [s.heap.objs.size], (bs.map Value.bool).toArray.size, _, _, fun i => bs.getD i false, rfl, Walks.list (by simpa using I.ok.hd hc) _ a hne _, ⟨⟨_, Heap.get?_push_size _ rfl, rfl, rfl⟩, hl.at fun o e => Heap.get?_push_of_some _ e⟩, ?_, ?_⟩
  · intro i v s' Q' E' hv hQ
    have : v = Value.bool (bs.getD i false) := by
      have hv' : (bs.map Value.bool)[i]? = some v := by simpa using hv
      rw [List.getElem?_map] at hv'
      cases hb : bs[i]? with
      | none => rw [hb] at hv'; cases hv'
      | some b => rw [hb] at hv'; cases hv'; rw [List.getD_eq_getElem?_getD, hb]; rfl
    subst this
    exact wpAny_truthy_bool hQ
  · intro h' tk kp
    have e : (List.range (bs.map Value.bool).toArray.size).all (fun i => bs.getD i false) = bs.all id := by
      have hs : (bs.map Value.bool).toArray.size = bs.length := by simp
      rw [hs]
      rw [Bool.eq_iff_iff, List.all_eq_true, List.all_eq_true]
      constructor
      · intro h b hb
        obtain ⟨i, hi, e⟩ := List.getElem_of_mem hb
        have := h i (List.mem_range.mpr hi)
        rw [List.getD_eq_getElem?_getD, List.getElem?_eq_getElem hi, e] at this
        exact this
      · intro h i hi
        have hi := List.mem_range.mp hi
        rw [List.getD_eq_getElem?_getD, List.getElem?_eq_getElem hi]
        exact h _ (List.getElem_mem hi)
    rw [e]
    refine ⟨.bl (bs.all id), H, I.kept (t' := tk) fun b o e => ?_, rfl, q⟩
    exact kp b o (by simpa using Nat.ne_of_lt (Heap.lt_size e)) (Heap.get?_push_of_some _ e)
end L2
namespace U
open PySem PySem.Spec PyProof.Rows L2
variable {B : Bs} {X : Cx}
theorem rps_bools {K : PySem.W.Frag} {H : Hp} : ∀ {bs : List Bool} {us : List V}, RPs K H (bs.map PV.bl) us → us = bs.map V.bl
  | [], us, h => by simpa [RPs] using h
  | b :: bs, us, h => by
    simp only [List.map_cons, RPs, RP] at h
    obtain ⟨u, r, rfl, rfl, h2⟩ := h
    rw [rps_bools h2]; rfl
def uAll : List PV → PHp → VK' → Prop := arg1 fun x H Q => match x with
  | .ref a => ∃ bs : List Bool, H a = some (.lst (bs.map PV.bl)) ∧ Q (.bl (bs.all id)) H
  | _ => False
theorem vc_all {K : PySem.W.Frag} : VC K B uAll (rAll K) := by
  intro σ' σ H' H xs' xs Q' Q s r h k
  obtain ⟨x', x, rfl, rfl, rx, h⟩ := arg1.ex h r
  cases x' with
  | ref a =>
    obtain ⟨bs, ea, q⟩ := h
    simp only [RP] at rx
    subst rx
    obtain ⟨us, e, r2⟩ := s.hp _ _ ea
    rw [rps_bools r2] at e
    exact ⟨a, bs, rfl, .inl (.inl e), k _ _ _ _ q (by simp [RP]) s (Ev.refl _ _)⟩
  | _ => exact h.elim
end U


namespace SP
open PySem
def hs : List Int := [-1950498447580522560, 7204814214171964562, -3550055125485641917, -4734289103435588629, -1440771752368011620,
  8409376899596376432, 1773351652666409796, -6333845781340707986, 3516302870623680066, 1079245023883434373,
  -3119722376306286570, 173794974761290439, -8422800446983873125, 7586885779985432798, -1009709641759730766]
def prs : List (Int × Int) := [(0, 1), (0, 2), (1, 2), (0, 3), (1, 3), (2, 3), (0, 4), (1, 4), (2, 4), (3, 4), (0, 5), (1, 5), (2, 5), (3, 5), (4, 5)]
def hp (p : Int × Int) : Int := reduceHash (Builtin.Tuple.tupleHashOf [p.1, p.2])
theorem hs_eq : prs.map hp = hs := by decide +kernel
theorem hp_mem {p : Int × Int} (h : p ∈ prs) : hp p ∈ hs := by rw [← hs_eq]; exact List.mem_map.mpr ⟨p, h, rfl⟩
theorem hp_inj : ∀ p ∈ prs, ∀ q ∈ prs, hp p = hp q → p = q := by decide +kernel
theorem mem_prs {u v : Int} (h0 : 0 ≤ u) (h1 : u < v) (h2 : v < 6) : (u, v) ∈ prs := by
  have hv : v = 1 ∨ v = 2 ∨ v = 3 ∨ v = 4 ∨ v = 5 := by omega
  have hu : u = 0 ∨ u = 1 ∨ u = 2 ∨ u = 3 ∨ u = 4 := by omega
  rcases hv with rfl | rfl | rfl | rfl | rfl <;> rcases hu with rfl | rfl | rfl | rfl | rfl <;> first | (exfalso; omega) | decide
def advM (mask : Nat) (p : SetTable.Probe) : SetTable.Probe :=
  if p.more > 0 then { p with j := p.j + 1, more := p.more - 1 } else
  let (i, perturb) := SetTable.leap mask p.i p.perturb
  { p with j := i, more := SetTable.runEnd mask i - i, i, perturb }
theorem adv_eq (t : SetTable) (p : SetTable.Probe) : t.advance p = advM t.mask p := rfl
theorem adv_dummy (mask : Nat) (p : SetTable.Probe) : (advM mask p).dummy = p.dummy := by unfold advM; split <;> rfl
def visit (mask : Nat) : Nat → SetTable.Probe → List Nat
  | 0, _ => []
  | f + 1, p => p.j :: visit mask f (advM mask p)
def startM (mask : Nat) (h : Int) : SetTable.Probe :=
  let i := SetTable.bits h % (mask + 1)
  { j := i, more := SetTable.runEnd mask i - i, i, perturb := SetTable.bits h, dummy := none }
theorem start_eq (t : SetTable) (h : Int) : t.probeStart h = startM t.mask h := rfl
theorem cover7 : ∀ h ∈ hs, ∀ j ∈ List.range 8, j ∈ visit 7 220 (startM 7 h) := by decide +kernel
theorem cover31 : ∀ h ∈ hs, ∀ j ∈ List.range 32, j ∈ visit 31 460 (startM 31 h) := by decide +kernel
theorem all_in : ∀ (n : Nat) (l : List Nat), (∀ j, j < n → j ∈ l) → n ≤ l.length
  | 0, _, _ => Nat.zero_le _
  | n + 1, l, h => by
    have hm := h n (Nat.lt_succ_self n)
    have := all_in n (l.erase n) fun j hj => (List.mem_erase_of_ne (by omega)).mpr (h j (by omega))
    rw [List.length_erase_of_mem hm] at this
    have : 0 < l.length := List.length_pos_of_mem hm
    omega
theorem free_one {n : Nat} {l : List Nat} (h : l.length < n) : ∃ j, j < n ∧ j ∉ l :=
  Classical.byContradiction fun c => absurd (all_in n l fun j hj => Classical.byContradiction fun q => c ⟨j, hj, q⟩) (by omega)
theorem slot_of {t : SetTable} (hd : t.dummies = #[]) (j : Nat) : t.slot j = .empty ∨ ∃ i, t.slot j = .live i ∧ i < t.place.size ∧ j ∈ t.place.toList := by
  unfold SetTable.slot
  dsimp only
  split
  · rename_i h
    have h' := beq_iff_eq.mp h
    obtain ⟨hi, e⟩ := Array.getElem?_eq_some_iff.mp h'
    refine .inr ⟨_, rfl, hi, ?_⟩
    rw [← e]
    exact Array.getElem_mem_toList hi
  · left
    have : SetTable.has t.dummies j = false := by
      rw [hd]; rfl
    rw [this]; rfl
theorem go_empty {t : SetTable} {hashAt : Nat → Int} {h : Int} (hd : t.dummies = #[]) (hn : ∀ i, i < t.place.size → hashAt i ≠ h) : ∀ (fuel : Nat) (p : SetTable.Probe), p.dummy = none →
    (∃ j ∈ visit t.mask fuel p, j ∉ t.place.toList) → ∃ j, SetTable.probe.go t hashAt h fuel p = some (.empty j none)
  | 0, _, _, ⟨_, hj, _⟩ => by simp [visit] at hj
  | f + 1, p, hp, ⟨j, hj, hjn⟩ => by
    unfold SetTable.probe.go
    rcases slot_of hd p.j with e | ⟨i, e, hi, hm⟩
    · rw [e]; dsimp only
      exact ⟨p.j, by rw [hp]⟩
    · rw [e]; dsimp only
      rw [if_neg (by intro q; exact hn i hi (beq_iff_eq.mp q)), adv_eq]
      refine go_empty hd hn f (advM t.mask p) (by rw [adv_dummy]; exact hp) ⟨j, ?_, hjn⟩
      have hj' : j = p.j ∨ j ∈ visit t.mask f (advM t.mask p) := List.mem_cons.mp hj
      rcases hj' with rfl | hj'
      · exact absurd hm hjn
      · exact hj'
theorem probe_ok {t : SetTable} {hashAt : Nat → Int} {h : Int} (hh : h ∈ hs) (hd : t.dummies = #[]) (hn : ∀ i, i < t.place.size → hashAt i ≠ h) (hm : t.mask = 7 ∨ t.mask = 31) (hsz : t.place.size ≤ t.mask) :
    ∃ j, t.probe hashAt h (t.probeStart h) = some (.empty j none) := by
  unfold SetTable.probe
  refine go_empty hd hn _ _ rfl ?_
  obtain ⟨j, hj, hjn⟩ := free_one (n := t.mask + 1) (l := t.place.toList) (by simpa using Nat.lt_succ_of_le hsz)
  refine ⟨j, ?_, hjn⟩
  rw [start_eq]
  rcases hm with e | e
  · rw [e] at hj ⊢
    exact cover7 h hh j (List.mem_range.mpr hj)
  · rw [e] at hj ⊢
    exact cover31 h hh j (List.mem_range.mpr hj)
theorem put_size (t : SetTable) (j : Nat) : (t.put j).1.place.size = t.place.size + 1 := by
  unfold SetTable.put SetTable.insertAt
  dsimp only
  simp only [Array.size_append, Array.size_push, Array.size_extract]
  omega
theorem put_dummies {t : SetTable} (hd : t.dummies = #[]) (j : Nat) : (t.put j).1.dummies = #[] := by
  unfold SetTable.put
  dsimp only
  rw [hd]; rfl
theorem put_rest (t : SetTable) (j : Nat) : (t.put j).1.mask = t.mask ∧ (t.put j).1.plain = t.plain := ⟨rfl, rfl⟩
theorem insertAt_perm {α : Type} (xs : Array α) (p : Nat) (x : α) : (SetTable.insertAt xs p x).toList.Perm (x :: xs.toList) := by
  unfold SetTable.insertAt
  rw [Array.toList_append, Array.toList_push, List.append_assoc]
  have e : xs.toList = (xs.extract 0 p).toList ++ (xs.extract p xs.size).toList := by
    rw [Array.toList_extract, Array.toList_extract]
    unfold List.extract
    rw [List.drop_zero, Nat.sub_zero]
    have e2 : (List.drop p xs.toList).take (xs.size - p) = List.drop p xs.toList := List.take_of_length_le (by rw [List.length_drop]; simp)
    rw [e2, List.take_append_drop]
  rw [e]
  exact List.perm_middle
def runs (mask : Nat) : Nat → Nat → Nat → List Nat
  | 0, _, _ => []
  | f + 1, i, pt => ((List.range (SetTable.runEnd mask i + 1 - i)).map (i + ·)) ++ runs mask f (SetTable.leap mask i pt).1 (SetTable.leap mask i pt).2
theorem coverR : ∀ h ∈ hs, ∀ j ∈ List.range 32, j ∈ runs 31 46 (SetTable.bits h % 32) (SetTable.bits h) := by decide +kernel
theorem free_some {mask : Nat} {owner : Array (Option Nat)} : ∀ (f i pt : Nat), (∃ j ∈ runs mask f i pt, (owner.getD j (some 0)).isNone = true) → ∃ j, SetTable.layClean.free mask owner f i pt = some j ∧ (owner.getD j (some 0)).isNone = true
  | 0, _, _, ⟨_, hj, _⟩ => by simp [runs] at hj
  | f + 1, i, pt, ⟨j, hj, hn⟩ => by
    unfold SetTable.layClean.free
    cases e : (List.range (SetTable.runEnd mask i + 1 - i)).find? fun k => (owner.getD (i + k) (some 0)).isNone with
    | some k =>
      dsimp only
      exact ⟨i + k, rfl, by have := List.find?_some e; exact this⟩
    | none =>
      dsimp only
      rcases List.mem_append.mp hj with hj | hj
      · obtain ⟨k, hk, rfl⟩ := List.mem_map.mp hj
        have := List.find?_eq_none.mp e k hk
        exact absurd hn this
      · exact free_some f _ _ ⟨j, hj, hn⟩
theorem set_perm {α : Type} : ∀ (l : List (Option α)) (j : Nat) (k : α), l[j]? = some none → ((l.set j (some k)).filterMap id).Perm (k :: l.filterMap id)
  | [], _, _, h => by simp at h
  | none :: l, 0, k, _ => by simp
  | some x :: l, 0, k, h => by simp at h
  | none :: l, j + 1, k, h => by
    have := set_perm l j k (by simpa using h)
    simpa using this
  | some x :: l, j + 1, k, h => by
    have := set_perm l j k (by simpa using h)
    simp only [List.set_cons_succ, List.filterMap_cons_some (f := id) rfl]
    exact (this.cons x).trans (List.Perm.swap k x _)
theorem filterMap_none_lt {α : Type} : ∀ (l : List (Option α)), (l.filterMap id).length < l.length → ∃ j : Nat, l[j]? = some none
  | [], h => by simp at h
  | none :: l, _ => ⟨0, rfl⟩
  | some x :: l, h => by
    have h' : (l.filterMap id).length < l.length := by simpa using h
    obtain ⟨j, e⟩ := filterMap_none_lt l h'
    exact ⟨j + 1, by simpa using e⟩
def layStep (mask : Nat) (acc : Option (Array (Option Nat) × Nat)) (h : Int) : Option (Array (Option Nat) × Nat) := do
  let (owner, k) ← acc
  let j ← SetTable.layClean.free mask owner (SetTable.turns mask) (SetTable.bits h % (mask + 1)) (SetTable.bits h)
  pure (owner.setIfInBounds j (some k), k + 1)
theorem lay_fold : ∀ (l : List Int) (owner : Array (Option Nat)) (k : Nat), (∀ h ∈ l, h ∈ hs) → owner.size = 32 → (owner.toList.filterMap id).Perm (List.range k) → k + l.length ≤ 32 →
    ∃ ow', l.foldl (layStep 31) (some (owner, k)) = some (ow', k + l.length) ∧ ow'.size = 32 ∧ (ow'.toList.filterMap id).Perm (List.range (k + l.length))
  | [], owner, k, _, hs, hp, _ => ⟨owner, rfl, hs, hp⟩
  | h :: l, owner, k, hh, hsz, hp, hl => by
    have hlen : (owner.toList.filterMap id).length = k := by rw [hp.length_eq, List.length_range]
    obtain ⟨j, hj⟩ := filterMap_none_lt owner.toList (by rw [hlen]; simp only [List.length_cons] at hl; rw [show owner.toList.length = 32 by simpa using hsz]; omega)
    have hjlt : j < 32 := by
      have := (List.getElem?_eq_some_iff.mp hj).1
      simpa [hsz] using this
    have hnone : ∀ j, (owner.getD j (some 0)).isNone = true → owner.toList[j]? = some none := fun j q => by
      rw [Array.getElem?_toList]
      unfold Array.getD at q
      split at q
      · rename_i hlt
        rw [Array.getElem?_eq_getElem hlt]
        cases e : owner[j] with
        | none => rfl
        | some x =>
          have q' : (owner[j]).isNone = true := q
          rw [e] at q'; cases q'
      · cases q
    obtain ⟨j', ej, hn⟩ := free_some (mask := 31) (owner := owner) 46 (SetTable.bits h % 32) (SetTable.bits h) ⟨j, coverR h (hh h List.mem_cons_self) j (List.mem_range.mpr hjlt), by
      unfold Array.getD
      rw [dif_pos (by rw [hsz]; exact hjlt)]
      rw [Array.getElem?_toList, Array.getElem?_eq_getElem (by rw [hsz]; exact hjlt)] at hj
      have := Option.some.inj hj
      show (owner[j]).isNone = true
      rw [this]; rfl⟩
    have est : layStep 31 (some (owner, k)) h = some (owner.setIfInBounds j' (some k), k + 1) := by
      unfold layStep
      show (SetTable.layClean.free 31 owner (SetTable.turns 31) (SetTable.bits h % 32) (SetTable.bits h) >>= fun j => pure (owner.setIfInBounds j (some k), k + 1)) = _
      rw [show SetTable.turns 31 = 46 from rfl, ej]
      rfl
    have hp' : ((owner.setIfInBounds j' (some k)).toList.filterMap id).Perm (List.range (k + 1)) := by
      rw [Array.toList_setIfInBounds]
      refine (set_perm _ _ _ (hnone j' hn)).trans ?_
      rw [List.range_succ]
      exact (hp.cons k).trans (List.perm_append_singleton k _).symm
    obtain ⟨ow', e1, e2, e3⟩ := lay_fold l (owner.setIfInBounds j' (some k)) (k + 1) (fun x hx => hh x (List.mem_cons_of_mem _ hx)) (by simpa using hsz) hp' (by simp only [List.length_cons] at hl; omega)
    refine ⟨ow', ?_, e2, ?_⟩
    · rw [List.foldl_cons, est, e1]
      simp only [List.length_cons]
      congr 2
      omega
    · rw [List.length_cons, show k + (l.length + 1) = k + 1 + l.length by omega]; exact e3
theorem relaid_ok {t : SetTable} {hashes : Array Int} {wanted : Nat} (hw : SetTable.sizeAbove wanted = 32) (hh : ∀ h ∈ hashes.toList, h ∈ hs) (hl : hashes.size ≤ 32) :
    ∃ t' order, t.relaid hashes wanted = some (t', order) ∧ t'.mask = 31 ∧ t'.dummies = #[] ∧ t'.place.size = hashes.size ∧ order.toList.Perm (List.range hashes.size) ∧ t'.plain = t.plain := by
  have e0 : (Array.replicate 32 (none : Option Nat)).toList.filterMap id = [] := by decide
  obtain ⟨ow, e1, e2, e3⟩ := lay_fold hashes.toList (Array.replicate 32 none) 0 hh (by simp) (by rw [e0]; exact List.Perm.refl _) (by simpa using hl)
  rw [Nat.zero_add] at e1 e3
  have hlc : SetTable.layClean 31 hashes = some ow := by
    unfold SetTable.layClean
    rw [← Array.foldl_toList]
    show Option.map (·.1) (hashes.toList.foldl (layStep 31) (some (Array.replicate 32 none, 0))) = _
    rw [e1]; rfl
  have live2 : ((List.range 32).filterMap fun j => (ow.getD j none).map ((j, ·) : Nat → Nat × Nat)).map (·.2) = ow.toList.filterMap id := by
    have gen : ∀ (l : List (Option Nat)) (n : Nat), ((l.zipIdx n).filterMap (fun q => q.1.map ((q.2, ·) : Nat → Nat × Nat))).map (·.2) = l.filterMap id := by
      intro l
      induction l with
      | nil => intro n; rfl
      | cons a l ih =>
        intro n
        rw [List.zipIdx_cons]
        cases a with
        | none => simpa using ih (n + 1)
        | some x => simpa using ih (n + 1)
    rw [← gen ow.toList 0]
    congr 1
    have ez : ow.toList.zipIdx 0 = (List.range 32).map fun j => (ow.getD j none, j) := by
      apply List.ext_getElem?
      intro j
      rw [List.getElem?_zipIdx, List.getElem?_map]
      by_cases hj : j < 32
      · rw [List.getElem?_range hj, Array.getElem?_toList, Array.getElem?_eq_getElem (by rw [e2]; exact hj)]
        simp [Array.getD, e2, hj]
      · rw [List.getElem?_eq_none (show ow.toList.length ≤ j by simpa [e2] using Nat.le_of_not_lt hj), List.getElem?_eq_none (show (List.range 32).length ≤ j by simpa using Nat.le_of_not_lt hj)]
        rfl
    rw [ez, List.filterMap_map]
    rfl
  have hlen : (ow.toList.filterMap id).length = hashes.size := by rw [e3.length_eq, List.length_range]; simp
  refine ⟨{ mask := 31, place := (((List.range 32).filterMap fun j => (ow.getD j none).map ((j, ·) : Nat → Nat × Nat)).map (·.1)).toArray, dummies := #[], finger := t.finger, led := t.led, moves := t.movedTo 31, plain := t.plain },
    (((List.range 32).filterMap fun j => (ow.getD j none).map ((j, ·) : Nat → Nat × Nat)).map (·.2)).toArray, by
    unfold SetTable.relaid SetTable.laid
    rw [hw]
    show (SetTable.layClean 31 hashes >>= _) = _
    rw [hlc]
    rfl, rfl, rfl, ?_, ?_, rfl⟩
  · show (((List.range 32).filterMap fun j => (ow.getD j none).map ((j, ·) : Nat → Nat × Nat)).map (·.1)).toArray.size = _
    rw [List.size_toArray, List.length_map, ← hlen, ← live2, List.length_map]
  · show ((((List.range 32).filterMap fun j => (ow.getD j none).map ((j, ·) : Nat → Nat × Nat)).map (·.2)).toArray).toList.Perm _
    rw [live2]
    have : hashes.size = hashes.toList.length := by simp
    rw [this]
    exact e3
theorem order_perm {α : Type} {es : Array α} {order : Array Nat} (h : order.toList.Perm (List.range es.size)) : (order.filterMap (es[·]?)).toList.Perm es.toList := by
  have e : (order.filterMap (es[·]?)).toList = order.toList.filterMap (es[·]?) := by simp
  rw [e]
  refine (h.filterMap _).trans ?_
  have : (List.range es.size).filterMap (es[·]?) = es.toList := by
    apply List.ext_getElem?
    intro i
    have gen : ∀ n, n ≤ es.size → (List.range n).filterMap (es[·]?) = es.toList.take n := by
      intro n
      induction n with
      | zero => intro _; simp
      | succ n ih =>
        intro hn
        rw [List.range_succ, List.filterMap_append, ih (by omega), List.take_add_one]
        simp [Array.getElem?_eq_getElem (show n < es.size by omega)]
    rw [gen es.size (Nat.le_refl _), List.take_of_length_le (by simp)]
  rw [this]
end SP


namespace SP
open PySem PyProof.Rows
set_option maxRecDepth 100000
section
variable {prog : Program} {w : World} {A : Around} {E : Value → Shared → Prop} {s : Shared}
theorem fits_of {t : SetTable} {n : Nat} (hd : t.dummies = #[]) (h1 : t.place.size = n) (h2 : n ≤ t.mask) : t.fits n = true := by
  unfold SetTable.fits SetTable.fill
  rw [hd]
  simp [h1, h2]
theorem hash_pair (u v : Int) (h : (u, v) ∈ prs) : tupleKeyHash (intKind prog w) [u, v] = hp (u, v) := by
  have key : ∀ p ∈ prs, hashInt p.1 = p.1 ∧ hashInt p.2 = p.2 := by decide +kernel
  obtain ⟨h1, h2⟩ := key _ h
  show reduceHash (Builtin.Tuple.tupleHashOf [hashInt u, hashInt v]) = reduceHash (Builtin.Tuple.tupleHashOf [u, v])
  have h1' : hashInt u = u := h1
  have h2' : hashInt v = v := h2
  rw [h1', h2']
theorem ints_of {ks : List Int} {vs : List Value} (h : ItemsAre (intKind prog w) ks vs) : ∀ x ∈ vs, ∃ i t, x = .int i t := by
  induction h with
  | nil => intro x hx; simp at hx
  | cons h1 _ ih =>
    intro x hx
    rcases List.mem_cons.mp hx with rfl | hx
    · obtain ⟨t, rfl⟩ := Value.isInt_shape h1
      exact ⟨_, t, rfl⟩
    · exact ih x hx
theorem hashByValue_pair {a : Addr} {u v : Int} {Q : Bool → Shared → Prop} (hk : IsTupleKey (intKind prog w) s.heap [u, v] a) (h : Q true s) : wpAny (model prog w) A (hashByValue 8 (.ref a)) Q E s := by
  have hT := hk.typeIs
  obtain ⟨o, items, n, ho, hc, hd, hi⟩ := hk
  unfold hashByValue
  refine wpAny_bind (wpAny_specialOf hT F.slot_tuple_hash.lookup ?_)
  show wpAny _ _ (seqItems? (.ref a) >>= _) _ _ s
  refine wpAny_bind (wpAny_seqItems ho hd ?_)
  refine wpAny_bind ?_
  show wpAny _ _ (forIn items _ _) _ _ s
  rw [← Array.forIn_toList]
  have hall := ints_of hi
  refine wpAny_forIn_list _ (fun rest r s' => r.1 = none ∧ s' = s ∧ ∀ v ∈ rest, ∃ i t, v = .int i t) _ ?_ ?_ _ _ ⟨rfl, rfl, hall⟩
  · rintro v rest r s' ⟨hr, rfl, hall⟩
    obtain ⟨i, t, rfl⟩ := hall v List.mem_cons_self
    show wpAny _ _ (pure true >>= _) _ _ _
    refine wpAny_bind (wpAny_pure ?_)
    simp only [Bool.not_true, Bool.false_eq_true, if_false]
    exact wpAny_pure ⟨rfl, rfl, fun u hu' => hall u (List.mem_cons_of_mem _ hu')⟩
  · rintro ⟨r1, r2⟩ s' ⟨hr, rfl, _⟩
    simp only at hr
    subst hr
    exact wpAny_pure h
def TupsAt (h : Heap) (vs : List Value) (ps : List (Int × Int)) : Prop := ∀ (i : Nat) (v : Value), vs[i]? = some v → ∃ a p, v = .ref a ∧ ps[i]? = some p ∧ IsTupleKey (intKind prog w) h [p.1, p.2] a
theorem key_same {h h' : Heap} {S a : Addr} {u v : Int} {es : Array (Int × Value)} {ep : Nat} {t : SetTable} (x : IsTupleKey (intKind prog w) h [u, v] a) (ho : h.get? S = some { cls := .type "set", dict := none, data := .set es ep t })
    (sb : ∀ b o, b ≠ S → h.get? b = some o → h'.get? b = some o) : IsTupleKey (intKind prog w) h' [u, v] a := by
  obtain ⟨o, items, n, e, c, d, i⟩ := x
  refine ⟨o, items, n, sb a o ?_ e, c, d, i⟩
  rintro rfl
  rw [ho] at e; cases e; cases d
end
end SP


set_option linter.all false
set_option maxRecDepth 100000
set_option maxHeartbeats 4000000
namespace L2
open PySem PySem.Spec PyProof.Rows
variable {X : Cx}
def SetA (S : Addr) (n : Nat) : Heap → Prop := fun h => ∃ es ep t, h.get? S = some { cls := .type "set", dict := none, data := .set es ep t } ∧ es.size = n ∧ t.fits es.size = true
def Prs (K : PySem.W.Frag) (H : Hp) (us : List V) (ps : List (Int × Int)) : Prop := Paired (fun (u : V) (p : Int × Int) => ∃ t, u = .ref t ∧ SqT K H t [.int p.1, .int p.2]) us ps
theorem prs_get {K : PySem.W.Frag} {H : Hp} : ∀ {us : List V} {ps : List (Int × Int)} {i : Nat} {u : V}, Prs K H us ps → us[i]? = some u → ∃ p t, ps[i]? = some p ∧ u = .ref t ∧ SqT K H t [.int p.1, .int p.2]
  | [], _, i, u, _, e => by simp at e
  | _ :: _, _ :: _, 0, u, .cons h _, e => by
    obtain ⟨t, h1, h2⟩ := h
    simp at e
    subst e
    exact ⟨_, t, by simp, h1, h2⟩
  | _ :: _, _ :: _, i + 1, u, .cons _ t, e => by
    obtain ⟨p, a, e1, e2⟩ := prs_get (i := i) (u := u) t (by simpa using e)
    exact ⟨p, a, by simpa using e1, e2⟩
theorem prs_len {K : PySem.W.Frag} {H : Hp} {us : List V} {ps : List (Int × Int)} (h : Prs K H us ps) : us.length = ps.length := Paired.length h
theorem call_lenS : CallR X (.builtin "len") (fun xs H Q => ∃ (S : Addr) (n : Nat), xs = [.ref S] ∧ H S = some (.ext (SetA S n)) ∧ n < 1000 ∧ Q (.int n) H) := by
  intro pins s σ H xs us Q I r h
  obtain ⟨S, n, rfl, hS, hn, q⟩ := h
  obtain ⟨u, rfl, ru⟩ := Vals.one r
  cases ru
  obtain ⟨⟨es, ep, t, ho, hl, hf⟩, _, _⟩ := (show ObjOk X.prog X.w H s.heap S (.ext (SetA S n)) from I.hok S _ hS)
  subst hl
  exact call_len_set ho ⟨rfl, rfl, rfl⟩ rfl hf (by omega) ⟨.int es.size, H, I.tok _, ⟨_, rfl⟩, q⟩
end L2
namespace U
open PySem PySem.Spec PyProof.Rows L2
variable {B : Bs} {X : Cx} {e : Expr} {ta : TE'} {p p2 pos pos2 : Pos}
def prV (p : Int × Int) : PV := .tup [.int p.1, .int p.2]
theorem prs_of {K : PySem.W.Frag} {H : Hp} : ∀ {ps : List (Int × Int)} {us : List V}, RPs K H (ps.map prV) us → Prs K H us ps
  | [], us, h => by
    have : us = [] := by simpa [RPs] using h
    subst this; exact .nil
  | q :: ps, us, h => by
    simp only [List.map_cons, RPs, RP, prV] at h
    obtain ⟨u, r, rfl, ⟨t, ws, rfl, hs, w1, r1, rfl, rfl, w2, r2, rfl, rfl, rfl⟩, h2⟩ := h
    exact .cons ⟨t, rfl, hs⟩ (prs_of h2)
def lenSet (x : PV) (H : PHp) (Q : VK') : Prop := match x with
  | .ref a => ∃ ps : List (Int × Int), H a = some (.lst (ps.map prV)) ∧ ps.Nodup ∧ (∀ p ∈ ps, p ∈ SP.prs) ∧ ps.length ≤ 15 ∧ Q (.int ps.length) H
  | _ => False
def uLenSet (ta : TE') : TE' := fun σ H Q => ta σ H fun x H1 => lenSet x H1 Q
end U


set_option linter.all false
set_option maxRecDepth 100000
set_option maxHeartbeats 4000000
namespace U
open PySem PySem.Spec PyProof.Rows L2
variable {B : Bs} {X : Cx} {a b : Expr} {ta tb : TE'} {pos : Pos}
def uShr : R2' := uI (fun _ j => 0 ≤ j) fun i j => .int (i / 2 ^ j.toNat)
def uBand : R2' := uI0 fun i j => .int (Builtin.bitAnd i j)
end U


set_option linter.all false
set_option maxRecDepth 100000
set_option maxHeartbeats 4000000
namespace ST
open PySem PySem.W PyProof.Rows
def key (K : Nat → Int) (p : Array Nat) (i : Nat) : Int := K ((p[i]?).getD 0)
structure Ok (n : Nat) (p : Array Nat) : Prop where
  perm : p.toList.Perm (List.range n)
def S (K : Nat → Int) (p : Array Nat) (m : Nat) : Prop := ∀ i j, i < j → j < m → key K p i < key K p j
theorem Ok.size {n : Nat} {p : Array Nat} (h : Ok n p) : p.size = n := by
  have := h.perm.length_eq
  simpa using this
theorem Ok.lt {n : Nat} {p : Array Nat} (h : Ok n p) (h0 : 0 < n) (i : Nat) : p.getD i 0 < n := by
  rw [Array.getD_eq_getD_getElem?]
  cases e : p[i]? with
  | none => exact h0
  | some x =>
    have : x ∈ p.toList := by
      obtain ⟨hi, rfl⟩ := Array.getElem?_eq_some_iff.mp e
      simp
    exact List.mem_range.mp (h.perm.mem_iff.mp this)
theorem Ok.of {n : Nat} {p q : Array Nat} (h : Ok n p) (r : q.Perm p) : Ok n q := ⟨(Array.perm_iff_toList_perm.mp r).trans h.perm⟩
section
variable {cmp : Nat → Nat → (Bool → Shared → Prop) → Shared → Prop} {s : Shared} {n : Nat} {K : Nat → Int} {p : Array Nat}
theorem Ok.ne (hK : ∀ i j, i < n → j < n → K i = K j → i = j) (h : Ok n p) {i j : Nat} (hi : i < n) (hj : j < n) (hne : i ≠ j) : key K p i ≠ key K p j := by
  intro e
  have hs := h.size
  have h0 : 0 < n := by omega
  unfold key at e
  rw [Array.getElem?_eq_getElem (by omega), Array.getElem?_eq_getElem (by omega)] at e
  simp only [Option.getD_some] at e
  have nd : p.toList.Nodup := (h.perm.nodup_iff).mpr List.nodup_range
  have l1 : p[i] < n := by have := h.lt h0 i; rwa [Array.getD_eq_getD_getElem?, Array.getElem?_eq_getElem (by omega)] at this
  have l2 : p[j] < n := by have := h.lt h0 j; rwa [Array.getD_eq_getD_getElem?, Array.getElem?_eq_getElem (by omega)] at this
  have q := hK _ _ l1 l2 e
  have : i = j := by
    exact (List.getElem_inj nd (h₀ := by simpa [hs] using hi) (h₁ := by simpa [hs] using hj)).mp (by simpa using q)
  exact hne this
theorem getD_key (K : Nat → Int) (p : Array Nat) (i : Nat) : K (p.getD i 0) = key K p i := by
  unfold key; rw [Array.getD_eq_getD_getElem?]
variable (hc : ∀ i j C, i < n → j < n → C (decide (K i < K j)) s → cmp i j C s) (hK : ∀ i j, i < n → j < n → K i = K j → i = j)
include hc
theorem ask_at {G : Bool → Shared → Prop} (h0 : 0 < n) (ok : Ok n p) {i j : Nat} (h : G (decide (key K p i < key K p j)) s) : cmp (p.getD i 0) (p.getD j 0) G s := by
  refine hc _ _ _ (ok.lt h0 i) (ok.lt h0 j) ?_
  rw [getD_key K p i, getD_key K p j]
  exact h
include hK
theorem lt_of_not {i j : Nat} (ok : Ok n p) (hi : i < n) (hj : j < n) (hne : i ≠ j) (h : ¬ key K p i < key K p j) : key K p j < key K p i := by
  have := ok.ne hK hi hj hne
  omega
theorem asc (ok : Ok n p) : ∀ (f m : Nat) {G : Nat → Shared → Prop}, 1 ≤ m → m + f ≤ n → S K p m →
    (∀ m', m ≤ m' → m' ≤ m + f → S K p m' → (m' < m + f → key K p m' < key K p (m' - 1)) → G m' s) → (kas_asc p f m).kasWp cmp G s
  | 0, m, G, _, _, hS, h => h m (Nat.le_refl _) (Nat.le_refl _) hS fun q => absurd q (Nat.lt_irrefl _)
  | f + 1, m, G, h1, hm, hS, h => by
    refine ask_at hc (by omega) ok (G := fun c s' => (if c = true then KasT.ret m else kas_asc p f (m + 1)).kasWp cmp G s') ?_
    by_cases q : key K p m < key K p (m - 1)
    · rw [decide_eq_true q]
      show G m s
      exact h m (Nat.le_refl _) (by omega) hS fun _ => q
    · rw [decide_eq_false q]
      show (kas_asc p f (m + 1)).kasWp cmp G s
      have q' := lt_of_not hc hK ok (by omega) (by omega) (by omega) q
      refine asc ok f (m + 1) (by omega) (by omega) ?_ fun m' a b c d => h m' (by omega) (by omega) c fun e => d (by omega)
      intro i j hij hj
      by_cases hjm : j < m
      · exact hS i j hij hjm
      · have : j = m := by omega
        subst this
        by_cases him : i = j - 1
        · subst him; exact q'
        · have := hS i (j - 1) (by omega) (by omega)
          omega
theorem desc (ok : Ok n p) : ∀ (f m : Nat) {G : Array Nat × Nat × Nat → Shared → Prop}, 1 ≤ m → m + f ≤ n → (∀ i j, i < j → j < m → key K p j < key K p i) →
    (∀ m', m ≤ m' → m' ≤ m + f → (∀ i j, i < j → j < m' → key K p j < key K p i) → G (p, m', 0) s) → (kas_desc f p m 0).kasWp cmp G s
  | 0, m, G, _, _, hS, h => h m (Nat.le_refl _) (Nat.le_refl _) hS
  | f + 1, m, G, h1, hm, hS, h => by
    refine ask_at hc (by omega) ok (G := fun c s' => (if c = true then (if 0 > 0 then kas_desc f (kas_rev p (m - (0 + 1)) m) (m + 1) 0 else kas_desc f p (m + 1) 0)
      else KasT.ask (p.getD (m - 1) 0) (p.getD m 0) fun d => if d = true then KasT.ret (p, m, 0) else kas_desc f p (m + 1) (0 + 1)).kasWp cmp G s') ?_
    by_cases q : key K p m < key K p (m - 1)
    · rw [decide_eq_true q, if_pos rfl, if_neg (by omega)]
      refine desc ok f (m + 1) (by omega) (by omega) ?_ fun m' a b c => h m' (by omega) (by omega) c
      intro i j hij hj
      by_cases hjm : j < m
      · exact hS i j hij hjm
      · have : j = m := by omega
        subst this
        by_cases him : i = j - 1
        · subst him; exact q
        · have := hS i (j - 1) (by omega) (by omega)
          omega
    · rw [decide_eq_false q]
      have q' := lt_of_not hc hK ok (by omega) (by omega) (by omega) q
      refine ask_at hc (by omega) ok (G := fun d s' => (if d = true then KasT.ret (p, m, 0) else kas_desc f p (m + 1) (0 + 1)).kasWp cmp G s') ?_
      rw [decide_eq_true q', if_pos rfl]
      exact h m (Nat.le_refl _) (by omega) hS
theorem rev_key {m : Nat} (ok : Ok n p) (hm : m ≤ n) (i : Nat) : key K (kas_rev p 0 m) i = if i < m then key K p (m - 1 - i) else key K p i := by
  unfold key kas_rev
  rw [getElem?_mirror_all (by rw [ok.size]; exact hm)]
  by_cases h : i < m
  · rw [if_pos ⟨Nat.zero_le _, h⟩, if_pos h]
    congr 3
    omega
  · rw [if_neg (by omega), if_neg h]
theorem count {G : Nat × Array Nat → Shared → Prop} (ok : Ok n p) (h1 : 1 ≤ n) (h : ∀ m p', Ok n p' → 1 ≤ m → m ≤ n → S K p' m → G (m, p') s) : (kas_count n p).kasWp cmp G s := by
  unfold kas_count
  rw [KasT.kasWp_bind]
  refine asc hc hK ok (n - 1) 1 (Nat.le_refl _) (by omega) (fun i j a b => by omega) fun m' a b hS st => ?_
  by_cases e : m' = n
  · subst e
    rw [if_pos (by simp)]
    exact h _ _ ok (by omega) (Nat.le_refl _) hS
  · rw [if_neg (by simpa using e)]
    by_cases e1 : m' > 1
    · rw [if_pos e1]
      refine ask_at hc (by omega) ok (G := fun c s' => (if c = true then KasT.ret (m', p) else kas_descPart m' n (kas_rev p 0 m')).kasWp cmp G s') ?_
      rw [decide_eq_true (hS 0 (m' - 1) (by omega) (by omega)), if_pos rfl]
      exact h _ _ ok (by omega) (by omega) hS
    · rw [if_neg e1]
      have : m' = 1 := by omega
      subst this
      unfold kas_descPart
      rw [KasT.kasWp_bind]
      have st1 := st (by omega)
      refine desc hc hK ok (n - (1 + 1)) (1 + 1) (by omega) (by omega) (fun i j hij hj => ?_) fun m' a b hD => ?_
      · have h1 : j = 1 := by omega
        have h2 : i = 0 := by omega
        subst h1; subst h2
        exact st1
      · rw [if_neg (by simp)]
        unfold kas_tail3
        rw [KasT.kasWp_bind]
        have ok2 : Ok n (kas_rev p 0 m') := ok.of (mirror_perm _ _ _ _)
        refine asc hc hK ok2 (n - m') m' (by omega) (by omega) (fun i j hij hj => ?_) fun m2 a2 b2 hS2 _ => ?_
        · rw [rev_key hc hK ok (by omega), rev_key hc hK ok (by omega), if_pos (by omega), if_pos hj]
          exact hD _ _ (by omega) (by omega)
        · exact h m2 _ ok2 (by omega) (by omega) hS2
theorem place (ok : Ok n p) {k : Nat} (hk : k < n) (hS : S K p k) : ∀ (f l r : Nat) {G : Nat → Shared → Prop}, l ≤ r → r ≤ k → r - l ≤ f → (∀ i, i < l → key K p i < key K p k) → (∀ i, r ≤ i → i < k → key K p k < key K p i) →
    (∀ l', l' ≤ k → (∀ i, i < l' → key K p i < key K p k) → (∀ i, l' ≤ i → i < k → key K p k < key K p i) → G l' s) → (kas_place p k f l r).kasWp cmp G s
  | 0, l, r, G, h1, h2, h3, ha, hb, h => h l (by omega) ha fun i x y => hb i (by omega) y
  | f + 1, l, r, G, h1, h2, h3, ha, hb, h => by
    unfold kas_place
    by_cases e : l ≥ r
    · rw [if_pos e]
      exact h l (by omega) ha fun i x y => hb i (by omega) y
    · rw [if_neg e]
      refine ask_at hc (by omega) ok (G := fun c s' => (if c = true then kas_place p k f l ((l + r) / 2) else kas_place p k f ((l + r) / 2 + 1) r).kasWp cmp G s') ?_
      have hmid : (l + r) / 2 < k := by omega
      generalize hm : (l + r) / 2 = mid at *
      by_cases q : key K p k < key K p mid
      · rw [decide_eq_true q, if_pos rfl]
        refine place ok hk hS f l mid (by omega) (by omega) (by omega) ha (fun i x y => ?_) h
        by_cases z : i = mid
        · subst z; exact q
        · have := hS mid i (by omega) y
          omega
      · rw [decide_eq_false q, if_neg (by simp)]
        have q' := lt_of_not hc hK ok hk (by omega) (by omega) q
        refine place ok hk hS f (mid + 1) r (by omega) h2 (by omega) (fun i x => ?_) hb h
        by_cases z : i = mid
        · subst z; exact q'
        · have := hS i mid (by omega) hmid
          omega
theorem bub_key {k l : Nat} (ok : Ok n p) (hk : k < n) (hl : l ≤ k) (i : Nat) : key K (bubble p k (k - l)) i = if i = l then key K p k else if l < i ∧ i ≤ k then key K p (i - 1) else key K p i := by
  unfold key
  rw [getElem?_bubble (by rw [ok.size]; exact hk) _ (Nat.sub_le _ _)]
  rw [show k - (k - l) = l by omega]
  split
  · rfl
  · split <;> rfl
theorem bin : ∀ (f k : Nat) (p : Array Nat) {G : Array Nat → Shared → Prop}, Ok n p → 1 ≤ k → k + f = n → S K p k → (∀ p', Ok n p' → S K p' n → G p' s) → (kas_bin f p k).kasWp cmp G s
  | 0, k, p, G, ok, h1, h2, hS, h => h p ok (by have : k = n := by omega
                                                subst this; exact hS)
  | f + 1, k, p, G, ok, h1, h2, hS, h => by
    unfold kas_bin
    rw [KasT.kasWp_bind]
    refine place hc hK ok (by omega) hS k 0 k (by omega) (Nat.le_refl _) (by omega) (fun i x => by omega) (fun i x y => by omega) fun l hl ha hb => ?_
    refine bin f (k + 1) _ (ok.of (bubble_perm _ _ _)) (by omega) (by omega) (fun i j hij hj => ?_) h
    rw [bub_key hc hK ok (by omega) hl, bub_key hc hK ok (by omega) hl]
    by_cases c1 : i = l
    · rw [if_pos c1]
      rw [if_neg (by omega), if_pos (by omega)]
      exact hb _ (by omega) (by omega)
    · rw [if_neg c1]
      by_cases c2 : j = l
      · rw [if_pos c2, if_neg (by omega)]
        exact ha _ (by omega)
      · rw [if_neg c2]
        by_cases c3 : l < i ∧ i ≤ k
        · rw [if_pos c3, if_pos (by omega)]
          exact hS _ _ (by omega) (by omega)
        · rw [if_neg c3]
          by_cases c4 : l < j ∧ j ≤ k
          · rw [if_pos c4]
            by_cases c5 : i = j - 1
            · omega
            · exact hS _ _ (by omega) (by omega)
          · rw [if_neg c4]
            exact hS _ _ hij (by omega)
theorem sorts {G : Array Nat → Shared → Prop} (h1 : 1 ≤ n) (h : ∀ p, Ok n p → S K p n → G p s) : (kas_sort n).kasWp cmp G s := by
  unfold kas_sort
  rw [KasT.kasWp_bind]
  refine count hc hK (p := (List.range n).toArray) ⟨by simp⟩ h1 fun m p' ok a b hS => ?_
  show (if m < n then kas_bin (n - max m 1) p' (max m 1) else KasT.ret p').kasWp cmp G s
  by_cases e : m < n
  · rw [if_pos e, show max m 1 = m by omega]
    exact bin hc hK (n - m) m p' ok a (by omega) hS h
  · rw [if_neg e]
    have : m = n := by omega
    subst this
    exact h p' ok hS
end
end ST


set_option linter.all false
set_option maxRecDepth 100000
set_option maxHeartbeats 4000000
namespace ST
open PySem PySem.W PyProof.Rows
def pk (p : Int × Int) : Int := 6 * p.1 + p.2
def Tp (h : Heap) (v : Value) (p : Int × Int) : Prop := ∃ t o k u1 u2, v = .ref t ∧ h.get? t = some o ∧ o.cls = .type "tuple" ∧ o.data = .seq #[.int p.1 u1, .int p.2 u2] k
def Tps (h : Heap) (vs : List Value) (ps : List (Int × Int)) : Prop := vs.length = ps.length ∧ ∀ i v, vs[i]? = some v → Tp h v (ps.getD i (0, 0))
theorem Tp.kp {h h' : Heap} {v : Value} {p : Int × Int} (x : Tp h v p) (k : ∀ b o, o.cls = .type "tuple" → h.get? b = some o → h'.get? b = some o) : Tp h' v p := by
  obtain ⟨t, o, n, u1, u2, e, ho, hc, hd⟩ := x
  exact ⟨t, o, n, u1, u2, e, k _ _ hc ho, hc, hd⟩
section
variable {prog : Program} {w : World} {A : Around} {E : Value → Shared → Prop} {s : Shared}
theorem lt_pair {x y : Value} {p q : Int × Int} {C : Bool → Shared → Prop} (hx : Tp s.heap x p) (hy : Tp s.heap y q) (bp : 0 ≤ p.2 ∧ p.2 < 6) (bq : 0 ≤ q.2 ∧ q.2 < 6) (h : C (decide (pk p < pk q)) s) :
    wpAny (model prog w) A (keyLt' (tuples' true) x y) C E s := by
  obtain ⟨t, o, n, u1, u2, rfl, ho, hc, hd⟩ := hx
  obtain ⟨t', o', n', w1, w2, rfl, ho', hc', hd'⟩ := hy
  refine kat_lt ho hd ho' hd' ?_
  show KatLex prog w A true (decide (2 < 2)) C [(.int p.1 u1, .int q.1 w1), (.int p.2 u2, .int q.2 w2)] 0 s
  refine kat_cons (wpAny_eqBool_int ?_)
  refine kat_go (fun e1 => kat_yes (kat_cons (wpAny_eqBool_int ?_))) (fun e1 => kat_no ?_)
  · have e1 : p.1 = q.1 := by simpa using e1
    refine kat_go (fun e2 => kat_yes (kat_nil ?_)) (fun e2 => kat_no ?_)
    · have e2 : p.2 = q.2 := by simpa using e2
      have : decide (pk p < pk q) = decide (2 < 2) := by unfold pk; rw [e1, e2]; simp
      rw [← this]; exact h
    · refine kat_one _ _ (PyProof.Rows.lt_int ?_)
      have : decide (pk p < pk q) = decide (p.2 < q.2) := by
        rw [decide_eq_decide]; unfold pk; omega
      show C (decide (p.2 < q.2)) s
      rw [← this]; exact h
  · have e1 : ¬ p.1 = q.1 := by simpa using e1
    refine oneLt_int ?_
    have : decide (pk p < pk q) = decide (p.1 < q.1) := by
      rw [decide_eq_decide]; unfold pk; omega
    rw [← this]; exact h
theorem tups_of {h : Heap} : ∀ {vs : List Value} {ps : List (Int × Int)}, Tps h vs ps → ∃ fs, KatTups h vs fs ∧ fs.length = vs.length ∧ ∀ v ∈ fs, ∃ i t, v = .int i t
  | [], ps, _ => ⟨[], KatTups.nil, rfl, by simp⟩
  | v :: vs, [], x => by have := x.1; simp at this
  | v :: vs, p :: ps, x => by
    obtain ⟨fs, t, l, q⟩ := tups_of (h := h) (vs := vs) (ps := ps) ⟨by have := x.1; simpa using this, fun i v e => by simpa using x.2 (i + 1) v (by simpa using e)⟩
    obtain ⟨t0, o, n, u1, u2, rfl, ho, hc, hd⟩ := x.2 0 v (by simp)
    refine ⟨.int _ u1 :: fs, KatTups.cons ho hc hd rfl t, by simp [l], ?_⟩
    intro z hz
    rcases List.mem_cons.mp hz with rfl | hz
    · exact ⟨_, _, rfl⟩
    · exact q z hz
theorem list_sort_pairs {a : Addr} {vs : List Value} {ps : List (Int × Int)} {n : Nat} {P : PySem.Fin → Shared → Prop} (ho : s.heap.get? a = some (seqObj "list" vs.toArray n)) (hT : Tps s.heap vs ps) (nd : ps.Nodup)
    (hb : ∀ p ∈ ps, 0 ≤ p.2 ∧ p.2 < 6) (h64 : vs.length < 64)
    (h : ∀ q : List Nat, q.Perm (List.range vs.length) → (q.map fun i => ps.getD i (0, 0)).Pairwise (fun x y => pk x < pk y) → P (.done (.ret .none)) { s with heap := sortedHeap s.heap a vs (q.map fun i => vs.getD i Value.none).toArray }) :
    wpAny (model prog w) A (Builtin.«list.sort» ⟨[.ref a], []⟩) P E s := by
  rw [list_sort_plain]
  have hls : vs.length ≤ sizeLine := by rw [sizeLine_eq]; omega
  refine wpAny_bind (listItems_at ho rfl (wpAny_bind ?_))
  refine (listUpdate_at ho rfl ?_ (by rw [List.size_toArray]; omega) (Nat.zero_le _))
  obtain ⟨ea0, oa0⟩ : ∃ ea0, (s.heap.update a (Obj.mapSeq fun _ => #[])).get? a = some (seqObj "list" #[] ea0) := ⟨_, get?_update_seq ho (fun _ => #[])⟩
  refine wpAny_bind (seqEpoch_at oa0 rfl ?_)
  refine wpAny_bind (wpAny_newTuple ?_ (by show vs.length ≤ _; omega))
  refine wpAny_bind (wpAny_newList ?_ (Nat.zero_le _))
  refine wpAny_holding ?_
  have kq0 : ∀ b o, b ≠ a → s.heap.get? b = some o → (((s.heap.update a (Obj.mapSeq fun _ => #[])).push (seqObj "tuple" vs.toArray 0)).push (seqObj "list" #[] 0)).get? b = some o := fun b o hne q =>
    Heap.get?_push_of_some _ (Heap.get?_push_of_some _ (by rw [Heap.get?_update_ne _ _ _ _ hne]; exact q))
  have og0 : (((s.heap.update a (Obj.mapSeq fun _ => #[])).push (seqObj "tuple" vs.toArray 0)).push (seqObj "list" #[] 0)).get? a = some (seqObj "list" #[] ea0) :=
    Heap.get?_push_of_some _ (Heap.get?_push_of_some _ oa0)
  have hT6 : Tps (((s.heap.update a (Obj.mapSeq fun _ => #[])).push (seqObj "tuple" vs.toArray 0)).push (seqObj "list" #[] 0)) vs ps := ⟨hT.1, fun i v e => (hT.2 i v e).kp fun b o hcl q => kq0 b o (fun z => by
    subst z; rw [ho] at q; cases q; exact absurd hcl (by simp [seqObj])) q⟩
  show wpAny (model prog w) _ _ P _ { s with heap := ((s.heap.update a (Obj.mapSeq fun _ => #[])).push (seqObj "tuple" vs.toArray 0)).push (seqObj "list" #[] 0) }
  dsimp only
  have zq0 : vs.toArray.size = vs.length := by simp
  by_cases hq2 : vs.toArray.size < 2
  · rw [if_pos hq2, if_pos hq2]
    refine wpAny_bind (wpAny_pure ?_)
    rw [StateT.run_pure]
    refine wpAny_bind (wpAny_pure ?_)
    dsimp only
    refine wpAny_bind (seqEpoch_at og0 rfl ?_)
    refine wpAny_bind (listUpdate_at og0 rfl ?_ (Nat.zero_le _) (by rw [Array.size_map]; show (pairsOf vs).size ≤ _; rw [pairsOf_size]; omega))
    simp only [bne_self_eq_false, Bool.false_eq_true, if_false]
    have hq := h (List.range vs.length) (List.Perm.refl _) ?_
    · have e : (arrOf (SortSt.mk' general' (vs.toArray.zip vs.toArray) #[] 7 none)).map (·.2) = ((List.range vs.length).map fun i => vs.getD i Value.none).toArray := by
        show (vs.toArray.zip vs.toArray).map (·.2) = _
        match vs, hq2 with
        | [], _ => apply Array.toList_inj.mp; simp
        | [v], _ => apply Array.toList_inj.mp; simp [List.range_succ]
        | _ :: _ :: _, hq2 => exact absurd hq2 (by simp)
      refine wpAny_pure ?_
      rw [e]
      exact hq
    · match vs, hq2 with
      | [], _ => exact List.Pairwise.nil
      | [v], _ => exact List.pairwise_singleton _ _
      | _ :: _ :: _, hq2 => exact absurd hq2 (by simp)
  · rw [if_neg hq2, if_neg hq2]
    obtain ⟨fs, hfs, hfl, hfi⟩ := tups_of hT6
    rw [zq0] at hq2
    refine wpAny_bind (kat_kind hfs (by omega) (T := .type "int") (fun v hv => ?_) rfl ?_)
    · obtain ⟨i, t, rfl⟩ := hfi v hv
      exact Looks.of_pure rfl
    · show wpAny (model prog w) A _ P E _
      have hinj : ∀ i j, i < vs.length → j < vs.length → pk (ps.getD i (0, 0)) = pk (ps.getD j (0, 0)) → i = j := by
        intro i j hi hj e
        have hi' : i < ps.length := by rw [← hT.1]; exact hi
        have hj' : j < ps.length := by rw [← hT.1]; exact hj
        have g1 : ps.getD i (0, 0) = ps[i] := by rw [List.getD_eq_getElem?_getD, List.getElem?_eq_getElem hi']; rfl
        have g2 : ps.getD j (0, 0) = ps[j] := by rw [List.getD_eq_getElem?_getD, List.getElem?_eq_getElem hj']; rfl
        rw [g1, g2] at e
        have b1 := hb _ (List.getElem_mem hi')
        have b2 := hb _ (List.getElem_mem hj')
        unfold pk at e
        have e2 : ps[i] = ps[j] := Prod.ext (by omega) (by omega)
        exact (List.getElem_inj nd).mp e2
      refine wpAny_bind (wpAny_mono (kat_run (ks := vs) (vs := vs) (κ := tuples' true)
        (Q := fun st' s' => s' = { s with heap := ((s.heap.update a (Obj.mapSeq fun _ => #[])).push (seqObj "tuple" vs.toArray 0)).push (seqObj "list" #[] 0) } ∧ ∃ p : Array Nat, Ok vs.length p ∧ S (fun i => pk (ps.getD i (0, 0))) p vs.length ∧ arrOf st' = p.map (kas_item (vs.toArray.zip vs.toArray)) ∧ failedOf st' = none)
        (G := fun p s' => s' = { s with heap := ((s.heap.update a (Obj.mapSeq fun _ => #[])).push (seqObj "tuple" vs.toArray 0)).push (seqObj "list" #[] 0) } ∧ Ok vs.length p ∧ S (fun i => pk (ps.getD i (0, 0))) p vs.length)
        rfl (by omega) h64 (fun p st' s' a1 a2 a3 a4 => ⟨a4.1, p, a4.2.1, a4.2.2, a2, a3⟩) ?run) ?post fun _ _ e => e)
      case run =>
        refine sorts (n := vs.length) (K := fun i => pk (ps.getD i (0, 0))) (fun i j C hi hj hC => ?_) hinj (by omega) fun p ok sS => ⟨rfl, ok, sS⟩
        unfold kas_ask
        have hi' : i < ps.length := by rw [← hT.1]; exact hi
        have hj' : j < ps.length := by rw [← hT.1]; exact hj
        refine lt_pair (hT6.2 i _ ?_) (hT6.2 j _ ?_) (hb _ ?_) (hb _ ?_) hC
        · rw [List.getD_eq_getElem?_getD, List.getElem?_eq_getElem hi]; rfl
        · rw [List.getD_eq_getElem?_getD, List.getElem?_eq_getElem hj]; rfl
        · rw [List.getD_eq_getElem?_getD, List.getElem?_eq_getElem hi']; exact List.getElem_mem hi'
        · rw [List.getD_eq_getElem?_getD, List.getElem?_eq_getElem hj']; exact List.getElem_mem hj'
      case post =>
        rintro ⟨⟨⟩, st'⟩ s' ⟨rfl, p, ok, sS, har, hf⟩
        dsimp only
        have hout := kat_snds (ks := vs) (vs := vs) rfl har
        have hpz : (List.toArray (p.toList.map fun i => vs.getD i Value.none)).size = vs.length := by rw [List.size_toArray, List.length_map, Array.length_toList, ok.size]
        rw [hout]
        refine wpAny_bind (seqEpoch_at og0 rfl ?_)
        refine wpAny_bind (listUpdate_at og0 rfl ?_ (Nat.zero_le _) (by omega))
        rw [hf]
        simp only [bne_self_eq_false, Bool.false_eq_true, if_false]
        refine wpAny_pure (h p.toList ok.perm ?_)
        rw [List.pairwise_map, List.pairwise_iff_getElem]
        intro i j hi hj hij
        have := sS i j hij (by rw [← ok.size]; simpa using hj)
        unfold key at this
        have hi2 : i < p.size := by simpa using hi
        have hj2 : j < p.size := by simpa using hj
        rw [Array.getElem?_eq_getElem hi2, Array.getElem?_eq_getElem hj2] at this
        simpa using this
theorem sorted_pairs {l : Addr} {vs : List Value} {ps : List (Int × Int)} {Q : Value → Shared → Prop} (hl : s.heap.IsList l vs.toArray) (hT : Tps s.heap vs ps) (nd : ps.Nodup) (hb : ∀ p ∈ ps, 0 ≤ p.2 ∧ p.2 < 6) (h64 : vs.length < 64)
    (h : ∀ q : List Nat, q.Perm (List.range vs.length) → (q.map fun i => ps.getD i (0, 0)).Pairwise (fun x y => pk x < pk y) → Q (.ref (s.heap.objs.size + 1)) { s with heap := sortedAll s.heap vs (q.map fun i => vs.getD i Value.none).toArray }) :
    wpAny (model prog w) A (call (.builtin "sorted") [.ref l]) Q E s := by
  refine Calls.call_function_entry kind_sorted plain_sorted entry_sorted (args_sorted1 _) ?_
  unfold Builtin.«sorted»
  refine wpAny_bind (m := checkCount "sorted" 1 1 _) (wpAny_pure (wpAny_bind (collect_list hl (wpAny_bind (wpAny_newList ?_ (by rw [sizeLine_eq]; omega))) (by rw [sizeLine_eq]; omega))))
  have zq0 : ((s.heap.push (seqObj "list" #[] 0)).update s.heap.objs.size (Obj.mapSeq (· ++ vs.toArray))).objs.size = s.heap.objs.size + 1 := by
    rw [Heap.size_update, size_push']
  have oq0 : (((s.heap.push (seqObj "list" #[] 0)).update s.heap.objs.size (Obj.mapSeq (· ++ vs.toArray))).push (seqObj "list" vs.toArray 0)).get? (s.heap.objs.size + 1) = some (seqObj "list" vs.toArray 0) := by
    rw [← zq0]; exact Heap.get?_push_size _ rfl
  have kq0 : ∀ b o, s.heap.get? b = some o → (((s.heap.push (seqObj "list" #[] 0)).update s.heap.objs.size (Obj.mapSeq (· ++ vs.toArray))).push (seqObj "list" vs.toArray 0)).get? b = some o := fun b o q => by
    have lq0 : b < s.heap.objs.size := Heap.lt_size q
    rw [Heap.get?_push_ne _ _ _ (by rw [zq0]; exact Nat.ne_of_lt (Nat.lt_succ_of_lt lq0)), Heap.get?_update_ne _ _ _ _ (Nat.ne_of_lt lq0), Heap.get?_push_ne _ _ _ (Nat.ne_of_lt lq0)]
    exact q
  show wpAny (model prog w) _ _ _ _ { s with heap := ((s.heap.push (seqObj "list" #[] 0)).update s.heap.objs.size (Obj.mapSeq (· ++ vs.toArray))).push (seqObj "list" vs.toArray 0) }
  rw [zq0]
  refine wpAny_bind (wpAny_holding (wpAny_call_entry slot_list_sort ⟨_, oq0, rfl⟩ entry_list_sort (list_sort_pairs (ps := ps) oq0 ⟨hT.1, fun i v e => (hT.2 i v e).kp fun b o _ q => kq0 b o q⟩ nd hb h64 fun q a1 a2 => ⟨_, rfl, ?_⟩) (args_list_sort _)))
  exact wpAny_pure ⟨_, rfl, h q a1 a2⟩
end
end ST


set_option linter.all false
set_option maxRecDepth 100000
set_option maxHeartbeats 4000000
namespace L2
open PySem PySem.Spec PyProof.Rows
variable {X : Cx}
def rSortP (K : PySem.W.Frag) : List V → Hp → VK → Prop := fun xs H Q => ∃ (a : Addr) (us : List V) (ps : List (Int × Int)), xs = [.ref a] ∧ SqL K H a us ∧ Prs K H us ps ∧ ps.Nodup ∧ (∀ p ∈ ps, 0 ≤ p.2 ∧ p.2 < 6) ∧ ps.length < 64 ∧
  ∀ (r : Addr) (q : List Nat), H r = none → q.Perm (List.range ps.length) → (q.map fun i => ps.getD i (0, 0)).Pairwise (fun x y => ST.pk x < ST.pk y) → Q (.ref r) (upd H r (.lst (q.map fun i => us.getD i .non)))
theorem vals_pick {us : List V} {vs : List Value} (r : Vals us vs) : ∀ (q : List Nat), (∀ i ∈ q, i < us.length) → Vals (q.map fun i => us.getD i .non) (q.map fun i => vs.getD i Value.none)
  | [], _ => .nil
  | i :: q, h => by
    have hi := h i List.mem_cons_self
    obtain ⟨u, eu, ru⟩ := r.get (List.getElem?_eq_getElem hi)
    refine .cons ?_ (vals_pick r q fun j hj => h j (List.mem_cons_of_mem _ hj))
    dsimp only
    rw [List.getD_eq_getElem?_getD, List.getElem?_eq_getElem hi, List.getD_eq_getElem?_getD, eu]
    exact ru
theorem call_sortP : CallR X (.builtin "sorted") (rSortP X.K) := by
  intro pins s σ H xs us Q I r h
  obtain ⟨a, ws, ps, rfl, hq, hP, nd, hb, h64, q⟩ := h
  obtain ⟨u, rfl, ru⟩ := Vals.one r
  cases ru
  obtain ⟨its, rv, p, hz⟩ := I.list hq
  have hlen : its.length = ps.length := rv.length.symm.trans (prs_len hP)
  refine ST.sorted_pairs (ps := ps) p.isList ⟨hlen, fun i v hv => ?_⟩ nd hb (by omega) fun qs h1 h2 => ?_
  · have hi : i < ws.length := by rw [rv.length]; exact (List.getElem?_eq_some_iff.mp hv).1
    obtain ⟨pr, t, e1, e2, hs⟩ := prs_get (i := i) hP (List.getElem?_eq_getElem hi)
    obtain ⟨u, eu, ru⟩ := rv.get (List.getElem?_eq_getElem hi)
    rw [hv] at eu; cases eu
    rw [e2] at ru
    cases ru
    obtain ⟨is, r2, ⟨o, ho, hcl, n, hd⟩, _⟩ := I.tuple hs
    obtain ⟨x, y, rfl, rx, ry⟩ := vals2 r2
    obtain ⟨t1, rfl⟩ := rx
    obtain ⟨t2, rfl⟩ := ry
    refine ⟨t, o, n, t1, t2, rfl, ho, hcl, ?_⟩
    rw [List.getD_eq_getElem?_getD, e1]
    exact hd
  · have hn : H (s.heap.objs.size + 1) = none := I.hok.fresh (Nat.le_succ _)
    obtain ⟨e, he⟩ := sortedAll_at s.heap its (qs.map fun i => its.getD i Value.none).toArray
    rw [hlen] at h1
    have hin : ∀ i ∈ qs, i < ws.length := fun i hi => by
      have := List.mem_range.mp (h1.mem_iff.mp hi)
      rw [prs_len hP]; exact this
    have hv := vals_pick rv qs hin
    have hz2 : (qs.map fun i => ws.getD i V.non).length ≤ sizeLine := by rw [List.length_map, h1.length_eq, List.length_range, sizeLine_eq]; omega
    refine ⟨.ref (s.heap.objs.size + 1), _, I.laid (t' := s.toks) (o := .lst (qs.map fun i => ws.getD i V.non)) (fun b o e => sortedAll_old e) (Nat.le_succ _) ?_, rfl, q _ qs hn h1 h2⟩
    exact ⟨hz2, _, e, hv, he⟩
end L2
namespace U
open PySem PySem.Spec PyProof.Rows L2
variable {B : Bs} {X : Cx} {a b : Expr} {ta tb : TE'} {pos : Pos}
def uSortP : List PV → PHp → VK' → Prop := arg1 fun x H Q => match x with
  | .ref a => ∃ ps : List (Int × Int), H a = some (.lst (ps.map prV)) ∧ ps.Nodup ∧ (∀ p ∈ ps, 0 ≤ p.2 ∧ p.2 < 6) ∧ ps.length < 64 ∧ ∀ (r : Addr) (qs : List (Int × Int)), H r = none → qs.Perm ps → qs.Pairwise (fun x y => ST.pk x < ST.pk y) → Q (.ref r) (put H r (.lst (qs.map prV)))
  | _ => False
theorem rps_pick {K : PySem.W.Frag} {H : Hp} {ps : List (Int × Int)} {us : List V} (r : RPs K H (ps.map prV) us) : ∀ (q : List Nat), (∀ i ∈ q, i < ps.length) → RPs K H ((q.map fun i => ps.getD i (0, 0)).map prV) (q.map fun i => us.getD i V.non)
  | [], _ => RPs.nil _
  | i :: q, h => by
    have hi := h i List.mem_cons_self
    obtain ⟨u, eu, ru⟩ := RPs.get _ (i := i) (x := prV ps[i]) r (by rw [List.getElem?_map, List.getElem?_eq_getElem hi]; rfl)
    refine RPs.cons _ ?_ (rps_pick r q fun j hj => h j (List.mem_cons_of_mem _ hj))
    dsimp only
    rw [List.getD_eq_getElem?_getD, List.getElem?_eq_getElem hi, List.getD_eq_getElem?_getD, eu]
    exact ru
theorem pick_perm {α : Type} (l : List α) (d : α) {q : List Nat} (h : q.Perm (List.range l.length)) : (q.map fun i => l.getD i d).Perm l := by
  refine (h.map _).trans ?_
  have : (List.range l.length).map (fun i => l.getD i d) = l := by
    apply List.ext_getElem
    · simp
    · intro i h1 h2
      simp [List.getD_eq_getElem?_getD, List.getElem?_eq_getElem h2]
  rw [this]
theorem vc_sortP {K : PySem.W.Frag} : VC K B uSortP (rSortP K) := by
  intro σ' σ H' H xs' xs Q' Q s r h k
  obtain ⟨x', x, rfl, rfl, rx, h⟩ := arg1.ex h r
  cases x' with
  | ref a =>
    obtain ⟨ps, ea, nd, hb, h64, q⟩ := h
    simp only [RP] at rx
    subst rx
    obtain ⟨us, e, r2⟩ := s.hp _ _ ea
    refine ⟨a, us, ps, rfl, .inl (.inl e), prs_of r2, nd, hb, h64, fun r qs hr h1 h2 => ?_⟩
    have hin : ∀ i ∈ qs, i < ps.length := fun i hi => List.mem_range.mp (h1.mem_iff.mp hi)
    exact k _ _ _ _ (q r _ (s.hp.free hr) (pick_perm ps (0, 0) h1) h2) (by simp [RP]) (s.new hr (newL hr (rps_pick r2 qs hin))) (Ev.new hr)
  | _ => exact h.elim
def uReverse : PV → List PV → PHp → VK' → Prop := fun x vs H Q => match x, vs with
  | .ref a, [] => ∃ l, H a = some (.lst l) ∧ Q .non (put H a (.lst l.reverse))
  | _, _ => False
def uClear : PV → List PV → PHp → VK' → Prop := fun x vs H Q => match x, vs with
  | .ref a, [] => ∃ l, H a = some (.lst l) ∧ Q .non (put H a (.lst []))
  | _, _ => False
def uInsert : PV → List PV → PHp → VK' → Prop := fun x vs H Q => match x, vs with
  | .ref a, [.int i, y] => ∃ l, H a = some (.lst l) ∧ 0 ≤ i ∧ i.toNat ≤ l.length ∧ l.length < 1000 ∧ Q .non (put H a (.lst (l.take i.toNat ++ y :: l.drop i.toNat)))
  | _, _ => False
theorem w_rv {a : Addr} {H : PHp} {Q : VK'} : uReverse (.ref a) [] H Q = ∃ l, H a = some (.lst l) ∧ Q .non (put H a (.lst l.reverse)) := rfl
theorem w_cl {a : Addr} {H : PHp} {Q : VK'} : uClear (.ref a) [] H Q = ∃ l, H a = some (.lst l) ∧ Q .non (put H a (.lst [])) := rfl
theorem w_in {a : Addr} {i : Int} {y : PV} {H : PHp} {Q : VK'} : uInsert (.ref a) [.int i, y] H Q = ∃ l, H a = some (.lst l) ∧ 0 ≤ i ∧ i.toNat ≤ l.length ∧ l.length < 1000 ∧ Q .non (put H a (.lst (l.take i.toNat ++ y :: l.drop i.toNat))) := rfl
end U
namespace U
open PySem PySem.Spec PyProof.Rows L2
theorem qe_globE {B : Bs} {X : Cx} {x : Str} {v' : PV} {v : V} {pos : Pos} (hg : Gl X x) (h : ∃ u, X.mg x = some u ∧ RelV v u) (r' : ∀ H, RP X.K H v' v) (hd : (x == ("__debug__" : Str)) = false := by decide) : PE' X B (.Name x pos) (uC v') := by
  obtain ⟨u, hm, r⟩ := h
  exact qe_glob hg hm r r' hd
theorem comp_pure {ok : PHp → Prop} {g : TG'} {tt : TT'} {te : TE'} {acc : Addr} {Q : VK'} {H1 : PHp} {xs : List PV} (f : PV → PV) (pz : PV → Bool) (Iv : St' → Prop) (hlen : xs.length ≤ 1000) (hok : ∀ l, ok (put H1 acc (.lst l)))
    (hs : ∀ x ∈ xs, ∀ (l : List PV) (σ : St') (R : St' → PHp → Prop), Iv σ → l.length < sizeLine → (pz x = true → ∀ σ3, Iv σ3 → R σ3 (put H1 acc (.lst (l ++ [f x])))) → (pz x = false → ∀ σ3, Iv σ3 → R σ3 (put H1 acc (.lst l))) →
      g x σ (put H1 acc (.lst l)) fun σ3 H2 => tt σ3 H2 fun b H3 => cif b (te σ3 H3 fun y H4 => ∃ l', H4 acc = some (.lst l') ∧ l'.length < sizeLine ∧ R σ3 (put H4 acc (.lst (l' ++ [y])))) (R σ3 H3))
    (hq : Q (.ref acc) (put H1 acc (.lst ((xs.filter pz).map f)))) {σ : St'} (h0 : Iv σ) : uCompL ok g tt te acc Q xs σ (put H1 acc (.lst [])) := by
  have key : ∀ (r d : List PV) (σ : St'), xs = d ++ r → Iv σ → uCompL ok g tt te acc Q r σ (put H1 acc (.lst ((d.filter pz).map f))) := by
    intro r
    induction r with
    | nil =>
      intro d σ e hv
      have : d = xs := by rw [e, List.append_nil]
      subst this
      exact ⟨hok _, hq⟩
    | cons x r ih =>
      intro d σ e hv
      have hd : ((d.filter pz).map f).length < sizeLine := by
        have h1 : d.length + (r.length + 1) = xs.length := by rw [e, List.length_append, List.length_cons]
        have h2 := List.length_filter_le pz d
        have := small1000 (n := 1000) (by decide)
        rw [List.length_map]
        omega
      refine ⟨hok _, hs x (by rw [e]; simp) _ σ _ hv hd (fun hp σ3 h3 => ?_) (fun hp σ3 h3 => ?_)⟩
      · have := ih (d ++ [x]) σ3 (by rw [e]; simp) h3
        rw [List.filter_append, List.map_append] at this
        simpa [hp] using this
      · have := ih (d ++ [x]) σ3 (by rw [e]; simp) h3
        rw [List.filter_append, List.map_append] at this
        simpa [hp] using this
  exact key xs [] σ rfl h0
end U
namespace U
open PySem PySem.Spec PyProof.Rows L2
theorem w_fl {C : Addr} {f : Str} {a : Addr} {H : PHp} {Q : VK'} : fldOf C f (.ref a) H Q = ∃ dx fs v, H a = some (.ins C dx fs) ∧ fs.lookup f = some v ∧ Q v H := rfl
theorem w_sf {C : Addr} {f : Str} {a : Addr} {y : PV} {H : PHp} {Q : PHp → Prop} : stFld C f (.ref a) y H Q = ∃ dx fs, H a = some (.ins C dx fs) ∧ fs.length < 1000 ∧ Q (put H a (.ins C dx (putU f y fs))) := rfl
theorem w_ii {C : Addr} {m : Str} {a : Addr} {H : PHp} : isIn C m (.ref a) H = ∃ dx fs, H a = some (.ins C dx fs) ∧ fs.lookup m = none := rfl
theorem w_al {a : Addr} {H : PHp} {Q : VK'} : uAll [.ref a] H Q = ∃ bs : List Bool, H a = some (.lst (bs.map PV.bl)) ∧ Q (.bl (bs.all id)) H := rfl
theorem w_ls {a : Addr} {H : PHp} {Q : VK'} : lenSet (.ref a) H Q = ∃ ps : List (Int × Int), H a = some (.lst (ps.map prV)) ∧ ps.Nodup ∧ (∀ p ∈ ps, p ∈ SP.prs) ∧ ps.length ≤ 15 ∧ Q (.int ps.length) H := rfl
theorem w_sp {a : Addr} {H : PHp} {Q : VK'} : uSortP [.ref a] H Q = ∃ ps : List (Int × Int), H a = some (.lst (ps.map prV)) ∧ ps.Nodup ∧ (∀ p ∈ ps, 0 ≤ p.2 ∧ p.2 < 6) ∧ ps.length < 64 ∧ ∀ (r : Addr) (qs : List (Int × Int)), H r = none → qs.Perm ps → qs.Pairwise (fun x y => ST.pk x < ST.pk y) → Q (.ref r) (put H r (.lst (qs.map prV))) := rfl
end U


set_option linter.all false
set_option maxRecDepth 100000
set_option maxHeartbeats 4000000
namespace SI
open PySem
def subs : List (List Nat) := (List.range 64).map fun b => (List.range 6).filter fun i => b / 2 ^ i % 2 == 1
def tb (led : Bool) (L : List Nat) : SetTable := { mask := if L.length ≤ 4 then 7 else 31, place := L.toArray, dummies := #[], finger := 0, led := led, moves := if L.length ≤ 4 then 0 else 1, plain := true }
def pos (L : List Nat) (x : Nat) : Nat := (L.filter (· < x)).length
def ins (L : List Nat) (x : Nat) : List Nat := L.take (pos L x) ++ x :: L.drop (pos L x)
def tp (led : Bool) (L : List Nat) (x : Nat) : SetTable := { tb led L with place := (ins L x).toArray }
theorem tab4 : ∀ L ∈ subs, ∀ led ∈ [true, false], (tb led L).fits L.length = true ∧ SetTable.below L.toArray 0 = 0 ∧ ∀ i ∈ List.range L.length, SetTable.below L.toArray (L.getD i 0 + 1) = i + 1 := by decide +kernel
section
variable {prog : Program} {w : World} {A : Around} {E : Value → Shared → Prop} {s : Shared}
end
end SI


set_option linter.all false
set_option maxRecDepth 100000
set_option maxHeartbeats 4000000
namespace SI
open PySem
theorem erase_perm {α : Type} : ∀ (l : List α) (i : Nat) (h : i < l.length), (l[i] :: l.eraseIdx i).Perm l
  | x :: l, 0, _ => List.Perm.refl _
  | x :: l, i + 1, h => by
    have ih := erase_perm l i (by simpa using h)
    have h' : i < l.length := by simpa using h
    show (l[i] :: x :: l.eraseIdx i).Perm (x :: l)
    exact (List.Perm.swap _ _ _).trans (ih.cons x)
theorem pick_perm {α : Type} (next : Nat → Nat) : ∀ (f k : Nat) (l : List α) (out : Array α), f = l.length → (pickOrder.go next f k l out).toList.Perm (out.toList ++ l)
  | 0, k, l, out, h => by
    have : l = [] := List.length_eq_zero_iff.mp h.symm
    subst this
    show out.toList.Perm _
    rw [List.append_nil]
  | f + 1, k, l, out, h => by
    have hlt : next k % l.length < l.length := Nat.mod_lt _ (by omega)
    unfold pickOrder.go
    rw [List.getElem?_eq_getElem hlt]
    dsimp only
    refine (pick_perm next f (k + 1) _ _ (by rw [List.length_eraseIdx_of_lt hlt]; omega)).trans ?_
    rw [Array.toList_push, List.append_assoc]
    refine List.Perm.append_left _ ?_
    exact erase_perm l _ hlt
def slotAt (w : World) (L : List Nat) (i : Nat) : Nat := if w.params.followText "set-order" = true then 0 else if i = 0 then 0 else L.getD (i - 1) 0 + 1
section
variable {prog : Program} {w : World} {A : Around} {E : Value → Shared → Prop} {s : Shared}
theorem below_at {w : World} {L : List Nat} (hL : L ∈ subs) (hb : ¬ w.params.followText "set-order" = true) {i : Nat} (hi : i ≤ L.length) : SetTable.below L.toArray (slotAt w L i) = i := by
  unfold slotAt
  rw [if_neg hb]
  obtain ⟨_, a, b⟩ := tab4 L hL true (by simp)
  cases i with
  | zero => exact a
  | succ i =>
    rw [if_neg (by omega)]
    exact b i (List.mem_range.mpr (by omega))
end
end SI


set_option linter.all false
set_option maxRecDepth 100000
set_option maxHeartbeats 4000000
namespace SI
open PySem PyProof.Rows
section
variable {prog : Program} {w : World} {A : Around} {E : Value → Shared → Prop} {s : Shared}
end
end SI


set_option linter.all false
set_option maxRecDepth 100000
set_option maxHeartbeats 4000000
namespace L2
open PySem PySem.Spec PyProof.Rows
variable {X : Cx}
end L2
namespace U
open PySem PySem.Spec PyProof.Rows L2
variable {B : Bs} {X : Cx} {e : Expr} {ta : TE'} {p p2 pos pos2 : Pos}
end U
namespace L2
open PySem PySem.Spec PyProof.Rows
variable {X : Cx} {tg : Expr}
end L2
namespace U
open PySem PySem.Spec PyProof.Rows L2
variable {B : Bs} {X : Cx} {a b c : Expr} {pos : Pos}
end U


set_option linter.all false
set_option maxRecDepth 100000
set_option maxHeartbeats 4000000
namespace U
open PySem PySem.Spec PyProof.Rows L2
variable {B : Bs} {X : Cx} {a b : Expr} {ta tb : TE'} {pos : Pos}
def uCat : R2' := fun x y H Q => match x, y with
  | .ref a, .ref b => ∃ l m, H a = some (.lst l) ∧ H b = some (.lst m) ∧ l.length + m.length ≤ sizeLine ∧ ∀ p, H p = none → Q (.ref p) (put H p (.lst (l ++ m)))
  | _, _ => False
theorem w_ca {a b : Addr} {H : PHp} {Q : VK'} : uCat (.ref a) (.ref b) H Q = ∃ l m, H a = some (.lst l) ∧ H b = some (.lst m) ∧ l.length + m.length ≤ sizeLine ∧ ∀ p, H p = none → Q (.ref p) (put H p (.lst (l ++ m))) := rfl
theorem vr_cat {K : PySem.W.Frag} : VR K B uCat rCat := by
  intro σ' σ H' H x' y' x y Q' Q s rx ry h k
  unfold uCat at h
  split at h
  · rename_i a b
    obtain ⟨l, m, e1, e2, hl, h⟩ := h
    simp only [RP] at rx ry
    subst rx; subst ry
    obtain ⟨us, q1, r1⟩ := s.hp _ _ e1
    obtain ⟨ws, q2, r2⟩ := s.hp _ _ e2
    refine ⟨a, b, us, ws, rfl, rfl, q1, q2, by rw [RPs.length _ r1, RPs.length _ r2]; exact hl, fun p hp => ?_⟩
    exact k _ _ _ _ (h p (s.hp.free hp)) (by simp [RP]) (s.new hp (newL hp (RPs.append _ r1 r2))) (Ev.new hp)
  · exact h.elim
theorem qe_cat (ha : PE' X B a ta) (hb : PE' X B b tb) : PE' X B (.BinOp a .Add b pos) (uOp uCat ta tb) := qe_op op_cat vr_cat ha hb
theorem cut_from (xs : List PV) (k : Nat) : cutP xs (some (k : Int)) none = xs.drop k := by
  unfold cutP
  rw [HT.sIx_nat, HT.sIx_none]
  rw [List.take_of_length_le (by rw [List.length_drop]; omega)]
  by_cases h : k ≤ xs.length
  · rw [Nat.min_eq_left h]
  · rw [Nat.min_eq_right (by omega), List.drop_length, List.drop_eq_nil_of_le (by omega)]
end U


set_option linter.all false
set_option maxRecDepth 100000
set_option maxHeartbeats 4000000 -- own
namespace L2
open PySem PySem.Spec PyProof.Rows
variable {X : Cx}
def sT (l : List Nat) : Str := ⟨l.toArray⟩
theorem sT_len (l : List Nat) : (sT l).length = l.length := by simp [sT, Str.length]
theorem sT_cps (l : List Nat) : (sT l).cps.toList = l := by simp [sT]
theorem sT_add (a b : List Nat) : sT a ++ sT b = sT (a ++ b) := by
  show Str.append (sT a) (sT b) = _
  simp [Str.append, sT]
theorem strs_are : ∀ {ys : List Str} {its : List Value}, Vals (ys.map V.str) its → StrsAre its ys
  | [], [], .nil => .nil
  | y :: ys, v :: its, .cons h t => by obtain ⟨tk, rfl⟩ := h; exact .cons y tk (strs_are t)
def rJoin (K : PySem.W.Frag) : V → List V → Hp → VK → Prop := fun x xs H Q => ∃ sep a ys, x = .str sep ∧ xs = [.ref a] ∧ SqL K H a (ys.map V.str) ∧ sep.length ≤ 16 ∧ (ys.map (·.length)).sum + ys.length ≤ 1048576 ∧ Q (.str (Txt.join sep ys)) H
theorem mt_join : MtR X "str.join" (rJoin X.K) := by
  intro pins s σ H x xs v us Q I rx r h
  obtain ⟨sep, a, ys, rfl, rfl, hq, h1, h2, q⟩ := h
  obtain ⟨t, rfl⟩ := rx
  obtain ⟨u, rfl, ru⟩ := Vals.one r
  cases ru
  obtain ⟨its, rv, p, hz⟩ := I.list hq
  exact join_listW p.isList (strs_are (by simpa using rv)) h1 h2 fun t' k => ⟨.str _, H, I.kept (t' := k) (fun b o e => e), ⟨_, rfl⟩, q⟩
theorem mt_find : MtR X "str.find" (fun x xs H Q => ∃ z y, x = .str z ∧ xs = [.str y] ∧ Q (.int (Txt.find z y)) H) := by
  intro pins s σ H x xs v us Q I rx r h
  obtain ⟨z, y, rfl, rfl, q⟩ := h
  obtain ⟨t, rfl⟩ := rx
  obtain ⟨u, rfl, ru⟩ := Vals.one r
  obtain ⟨t2, rfl⟩ := ru
  exact call_gives F.slot_str_find (typeIs_str _ _ _) F.entry_str_find (F.args_str_find_2 _ _) (gives_str_find z y t t2) ⟨.int _, H, I.kept (t' := s.toks + 1) (fun b o e => e), ⟨_, rfl⟩, q⟩
def rSlS : V → Option Int → Option Int → Hp → VK → Prop := fun x lo hi H Q => ∃ z, x = .str z ∧ z.length ≤ sizeLine ∧ Q (.str (Txt.slice z lo hi)) H
theorem part_ex {v : Value} {o : Option Int} (p : IsPart v o) : ∃ l : Option (Int × Tok), v = partValue l ∧ l.map (·.1) = o := by
  cases p with
  | none => exact ⟨none, rfl, rfl⟩
  | int i t => exact ⟨some (i, t), rfl, rfl⟩
theorem sl_str : SlR X rSlS := by
  intro pins s σ H x v vl vu lo hi sl Q I rx hs pl pu h
  obtain ⟨z, rfl, hz, q⟩ := h
  obtain ⟨t, rfl⟩ := rx
  obtain ⟨l, rfl, rfl⟩ := part_ex pl
  obtain ⟨u, rfl, rfl⟩ := part_ex pu
  refine ⟨"str", _, F.slot_str_getitem.lookup, typeIs_str _ _ _, wpAny_getItem_str_slice (l := l) (u := u) (st := none) hs rfl ?_⟩
  have ef : (none : Option (Int × Tok)).map (·.1) = none := rfl
  unfold Txt.slice at q
  unfold sliceMade slicePicked
  simp only [ef, Option.getD_none] at q ⊢
  split
  · rename_i e
    rw [if_pos e] at q
    exact ⟨.str z, H, I, ⟨_, rfl⟩, q⟩
  · rename_i e
    rw [if_neg e] at q
    refine ⟨?_, .str _, H, I.kept (t' := s.toks + 1) (fun b o e => e), ⟨_, rfl⟩, q⟩
    show (List.filterMap _ _).toArray.size ≤ sizeLine
    rw [List.size_toArray]
    exact Nat.le_trans (Nat.le_trans (List.length_filterMap_le _ _) (sliceIndices_le _ _ _)) hz
end L2
namespace U
open PySem PySem.Spec PyProof.Rows L2
variable {B : Bs} {X : Cx} {a b o e : Expr} {es : List Expr} {ta tb to : TE'} {t : TA'} {pos apos cpos : Pos} {name : Str}
abbrev tx (l : List Nat) : PV := .str (sT l)
def uAddS : R2' := fun x y H Q => match x, y with
  | .str i, .str j => i.length + j.length ≤ sizeLine ∧ Q (.str (i ++ j)) H
  | _, _ => False
theorem w_aS {i j : Str} {H : PHp} {Q : VK'} : uAddS (.str i) (.str j) H Q = (i.length + j.length ≤ sizeLine ∧ Q (.str (i ++ j)) H) := rfl
theorem vr_addS {K : PySem.W.Frag} : VR K B uAddS (fun x y H Q => ∃ i j, x = .str i ∧ y = .str j ∧ i.length + j.length ≤ sizeLine ∧ Q (.str (i ++ j)) H) := by
  intro σ' σ H' H x' y' x y Q' Q s rx ry h k
  unfold uAddS at h
  split at h
  · rename_i i j
    simp only [RP] at rx ry
    exact ⟨i, j, rx, ry, h.1, k _ _ _ _ h.2 (by simp [RP]) s (Ev.refl _ _)⟩
  · exact h.elim
theorem qe_addS (ha : PE' X B a ta) (hb : PE' X B b tb) : PE' X B (.BinOp a .Add b pos) (uOp uAddS ta tb) := qe_op op_add_str vr_addS ha hb
def uIxS : R2' := fun x y H Q => match x, y with
  | .str z, .int i => z.length ≤ sizeLine ∧ ∃ c, atI z.cps.toList i = some c ∧ Q (.str ⟨#[c]⟩) H
  | _, _ => False
theorem w_iS {z : Str} {i : Int} {H : PHp} {Q : VK'} : uIxS (.str z) (.int i) H Q = (z.length ≤ sizeLine ∧ ∃ c, atI z.cps.toList i = some c ∧ Q (.str ⟨#[c]⟩) H) := rfl
theorem vr_ixS {K : PySem.W.Frag} : VR K B uIxS rIxS := by
  intro σ' σ H' H x' y' x y Q' Q s rx ry h k
  unfold uIxS at h
  split at h
  · rename_i z i
    simp only [RP] at rx ry
    obtain ⟨h1, c, h2, h3⟩ := h
    exact ⟨z, i, c, rx, ry, h1, h2, k _ _ _ _ h3 (by simp [RP]) s (Ev.refl _ _)⟩
  · exact h.elim
theorem qe_ixS (ha : PE' X B a ta) (hb : PE' X B b tb) (hs : PlainIx b) : PE' X B (.Subscript a b pos) (uOp uIxS ta tb) := pe_imp (pe_ix ix_str ha hb hs) fun _ _ _ h => low_op vr_ixS h
def uLenS : List PV → PHp → VK' → Prop := arg1 fun x H Q => match x with
  | .str z => z.length ≤ sizeLine ∧ Q (.int z.length) H
  | _ => False
theorem w_lS {z : Str} {H : PHp} {Q : VK'} : uLenS [.str z] H Q = (z.length ≤ sizeLine ∧ Q (.int z.length) H) := rfl
theorem vc_lenS {K : PySem.W.Frag} : VC K B uLenS (fun xs H Q => ∃ z, xs = [.str z] ∧ z.length ≤ sizeLine ∧ Q (.int z.length) H) := by
  intro σ' σ H' H xs' xs Q' Q s r h k
  obtain ⟨x', x, rfl, rfl, rx, h⟩ := arg1.ex h r
  cases x' with
  | str z =>
    simp only [RP] at rx
    subst rx
    exact ⟨z, rfl, h.1, k _ _ _ _ h.2 (by simp [RP]) s (Ev.refl _ _)⟩
  | _ => exact h.elim
def sgn (c : Nat) : PV := .str ⟨#[c]⟩
def uListS : List PV → PHp → VK' → Prop := arg1 fun x H Q => match x with
  | .str z => z.length ≤ sizeLine ∧ ∀ r, H r = none → Q (.ref r) (put H r (.lst (z.cps.toList.map sgn)))
  | _ => False
theorem w_LS {z : Str} {H : PHp} {Q : VK'} : uListS [.str z] H Q = (z.length ≤ sizeLine ∧ ∀ r, H r = none → Q (.ref r) (put H r (.lst (z.cps.toList.map sgn)))) := rfl
def isT (x : PV) : Prop := match x with
  | .str _ => True
  | _ => False
theorem w_iT {z : Str} : isT (.str z) = True := rfl
def uBMS (r : PV → List PV → PHp → VK' → Prop) (to : TE') (t : TA') : TE' := fun σ H Q => to σ H fun x H1 => isT x ∧ t σ H1 fun xs H2 => r x xs H2 Q
theorem qe_bmS {id : String} {r' : PV → List PV → PHp → VK' → Prop} {r : V → List V → Hp → VK → Prop} (pa : PlainAttrs "str") (slot : Slot "str" name id) (hty : typeOf (.builtin id) = pure (.type "method_descriptor")) (hm : MtR X id r) (v : VM X.K B r' r) (ho : PE' X B o to) (ha : PA' X B (e :: es) t)
    (hbase : attributeBase o name X.env (eval o X.env) = eval o X.env := by rfl)
    (hfew : ((backTo cpos (starEach (e :: es) X.env)).all (fun x => !x.1) && (backToKw cpos (keywordEach [] X.env)).all (fun x => x.1.isSome)
      && decide ((e :: es).length + ([] : List Keyword).length + (if ([] : List Keyword).isEmpty then 0 else 1) < 30)) = true := by rfl)
    (hline : (apos.endLine == cpos.line) = true := by rfl) (hs : starEach (e :: es) X.env = (false, eval e X.env) :: starEach es X.env := by rfl) (hplain : (backTo cpos (starEach es X.env)).any (·.1) = false := by rfl) :
    PE' X B (.Call (.Attribute o name apos) (e :: es) [] cpos) (uBMS r' to t) := pe_imp (pe_bm pa slot hty hm ho ha hbase hfew hline hs hplain) fun σ H Q h => by
  obtain ⟨σ', H', Q', s, h, k⟩ := h
  refine ⟨σ', H', _, s, h, fun x' H1' x H1 h1 rx s1 e1 => ?_⟩
  obtain ⟨ty, h1⟩ := h1
  constructor
  · cases x' with
    | str z =>
      simp only [RP] at rx
      subst rx
      rfl
    | _ => exact ty.elim
  · refine ⟨σ', H1', _, s1, h1, fun xs' H2' xs H2 h2 r2 s2 e2 => ?_⟩
    exact v σ' σ H2' H2 x' xs' x xs Q' Q s2 (RP.kp X.K (e2.kp s1.hp) rx) r2 h2 fun v' H3' v H3 q rv s3 e3 => k v' H3' v H3 q rv s3 (e1.trans (e2.trans e3))
def uFind : PV → List PV → PHp → VK' → Prop := fun x vs H Q => match x, vs with
  | .str z, [.str y] => Q (.int (Txt.find z y)) H
  | _, _ => False
theorem w_fd {z y : Str} {H : PHp} {Q : VK'} : uFind (.str z) [.str y] H Q = Q (.int (Txt.find z y)) H := rfl
theorem vm_find {K : PySem.W.Frag} : VM K B uFind (fun x xs H Q => ∃ z y, x = .str z ∧ xs = [.str y] ∧ Q (.int (Txt.find z y)) H) := by
  intro σ' σ H' H x' xs' x xs Q' Q s rx r h k
  unfold uFind at h
  split at h
  · rename_i z y
    simp only [RP] at rx
    simp only [RPs, RP] at r
    obtain ⟨_, _, rfl, rfl, rfl⟩ := r
    exact ⟨z, y, rx, rfl, k _ _ _ _ h (by simp [RP]) s (Ev.refl _ _)⟩
  · exact h.elim
theorem rps_strs {K : PySem.W.Frag} {H : Hp} : ∀ {ys : List Str} {us : List V}, RPs K H (ys.map PV.str) us → us = ys.map V.str
  | [], _, h => by simpa [RPs] using h
  | y :: ys, _, h => by
    simp only [List.map_cons, RPs, RP] at h
    obtain ⟨u, r, rfl, rfl, h2⟩ := h
    rw [rps_strs h2]; rfl
def uJoin : PV → List PV → PHp → VK' → Prop := fun x vs H Q => match x, vs with
  | .str z, [.ref a] => ∃ ys : List Str, H a = some (.lst (ys.map PV.str)) ∧ z.length ≤ 16 ∧ (ys.map (·.length)).sum + ys.length ≤ 1048576 ∧ Q (.str (Txt.join z ys)) H
  | _, _ => False
theorem w_jn {z : Str} {a : Addr} {H : PHp} {Q : VK'} : uJoin (.str z) [.ref a] H Q = ∃ ys : List Str, H a = some (.lst (ys.map PV.str)) ∧ z.length ≤ 16 ∧ (ys.map (·.length)).sum + ys.length ≤ 1048576 ∧ Q (.str (Txt.join z ys)) H := rfl
theorem vm_join {K : PySem.W.Frag} : VM K B uJoin (rJoin K) := by
  intro σ' σ H' H x' xs' x xs Q' Q s rx r h k
  unfold uJoin at h
  split at h
  · rename_i z a
    obtain ⟨ys, ea, h1, h2, q⟩ := h
    simp only [RP] at rx
    simp only [RPs, RP] at r
    obtain ⟨_, _, rfl, rfl, rfl⟩ := r
    obtain ⟨us, e, r2⟩ := s.hp _ _ ea
    rw [rps_strs r2] at e
    exact ⟨z, a, ys, rx, rfl, .inl (.inl e), h1, h2, k _ _ _ _ q (by simp [RP]) s (Ev.refl _ _)⟩
  · exact h.elim
def sliceS (x : PV) (lo hi : Option Int) (H : PHp) (Q : VK') : Prop := match x with
  | .str z => z.length ≤ sizeLine ∧ Q (.str (Txt.slice z lo hi)) H
  | _ => False
theorem w_sS {z : Str} {lo hi : Option Int} {H : PHp} {Q : VK'} : sliceS (.str z) lo hi H Q = (z.length ≤ sizeLine ∧ Q (.str (Txt.slice z lo hi)) H) := rfl
def uSliceS (ta : TE') (tl th : TO') : TE' := fun σ H Q => ta σ H fun x H1 => tl σ H1 fun lo H2 => th σ H2 fun hi H3 => sliceS x lo hi H3 Q
theorem qe_sliceS {lo hi : Option Expr} {tl th : TO'} {p2 : Pos} (he : PE' X B e ta) (hl : PO' X B lo tl) (hu : PO' X B hi th) : PE' X B (.Subscript e (.Slice lo hi none p2) pos) (uSliceS ta tl th) :=
  pe_imp (pe_slice sl_str he hl hu) fun σ H Q ⟨σ', H', Q', s, h, k⟩ => by
  refine ⟨σ', H', _, s, h, fun x H1' v H1 h1 r1 s1 e1 => ⟨σ', H1', _, s1, h1, fun l H2' H2 h2 s2 e2 => ⟨σ', H2', _, s2, h2, fun u H3' H3 h3 s3 e3 => ?_⟩⟩⟩
  cases x with
  | str z =>
    simp only [RP] at r1
    exact ⟨z, r1, h3.1, k _ _ _ _ h3.2 (by simp [RP]) s3 (e1.trans (e2.trans e3))⟩
  | _ => exact h3.elim
def itS (x : PV) (H : PHp) (R : It' → PHp → Prop) : Prop := match x with
  | .str z => z.cps.all (· < 128) = true ∧ R ⟨z.cps.toList.map sgn, fun _ => True⟩ H
  | _ => False
theorem w_tS {z : Str} {H : PHp} {R : It' → PHp → Prop} : itS (.str z) H R = (z.cps.all (· < 128) = true ∧ R ⟨z.cps.toList.map sgn, fun _ => True⟩ H) := rfl
end U


set_option linter.all false
set_option maxRecDepth 100000
set_option maxHeartbeats 4000000 -- own
namespace L2
open PySem PySem.Spec PyProof.Rows
variable {X : Cx}
theorem vals_rev' : ∀ {us : List V} {its : List Value}, Vals us its → Vals us.reverse its.reverse
  | [], [], .nil => .nil
  | x :: us, v :: its, .cons h t => by
    have app : ∀ {l l2 : List V} {m m2 : List Value}, Vals l m → Vals l2 m2 → Vals (l ++ l2) (m ++ m2) := by
      intro l
      induction l with
      | nil => intro l2 m m2 h1 h2; cases h1; exact h2
      | cons a l ih => intro l2 m m2 h1 h2; cases h1 with | cons q r => exact .cons q (ih r h2)
    rw [List.reverse_cons, List.reverse_cons]
    exact app (vals_rev' t) (.cons h .nil)
section
variable {e e3 : Expr} {te : TE} {ts : TO} {pos p2 : Pos}
def tRev1 (K : PySem.W.Frag) (te : TE) (ts : TO) : TE := fun σ H Q => te σ H fun x H1 => ts σ H1 fun o H2 => o = some (-1) ∧ ∃ a xs, x = .ref a ∧ SqL K H2 a xs ∧ ∀ p, H2 p = none → Q (.ref p) (upd H2 p (.lst xs.reverse))
theorem pe_rev1 (he : PE X e te) (hst : PO X (some e3) ts) : PE X (.Subscript e (.Slice none none (some e3) p2) pos) (tRev1 X.K te ts) := by
  intro pins s σ H Q I h
  refine Subscript_ (thn (he pins s σ H _ I h) fun v s1 ⟨x, H1, I1, r1, q1⟩ => ?_)
  refine wpAny_Slice ?_
  rw [evalPart_none]
  refine wpAny_pure ?_
  refine wpAny_pure ?_
  refine thn (hst pins s1 σ H1 _ I1 q1) fun vs s2 ⟨o, H2, I2, ps, q2⟩ => ?_
  obtain ⟨rfl, a, xs, rfl, hx, q⟩ := q2
  cases r1
  have I3 : Inv X pins σ H2 { s2 with heap := s2.heap.push { cls := .type "slice", data := .fields #[.none, .none, vs] } } := I2.kept (t' := s2.toks) fun b ob q => Heap.get?_push_of_some _ q
  obtain ⟨its, r, ht, hz⟩ := I3.list hx
  have hlen := r.length
  show wpAny (model X.prog X.w) X.A (subscriptTail e (.Slice none none (some e3) p2) (.ref a) (.ref s2.heap.objs.size)) (EP X pins σ Q) X.xe { s2 with heap := s2.heap.push { cls := .type "slice", data := .fields #[.none, .none, vs] } }
  refine tail_any (ops := [.ref a, .ref s2.heap.objs.size]) ht.isList.typeIs slot_list_getitem.lookup ?_ (by with_unfolding_all rfl)
  refine wpAny_getItem_list_slice (lo := none) (hi := none) ht.isList (Heap.IsSliceOf.new ..) .none .none ps (by decide) ?_ (by rw [List.size_toArray] <;> omega)
  rw [PySem.W.krv_pick]
  refine ⟨.ref _, _, I3.laid (t' := s2.toks) (o := .lst xs.reverse) (fun b ob q => Heap.get?_push_of_some _ q) (Nat.le_refl _) ?_, rfl, q _ (I3.hok.fresh (Nat.le_refl _))⟩
  exact ⟨by rw [List.length_reverse]; exact hz, _, 0, vals_rev' r, Heap.get?_push_size _ rfl⟩
end
theorem vals_strs : ∀ {l : List (Str × Tok)}, Vals ((l.map (·.1)).map V.str) (strValues l)
  | [] => .nil
  | p :: l => .cons ⟨p.2, rfl⟩ vals_strs
theorem call_split {prog : Program} {w : World} {A : Around} {E : Value → Shared → Prop} {s : Shared} {x y : Str} {t u : Tok} {Q : Value → Shared → Prop} (hy : (y.length == 0) = false) (hsz : x.length + 2 ≤ sizeLine)
    (h : ∀ l k, l.map (·.1) = Txt.split x y → Q (.ref s.heap.objs.size) { s with heap := s.heap.push { cls := .type "list", data := .seq (strValues l).toArray }, toks := k }) :
    wpAny (model prog w) A (call (.builtin "str.split") [.str x t, .str y u]) Q E s := by
  have hn : (Builtin.Str.partsBetween x (Builtin.Str.occurrences x y 0 x.length (x.length + 1)) y.length).length ≤ sizeLine := by
    have e1 := StrLaws.occ_length_le x y 0 x.length (x.length + 1)
    rw [length_partsBetween]; omega
  cases h1 : (decide (x.length < y.length) || decide (Builtin.Str.strKind x < Builtin.Str.strKind y))
  · cases hf : (Builtin.Str.occurrences x y 0 x.length (x.length + 1)).isEmpty
    · refine call_meets F.slot_str_split (typeIs_str _ _ _) F.entry_str_split (F.args_str_split_2 _ _) (meets_str_split_sep x y t u h1 hy hf (by omega) hn) ?_
      show wants Q E _ { s with toks := _, heap := s.heap.push { cls := .type "list", data := .seq (strsFrom s.toks (Builtin.Str.partsBetween x (Builtin.Str.occurrences x y 0 x.length (x.length + 1)) y.length)).toArray } }
      rw [strsFrom_eq]
      exact h (numbered s.toks _) _ ((numbered_texts _ _).trans ((if_neg (ne_true_of_eq_false h1)).trans (if_neg (ne_true_of_eq_false hf))).symm)
    · exact call_meets F.slot_str_split (typeIs_str _ _ _) F.entry_str_split (F.args_str_split_2 _ _) (meets_str_split_not_found x y t u h1 hy hf) (h [(x, t)] s.toks ((if_neg (ne_true_of_eq_false h1)).trans (if_pos hf)).symm)
  · exact call_meets F.slot_str_split (typeIs_str _ _ _) F.entry_str_split (F.args_str_split_2 _ _) (meets_str_split_cannot_occur x y t u h1) (h [(x, t)] s.toks (if_pos h1).symm)
def rSplit : V → List V → Hp → VK → Prop := fun x xs H Q => ∃ z y, x = .str z ∧ xs = [.str y] ∧ (y.length == 0) = false ∧ z.length + 2 ≤ sizeLine ∧ ∀ r, H r = none → Q (.ref r) (upd H r (.lst ((Txt.split z y).map V.str)))
theorem mt_split : MtR X "str.split" rSplit := by
  intro pins s σ H x xs v us Q I rx r h
  obtain ⟨z, y, rfl, rfl, hy, hz, q⟩ := h
  obtain ⟨t, rfl⟩ := rx
  obtain ⟨u, rfl, ru⟩ := Vals.one r
  obtain ⟨t2, rfl⟩ := ru
  refine call_split hy hz fun l k el => ?_
  have hn : H s.heap.objs.size = none := I.hok.fresh (Nat.le_refl _)
  refine ⟨.ref _, _, I.laid (t' := k) (o := .lst ((Txt.split z y).map V.str)) (fun b o e => Heap.get?_push_of_some _ e) (Nat.le_refl _) ?_, rfl, q _ hn⟩
  refine ⟨?_, strValues l, 0, by rw [← el]; exact vals_strs, Heap.get?_push_size _ rfl⟩
  rw [List.length_map]
  exact Nat.le_trans (split_le z y) hz
end L2
namespace U
open PySem PySem.Spec PyProof.Rows L2
variable {B : Bs} {X : Cx} {a b o e e3 : Expr} {es : List Expr} {ta tb to : TE'} {t : TA'} {pos p2 apos cpos : Pos} {name : Str}
def rev1 (x : PV) (H : PHp) (Q : VK') : Prop := match x with
  | .ref a => ∃ l, H a = some (.lst l) ∧ ∀ p, H p = none → Q (.ref p) (put H p (.lst l.reverse))
  | _ => False
theorem w_r1x {a : Addr} {H : PHp} {Q : VK'} : rev1 (.ref a) H Q = ∃ l, H a = some (.lst l) ∧ ∀ p, H p = none → Q (.ref p) (put H p (.lst l.reverse)) := rfl
def uRev1 (ta : TE') (ts : TO') : TE' := fun σ H Q => ta σ H fun x H1 => ts σ H1 fun o H2 => o = some (-1) ∧ rev1 x H2 Q
theorem rps_rev' {K : PySem.W.Frag} {H : Hp} : ∀ {l : List PV} {us : List V}, RPs K H l us → RPs K H l.reverse us.reverse
  | [], _, h => by simp only [RPs] at h; subst h; simp [RPs]
  | x :: l, _, h => by
    simp only [RPs] at h
    obtain ⟨u, r, rfl, a, b⟩ := h
    rw [List.reverse_cons, List.reverse_cons]
    exact RPs.append K (rps_rev' b) (RPs.cons K a (RPs.nil K))
theorem qe_rev1 {ts : TO'} (he : PE' X B e ta) (hs : PO' X B (some e3) ts) : PE' X B (.Subscript e (.Slice none none (some e3) p2) pos) (uRev1 ta ts) :=
  pe_imp (pe_rev1 he hs) fun σ H Q ⟨σ', H', Q', s, h, k⟩ => by
  refine ⟨σ', H', _, s, h, fun x H1' v H1 h1 r1 s1 e1 => ⟨σ', H1', _, s1, h1, fun l H2' H2 h2 s2 e2 => ?_⟩⟩
  obtain ⟨ho, h2⟩ := h2
  refine ⟨ho, ?_⟩
  cases x with
  | ref a =>
    obtain ⟨l, ea, q⟩ := h2
    simp only [RP] at r1
    obtain ⟨us, eg, r⟩ := s2.hp _ _ ea
    exact ⟨a, us, r1, .inl (.inl eg), fun p hp => k _ _ _ _ (q p (s2.hp.free hp)) (by simp [RP]) (s2.new hp (newL hp (rps_rev' r))) ((e1.trans e2).trans (Ev.new hp))⟩
  | _ => exact h2.elim
def uSplit : PV → List PV → PHp → VK' → Prop := fun x vs H Q => match x, vs with
  | .str z, [.str y] => (y.length == 0) = false ∧ z.length + 2 ≤ sizeLine ∧ ∀ r, H r = none → Q (.ref r) (put H r (.lst ((Txt.split z y).map PV.str)))
  | _, _ => False
theorem w_spl {z y : Str} {H : PHp} {Q : VK'} : uSplit (.str z) [.str y] H Q = ((y.length == 0) = false ∧ z.length + 2 ≤ sizeLine ∧ ∀ r, H r = none → Q (.ref r) (put H r (.lst ((Txt.split z y).map PV.str)))) := rfl
theorem strs_rps {K : PySem.W.Frag} {H : Hp} : ∀ {ys : List Str}, RPs K H (ys.map PV.str) (ys.map V.str)
  | [] => by simp [RPs]
  | y :: ys => RPs.cons K (by simp [RP]) strs_rps
theorem vm_split {K : PySem.W.Frag} : VM K B uSplit rSplit := by
  intro σ' σ H' H x' xs' x xs Q' Q s rx r h k
  unfold uSplit at h
  split at h
  · rename_i z y
    obtain ⟨h1, h2, q⟩ := h
    simp only [RP] at rx
    simp only [RPs, RP] at r
    obtain ⟨_, _, rfl, rfl, rfl⟩ := r
    exact ⟨z, y, rx, rfl, h1, h2, fun r hr => k _ _ _ _ (q r (s.hp.free hr)) (by simp [RP]) (s.new hr (newL hr strs_rps)) (Ev.new hr)⟩
  · exact h.elim
def uInS : R2' := fun x y H Q => match x, y with
  | .str i, .str j => Q (.bl (!(Builtin.Str.occurrences j i 0 j.length 1).isEmpty)) H
  | _, _ => False
theorem w_nS {i j : Str} {H : PHp} {Q : VK'} : uInS (.str i) (.str j) H Q = Q (.bl (!(Builtin.Str.occurrences j i 0 j.length 1).isEmpty)) H := rfl
theorem vr_inS {K : PySem.W.Frag} : VR K B uInS (fun x y H Q => ∃ i j, x = .str i ∧ y = .str j ∧ Q (.bl (!(Builtin.Str.occurrences j i 0 j.length 1).isEmpty)) H) := by
  intro σ' σ H' H x' y' x y Q' Q s rx ry h k
  unfold uInS at h
  split at h
  · rename_i i j
    simp only [RP] at rx ry
    exact ⟨i, j, rx, ry, k _ _ _ _ h (by simp [RP]) s (Ev.refl _ _)⟩
  · exact h.elim
def uStrI' : List PV → PHp → VK' → Prop := arg1 fun x H Q => match x with
  | .int i => i.natAbs.log2 < 1920 ∧ Q (.str (toString i)) H
  | _ => False
theorem w_sti {i : Int} {H : PHp} {Q : VK'} : uStrI' [.int i] H Q = (i.natAbs.log2 < 1920 ∧ Q (.str (toString i)) H) := rfl
theorem vc_strI {K : PySem.W.Frag} : VC K B uStrI' (fun xs H Q => ∃ i, xs = [.int i] ∧ i.natAbs.log2 < 1920 ∧ Q (.str (toString i)) H) := by
  intro σ' σ H' H xs' xs Q' Q s r h k
  obtain ⟨x', x, rfl, rfl, rx, h⟩ := arg1.ex h r
  cases x' with
  | int i =>
    simp only [RP] at rx
    subst rx
    exact ⟨i, rfl, h.1, k _ _ _ _ h.2 (by simp [RP]) s (Ev.refl _ _)⟩
  | _ => exact h.elim
def uMax : List PV → PHp → VK' → Prop := fun xs H Q => match xs with
  | [.int i, .int j] => Q (.int (if j > i then j else i)) H
  | _ => False
theorem w_mx {i j : Int} {H : PHp} {Q : VK'} : uMax [.int i, .int j] H Q = Q (.int (if j > i then j else i)) H := rfl
end U


set_option linter.all false
set_option maxRecDepth 100000
set_option maxHeartbeats 4000000
namespace SP
open PySem
theorem up_get {xs : Array Nat} (h : xs.toList.Pairwise (· < ·)) {i k : Nat} (hik : i < k) (hk : k < xs.size) : xs.getD i 0 < xs.getD k 0 := by
  have e : ∀ i, i < xs.size → xs.getD i 0 = xs.toList[i]?.getD 0 := fun i hi => by
    rw [Array.getElem?_toList, Array.getElem?_eq_getElem hi]; simp [Array.getD, hi]
  rw [e i (by omega), e k hk]
  have := List.pairwise_iff_getElem.mp h i k (by simpa using (by omega : i < xs.size)) (by simpa using hk) hik
  rw [List.getElem?_eq_getElem (by simpa using (by omega : i < xs.size)), List.getElem?_eq_getElem (by simpa using hk)]
  exact this
theorem getD_in {xs : Array Nat} {i d : Nat} (h : i < xs.size) : xs.getD i d = xs.getD i 0 := by simp [Array.getD, h]
theorem below_go {xs : Array Nat} {j : Nat} (so : xs.toList.Pairwise (· < ·)) : ∀ (f lo hi : Nat), hi - lo ≤ f → lo ≤ hi → hi ≤ xs.size → (∀ i, i < lo → xs.getD i 0 < j) → (∀ i, hi ≤ i → i < xs.size → j ≤ xs.getD i 0) →
    SetTable.below.go xs j f lo hi ≤ xs.size ∧ (∀ i, i < SetTable.below.go xs j f lo hi → xs.getD i 0 < j) ∧ (∀ i, SetTable.below.go xs j f lo hi ≤ i → i < xs.size → j ≤ xs.getD i 0)
  | 0, lo, hi, h1, h2, h3, h4, h5 => by
    have e : lo = hi := by omega
    subst e
    unfold SetTable.below.go
    exact ⟨h3, h4, h5⟩
  | f + 1, lo, hi, h1, h2, h3, h4, h5 => by
    unfold SetTable.below.go
    by_cases h : lo < hi
    · rw [if_pos h]
      dsimp only
      have hm : (lo + hi) / 2 < xs.size := by omega
      rw [getD_in hm]
      by_cases q : xs.getD ((lo + hi) / 2) 0 < j
      · rw [if_pos q]
        refine below_go so f _ _ (by omega) (by omega) h3 (fun i hi' => ?_) h5
        by_cases e : i = (lo + hi) / 2
        · subst e; exact q
        · exact Nat.lt_trans (up_get so (show i < (lo + hi) / 2 by omega) hm) q
      · rw [if_neg q]
        refine below_go so f _ _ (by omega) (by omega) (by omega) h4 fun i hi' hs => ?_
        by_cases e : i = (lo + hi) / 2
        · subst e; omega
        · have := up_get so (show (lo + hi) / 2 < i by omega) hs
          omega
    · rw [if_neg h]
      have e : lo = hi := by omega
      subst e
      exact ⟨h3, h4, h5⟩
theorem below_spec {xs : Array Nat} (j : Nat) (so : xs.toList.Pairwise (· < ·)) : SetTable.below xs j ≤ xs.size ∧ (∀ i, i < SetTable.below xs j → xs.getD i 0 < j) ∧ (∀ i, SetTable.below xs j ≤ i → i < xs.size → j ≤ xs.getD i 0) :=
  below_go so xs.size 0 xs.size (by omega) (by omega) (Nat.le_refl _) (fun i h => by omega) (fun i h1 h2 => by omega)
theorem below_at {xs : Array Nat} (so : xs.toList.Pairwise (· < ·)) {k : Nat} (hk : k < xs.size) : SetTable.below xs (xs.getD k 0) = k := by
  obtain ⟨h1, h2, h3⟩ := below_spec (xs.getD k 0) so
  have a : SetTable.below xs (xs.getD k 0) ≤ k := Nat.le_of_not_lt fun q => Nat.lt_irrefl _ (h2 k q)
  by_cases e : SetTable.below xs (xs.getD k 0) = k
  · exact e
  · have q := h3 _ (Nat.le_refl _) (by omega)
    have := up_get so (show SetTable.below xs (xs.getD k 0) < k by omega) hk
    omega
theorem slot_in {t : SetTable} (so : t.place.toList.Pairwise (· < ·)) {k : Nat} (hk : k < t.place.size) : t.slot (t.place.getD k 0) = .live k := by
  unfold SetTable.slot
  dsimp only
  rw [below_at so hk, if_pos]
  rw [Array.getElem?_eq_getElem hk]
  simp [Array.getD, hk]
theorem mem_at {xs : Array Nat} {j : Nat} (h : j ∈ xs.toList) : ∃ k, k < xs.size ∧ xs.getD k 0 = j := by
  obtain ⟨k, hk, e⟩ := List.mem_iff_getElem.mp h
  have hk' : k < xs.size := by simpa using hk
  exact ⟨k, hk', by simpa [Array.getD, hk'] using e⟩
def Rch (mask : Nat) (pl : List Nat) (j : Nat) (h : Int) : Prop := ∃ pre suf, visit mask (10 * SetTable.turns mask) (startM mask h) = pre ++ j :: suf ∧ ∀ x ∈ pre, x ∈ pl
theorem Rch.mono {mask : Nat} {pl pl' : List Nat} {j : Nat} {h : Int} (r : Rch mask pl j h) (k : ∀ x ∈ pl, x ∈ pl') : Rch mask pl' j h := by
  obtain ⟨pre, suf, e, q⟩ := r
  exact ⟨pre, suf, e, fun x hx => k x (q x hx)⟩
theorem go_cand {t : SetTable} {hashAt : Nat → Int} {h : Int} (so : t.place.toList.Pairwise (· < ·)) {k0 : Nat} (hk : k0 < t.place.size) (h0 : hashAt k0 = h) : ∀ (fuel : Nat) (p : SetTable.Probe) (pre suf : List Nat), visit t.mask fuel p = pre ++ t.place.getD k0 0 :: suf →
    (∀ x ∈ pre, x ∈ t.place.toList) → ∃ j i nx, SetTable.probe.go t hashAt h fuel p = some (.candidate j i nx) ∧ i < t.place.size ∧ hashAt i = h
  | 0, p, pre, suf, e, _ => by
    have e' : ([] : List Nat) = pre ++ t.place.getD k0 0 :: suf := e
    cases pre <;> cases e'
  | f + 1, p, pre, suf, e, q => by
    have e' : p.j :: visit t.mask f (advM t.mask p) = pre ++ t.place.getD k0 0 :: suf := e
    unfold SetTable.probe.go
    cases pre with
    | nil =>
      have ej : p.j = t.place.getD k0 0 := (List.cons.inj e').1
      rw [ej, slot_in so hk]
      dsimp only
      rw [if_pos (by rw [h0]; simp)]
      exact ⟨_, _, _, rfl, hk, h0⟩
    | cons x pre =>
      obtain ⟨e1, e2⟩ := List.cons.inj e'
      obtain ⟨k, hk', ek⟩ := mem_at (q p.j (by rw [e1]; exact List.mem_cons_self))
      rw [← ek, slot_in so hk']
      dsimp only
      by_cases c : hashAt k = h
      · rw [if_pos (by rw [c]; simp)]
        exact ⟨_, _, _, rfl, hk', c⟩
      · rw [if_neg (by simpa using c), adv_eq]
        exact go_cand so hk h0 f _ pre suf e2 fun y hy => q y (List.mem_cons_of_mem _ hy)
theorem go_pre {t : SetTable} {hashAt : Nat → Int} {h : Int} (hd : t.dummies = #[]) (so : t.place.toList.Pairwise (· < ·)) {j : Nat} : ∀ (fuel : Nat) (p : SetTable.Probe), p.dummy = none → SetTable.probe.go t hashAt h fuel p = some (.empty j none) →
    j ∉ t.place.toList ∧ ∃ pre suf, visit t.mask fuel p = pre ++ j :: suf ∧ ∀ x ∈ pre, x ∈ t.place.toList
  | 0, p, _, e => by unfold SetTable.probe.go at e; cases e
  | f + 1, p, hp, e => by
    unfold SetTable.probe.go at e
    rcases slot_of hd p.j with es | ⟨i, es, hi, hm⟩
    · rw [es] at e
      dsimp only at e
      have ej : p.j = j := by injection e with e; injection e
      refine ⟨fun hm => ?_, [], visit t.mask f (advM t.mask p), by rw [← ej]; rfl, fun x hx => nomatch hx⟩
      obtain ⟨k, hk, ek⟩ := mem_at hm
      rw [ej, ← ek, slot_in so hk] at es
      cases es
    · rw [es] at e
      dsimp only at e
      by_cases c : (hashAt i == h) = true
      · rw [if_pos c] at e; cases e
      · rw [if_neg c, adv_eq] at e
        obtain ⟨n, pre, suf, e1, e2⟩ := go_pre hd so f (advM t.mask p) (by rw [adv_dummy]; exact hp) e
        refine ⟨n, p.j :: pre, suf, by show p.j :: visit t.mask f (advM t.mask p) = _; rw [e1]; rfl, fun x hx => ?_⟩
        rcases List.mem_cons.mp hx with rfl | hx
        · exact hm
        · exact e2 x hx
structure Tb (t : SetTable) (hl : List Int) : Prop where
  up : t.place.toList.Pairwise (· < ·)
  len : t.place.size = hl.length
  rch : ∀ (k : Nat) (h : Int), hl[k]? = some h → Rch t.mask t.place.toList (t.place.getD k 0) h
theorem Tb.found {t : SetTable} {hl : List Int} {hashAt : Nat → Int} {h : Int} (T : Tb t hl) (hm : h ∈ hl) (ha : ∀ (i : Nat) (x : Int), hl[i]? = some x → hashAt i = x) :
    ∃ j i nx, t.probe hashAt h (t.probeStart h) = some (.candidate j i nx) ∧ i < t.place.size ∧ hashAt i = h := by
  obtain ⟨k, hk, e⟩ := List.mem_iff_getElem.mp hm
  have ek : hl[k]? = some h := by rw [List.getElem?_eq_getElem hk, e]
  obtain ⟨pre, suf, e1, e2⟩ := T.rch k h ek
  unfold SetTable.probe
  exact go_cand T.up (k0 := k) (by rw [T.len]; exact hk) (ha k h ek) _ _ pre suf e1 e2
theorem Tb.put {t : SetTable} {hl : List Int} {hashAt : Nat → Int} {h : Int} {j : Nat} (T : Tb t hl) (hd : t.dummies = #[]) (e : t.probe hashAt h (t.probeStart h) = some (.empty j none)) :
    Tb (t.put j).1 (hl.take (t.put j).2 ++ h :: hl.drop (t.put j).2) := by
  unfold SetTable.probe at e
  obtain ⟨nj, pre, suf, e1, e2⟩ := go_pre hd T.up _ _ rfl e
  obtain ⟨b1, b2, b3⟩ := below_spec j T.up
  have ep : (t.put j).2 = SetTable.below t.place j := rfl
  rw [ep]
  generalize hr : SetTable.below t.place j = r at *
  have epl : (t.put j).1.place = SetTable.insertAt t.place r j := by unfold SetTable.put; dsimp only; rw [hr]
  have etl : (t.put j).1.place.toList = t.place.toList.take r ++ j :: t.place.toList.drop r := by rw [epl]; exact SetTable.toList_insertAt _ _ _
  have em : (t.put j).1.mask = t.mask := rfl
  have sub : ∀ x ∈ t.place.toList, x ∈ (t.put j).1.place.toList := fun x hx => by
    rw [etl]
    rw [← List.take_append_drop r t.place.toList] at hx
    rcases List.mem_append.mp hx with hx | hx
    · exact List.mem_append_left _ hx
    · exact List.mem_append_right _ (List.mem_cons_of_mem _ hx)
  have g0 : ∀ (xs : Array Nat) (i : Nat), xs.getD i 0 = xs.toList[i]?.getD 0 := fun xs i => by simp [Array.getD]; split <;> simp_all
  have rl : r ≤ t.place.toList.length := by simpa using b1
  have r2 : r ≤ hl.length := by rw [← T.len]; exact b1
  refine ⟨?_, ?_, fun k x hx => ?_⟩
  · rw [etl]
    refine List.pairwise_append.mpr ⟨T.up.sublist (List.take_sublist _ _), List.pairwise_cons.mpr ⟨fun y hy => ?_, T.up.sublist (List.drop_sublist _ _)⟩, fun a ha b hb => ?_⟩
    · obtain ⟨i, hi, ei⟩ := List.mem_iff_getElem.mp hy
      rw [List.getElem_drop] at ei
      rw [List.length_drop] at hi
      have hs : r + i < t.place.size := by rw [← Array.length_toList]; omega
      have := b3 (r + i) (by omega) hs
      rw [g0, List.getElem?_eq_getElem (by simpa using hs), ei] at this
      have hne : y ≠ j := fun q => nj (by rw [← q, ← ei]; exact List.getElem_mem _)
      have : j ≤ y := this
      omega
    · have haj : a < j := by
        obtain ⟨i, hi, ei⟩ := List.mem_iff_getElem.mp ha
        rw [List.getElem_take] at ei
        rw [List.length_take] at hi
        have := b2 i (by omega)
        rw [g0, List.getElem?_eq_getElem (by omega), ei] at this
        exact this
      rcases List.mem_cons.mp hb with rfl | hb
      · exact haj
      · obtain ⟨i, hi, ei⟩ := List.mem_iff_getElem.mp hb
        rw [List.getElem_drop] at ei
        rw [List.length_drop] at hi
        have hs : r + i < t.place.size := by rw [← Array.length_toList]; omega
        have := b3 (r + i) (by omega) hs
        rw [g0, List.getElem?_eq_getElem (by simpa using hs), ei] at this
        have : j ≤ b := this
        omega
  · rw [← Array.length_toList, etl]
    simp only [List.length_append, List.length_cons, List.length_take, List.length_drop, Array.length_toList, T.len]
  · rw [em, g0, etl]
    have lt : (hl.take r).length = r := by rw [List.length_take]; omega
    have lt2 : (t.place.toList.take r).length = r := by rw [List.length_take]; omega
    rcases Nat.lt_trichotomy k r with hk | hk | hk
    · rw [List.getElem?_append_left (by omega), List.getElem?_take_of_lt hk] at hx
      rw [List.getElem?_append_left (by omega), List.getElem?_take_of_lt hk]
      have := T.rch k x hx
      rw [g0] at this
      rw [← etl]
      exact this.mono sub
    · subst hk
      rw [List.getElem?_append_right (by omega), lt, Nat.sub_self] at hx
      rw [List.getElem?_append_right (by omega), lt2, Nat.sub_self]
      have : h = x := by simpa using hx
      subst this
      rw [← etl]
      exact ⟨pre, suf, e1, fun y hy => sub y (e2 y hy)⟩
    · obtain ⟨m, rfl⟩ : ∃ m, k = r + (m + 1) := ⟨k - r - 1, by omega⟩
      rw [List.getElem?_append_right (by omega), lt, Nat.add_sub_cancel_left, List.getElem?_cons_succ, List.getElem?_drop] at hx
      rw [List.getElem?_append_right (by omega), lt2, Nat.add_sub_cancel_left, List.getElem?_cons_succ, List.getElem?_drop]
      have := T.rch (r + m) x hx
      rw [g0] at this
      rw [← etl]
      exact this.mono sub
theorem runs_lt : ∀ h ∈ hs, ∀ x ∈ runs 31 46 (SetTable.bits h % 32) (SetTable.bits h), x < 32 := by decide +kernel
theorem runs_visit : ∀ h ∈ hs, (runs 31 46 (SetTable.bits h % 32) (SetTable.bits h)).isPrefixOf (visit 31 460 (startM 31 h)) = true := by decide +kernel
theorem free_pre {mask : Nat} {owner : Array (Option Nat)} {j : Nat} : ∀ (f i pt : Nat), SetTable.layClean.free mask owner f i pt = some j → (owner.getD j (some 0)).isNone = true ∧ ∃ pre suf, runs mask f i pt = pre ++ j :: suf ∧ ∀ x ∈ pre, (owner.getD x (some 0)).isNone = false
  | 0, _, _, e => by unfold SetTable.layClean.free at e; cases e
  | f + 1, i, pt, e => by
    unfold SetTable.layClean.free at e
    cases q : (List.range (SetTable.runEnd mask i + 1 - i)).find? fun k => (owner.getD (i + k) (some 0)).isNone with
    | some k =>
      rw [q] at e
      dsimp only at e
      have ej : i + k = j := Option.some.inj e
      obtain ⟨hk, as, bs, el, hb⟩ := List.find?_eq_some_iff_append.mp q
      rw [ej] at hk
      refine ⟨hk, as.map (i + ·), bs.map (i + ·) ++ runs mask f (SetTable.leap mask i pt).1 (SetTable.leap mask i pt).2, ?_, fun x hx => ?_⟩
      · show ((List.range (SetTable.runEnd mask i + 1 - i)).map (i + ·)) ++ _ = _
        rw [el, List.map_append, List.map_cons, ej, List.append_assoc, List.cons_append]
      · obtain ⟨y, hy, rfl⟩ := List.mem_map.mp hx
        simpa using hb y hy
    | none =>
      rw [q] at e
      dsimp only at e
      obtain ⟨h1, pre, suf, e1, e2⟩ := free_pre f _ _ e
      refine ⟨h1, ((List.range (SetTable.runEnd mask i + 1 - i)).map (i + ·)) ++ pre, suf, ?_, fun x hx => ?_⟩
      · show ((List.range (SetTable.runEnd mask i + 1 - i)).map (i + ·)) ++ _ = _
        rw [e1, List.append_assoc]
      · rcases List.mem_append.mp hx with hx | hx
        · obtain ⟨y, hy, rfl⟩ := List.mem_map.mp hx
          exact Bool.eq_false_iff.mpr (List.find?_eq_none.mp q y hy)
        · exact e2 x hx
def OwR (owner : Array (Option Nat)) (hl : List Int) : Prop := ∀ (j k : Nat), owner[j]? = some (some k) → ∃ h, hl[k]? = some h ∧ h ∈ hs ∧ ∃ pre suf, runs 31 46 (SetTable.bits h % 32) (SetTable.bits h) = pre ++ j :: suf ∧ ∀ x ∈ pre, ∃ m, owner[x]? = some (some m)
theorem own_fold : ∀ (l : List Int) (owner : Array (Option Nat)) (dn : List Int) (ow : Array (Option Nat)) (k' : Nat), (∀ h ∈ l, h ∈ hs) → owner.size = 32 → OwR owner dn → l.foldl (layStep 31) (some (owner, dn.length)) = some (ow, k') → OwR ow (dn ++ l) ∧ ow.size = 32
  | [], owner, dn, ow, k', _, hz, h, e => by
    have e' : some (owner, dn.length) = some (ow, k') := e
    cases e'
    rw [List.append_nil]; exact ⟨h, hz⟩
  | h :: l, owner, dn, ow, k', hh, hz, ho, e => by
    rw [List.foldl_cons] at e
    cases q : SetTable.layClean.free 31 owner (SetTable.turns 31) (SetTable.bits h % 32) (SetTable.bits h) with
    | none =>
      have en : layStep 31 (some (owner, dn.length)) h = none := by
        unfold layStep
        show (SetTable.layClean.free 31 owner (SetTable.turns 31) (SetTable.bits h % 32) (SetTable.bits h) >>= _) = _
        rw [q]; rfl
      rw [en] at e
      have stay : ∀ (l : List Int), l.foldl (layStep 31) none = none := fun l => by
        induction l with
        | nil => rfl
        | cons a l ih => rw [List.foldl_cons]; exact ih
      rw [stay] at e; cases e
    | some j =>
      have en : layStep 31 (some (owner, dn.length)) h = some (owner.setIfInBounds j (some dn.length), dn.length + 1) := by
        unfold layStep
        show (SetTable.layClean.free 31 owner (SetTable.turns 31) (SetTable.bits h % 32) (SetTable.bits h) >>= _) = _
        rw [q]; rfl
      rw [en] at e
      obtain ⟨hn, pre, suf, e1, e2⟩ := free_pre _ _ _ q
      have hin := hh h List.mem_cons_self
      have e1' : runs 31 46 (SetTable.bits h % 32) (SetTable.bits h) = pre ++ j :: suf := e1
      have hj : j < owner.size := by rw [hz]; exact runs_lt h hin j (by rw [e1']; simp)
      have sm : ∀ x m, owner[x]? = some (some m) → (owner.setIfInBounds j (some dn.length))[x]? = some (some m) := fun x m hx => by
        by_cases c : j = x
        · subst c
          have : (owner.getD j (some 0)).isNone = false := by
            rw [Array.getElem?_eq_getElem hj] at hx
            simp only [Array.getD, hj, dif_pos]
            have hx' := Option.some.inj hx
            simp [hx']
          rw [this] at hn; cases hn
        · rw [Array.getElem?_setIfInBounds_ne c]; exact hx
      have ho' : OwR (owner.setIfInBounds j (some dn.length)) (dn ++ [h]) := by
        intro x k hx
        by_cases c : j = x
        · subst c
          rw [Array.getElem?_setIfInBounds_self_of_lt hj] at hx
          have ek : dn.length = k := by simpa using hx
          subst ek
          refine ⟨h, by simp, hin, pre, suf, e1', fun y hy => ?_⟩
          have hy2 : y < owner.size := by rw [hz]; exact runs_lt h hin y (by rw [e1']; exact List.mem_append_left _ hy)
          have := e2 y hy
          simp only [Array.getD, hy2, dif_pos] at this
          cases w : owner[y] with
          | none => simp [w] at this
          | some m => exact ⟨m, sm y m (by rw [Array.getElem?_eq_getElem hy2, w])⟩
        · rw [Array.getElem?_setIfInBounds_ne c] at hx
          obtain ⟨h', a1, a2, pre', suf', a3, a4⟩ := ho x k hx
          refine ⟨h', ?_, a2, pre', suf', a3, fun y hy => ?_⟩
          · rw [List.getElem?_append_left (List.getElem?_eq_some_iff.mp a1).1]; exact a1
          · obtain ⟨m, hm⟩ := a4 y hy
            exact ⟨m, sm y m hm⟩
      have := own_fold l (owner.setIfInBounds j (some dn.length)) (dn ++ [h]) ow k' (fun x hx => hh x (List.mem_cons_of_mem _ hx)) (by simpa using hz) ho' (by rw [List.length_append]; exact e)
      rw [List.append_assoc] at this
      exact this
theorem relaid_tb {t t' : SetTable} {order : Array Nat} {hashes : Array Int} {wanted : Nat} (hw : SetTable.sizeAbove wanted = 32) (hh : ∀ h ∈ hashes.toList, h ∈ hs) (e : t.relaid hashes wanted = some (t', order)) :
    Tb t' (order.toList.map fun k => hashes.toList.getD k 0) := by
  unfold SetTable.relaid SetTable.laid at e
  rw [hw] at e
  cases q : SetTable.layClean 31 hashes with
  | none =>
    have : (SetTable.layClean 31 hashes >>= _) = some (t', order) := e
    rw [q] at this; cases this
  | some ow =>
    have e' : (SetTable.layClean 31 hashes >>= _) = some (t', order) := e
    rw [q] at e'
    have e2 := Option.some.inj e'
    have et := congrArg Prod.fst e2
    have eo := congrArg Prod.snd e2
    have hf : ∃ k', hashes.toList.foldl (layStep 31) (some (Array.replicate 32 none, 0)) = some (ow, k') := by
      unfold SetTable.layClean at q
      rw [← Array.foldl_toList] at q
      have q' : Option.map (·.1) (hashes.toList.foldl (layStep 31) (some (Array.replicate 32 none, 0))) = some ow := q
      cases w : hashes.toList.foldl (layStep 31) (some (Array.replicate 32 none, 0)) with
      | none => rw [w] at q'; cases q'
      | some z =>
        rw [w] at q'
        obtain ⟨z1, z2⟩ := z
        have : z1 = ow := Option.some.inj q'
        subst this
        exact ⟨z2, rfl⟩
    obtain ⟨k', hf⟩ := hf
    obtain ⟨R, hz⟩ := own_fold hashes.toList (Array.replicate 32 none) [] ow k' hh (by simp) (fun j k hjk => by
      rw [Array.getElem?_replicate] at hjk
      split at hjk <;> cases hjk) hf
    rw [List.nil_append] at R
    generalize hl : ((List.range 32).filterMap fun j => (ow.getD j none).map ((j, ·) : Nat → Nat × Nat)) = live at *
    have ep : t'.place = (live.map (·.1)).toArray := by
      have := congrArg SetTable.place et
      exact this.symm.trans (by rw [← hl])
    have em : t'.mask = 31 := (congrArg SetTable.mask et).symm
    have eo' : order = (live.map (·.2)).toArray := eo.symm.trans (by rw [← hl])
    have mem : ∀ q, q ∈ live → ow[q.1]? = some (some q.2) := fun q hq => by
      rw [← hl] at hq
      obtain ⟨j, hj, e⟩ := List.mem_filterMap.mp hq
      have hj' : j < ow.size := by rw [hz]; exact List.mem_range.mp hj
      simp only [Array.getD, hj', dif_pos] at e
      cases w : ow[j] with
      | none => simp [w] at e
      | some k =>
        have : q = (j, k) := by
          have : (some k).map ((j, ·) : Nat → Nat × Nat) = some q := by rw [← w]; exact e
          exact (Option.some.inj this).symm
        subst this
        show ow[j]? = some (some k)
        rw [Array.getElem?_eq_getElem hj', w]
    have mem2 : ∀ x m, ow[x]? = some (some m) → x ∈ live.map (·.1) := fun x m hx => by
      have hxl : x < ow.size := by
        by_cases c : x < ow.size
        · exact c
        · rw [Array.getElem?_eq_none (by omega)] at hx; cases hx
      refine List.mem_map.mpr ⟨(x, m), ?_, rfl⟩
      rw [← hl]
      refine List.mem_filterMap.mpr ⟨x, List.mem_range.mpr (by rw [← hz]; exact hxl), ?_⟩
      rw [Array.getElem?_eq_getElem hxl] at hx
      have : ow.getD x none = some m := by simpa [Array.getD, hxl] using hx
      rw [this]; rfl
    refine ⟨?_, ?_, fun k h hk => ?_⟩
    · rw [ep, List.toList_toArray]
      have sl : (live.map (·.1)).Sublist (List.range 32) := by
        rw [← hl, List.map_filterMap]
        have gen : ∀ l : List Nat, (l.filterMap fun j => ((ow.getD j none).map ((j, ·) : Nat → Nat × Nat)).map (·.1)).Sublist l := by
          intro l
          induction l with
          | nil => exact List.Sublist.refl _
          | cons a l ih =>
            cases w : ow.getD a none with
            | none => rw [List.filterMap_cons_none (by rw [w]; rfl)]; exact ih.cons a
            | some k => rw [List.filterMap_cons_some (b := a) (by rw [w]; rfl)]; exact ih.cons₂ a
        exact gen _
      exact List.Pairwise.sublist sl List.pairwise_lt_range
    · rw [ep, eo', List.size_toArray]; simp
    · rw [eo', List.toList_toArray, List.map_map, List.getElem?_map] at hk
      cases w : live[k]? with
      | none => rw [w] at hk; cases hk
      | some q =>
        rw [w] at hk
        have hq := mem q (List.mem_of_getElem? w)
        obtain ⟨h', a1, a2, pre, suf, a3, a4⟩ := R _ _ hq
        have eh : h' = h := by
          have : hashes.toList.getD q.2 0 = h := Option.some.inj hk
          rw [List.getD_eq_getElem?_getD, a1] at this
          exact this
        subst eh
        have epk : t'.place.getD k 0 = q.1 := by
          rw [ep]
          have : (live.map (·.1))[k]? = some q.1 := by rw [List.getElem?_map, w]; rfl
          obtain ⟨hk', ek⟩ := List.getElem?_eq_some_iff.mp this
          simp only [Array.getD, List.size_toArray, hk', dif_pos]
          simpa using ek
        obtain ⟨rest, er⟩ := List.isPrefixOf_iff_prefix.mp (runs_visit h' a2)
        refine ⟨pre, suf ++ rest, ?_, fun x hx => ?_⟩
        · rw [em, epk]
          show visit 31 460 (startM 31 h') = _
          rw [← er, a3, List.append_assoc, List.cons_append]
        · obtain ⟨m, hm⟩ := a4 x hx
          rw [ep, List.toList_toArray]
          exact mem2 x m hm
end SP


set_option linter.all false
namespace DM
abbrev P2 := Int × Int
def pk (p : P2) : Int := 6 * p.1 + p.2
structure Good (c : Int) (l : List P2) : Prop where
  nd : l.Nodup
  lo : ∀ p ∈ l, 0 ≤ p.1 ∧ p.1 < p.2 ∧ p.2 < c
theorem sorted_eq {α : Type} (k : α → Int) : ∀ {a b : List α}, a.Pairwise (fun x y => k x < k y) → b.Pairwise (fun x y => k x < k y) → (∀ x, x ∈ a ↔ x ∈ b) → a = b
  | [], [], _, _, _ => rfl
  | [], y :: b, _, _, h => by have := (h y).mpr List.mem_cons_self; simp at this
  | x :: a, [], _, _, h => by have := (h x).mp List.mem_cons_self; simp at this
  | x :: a, y :: b, ha, hb, h => by
    obtain ⟨h1, h2⟩ := List.pairwise_cons.mp ha
    obtain ⟨g1, g2⟩ := List.pairwise_cons.mp hb
    have e : x = y := by
      rcases List.mem_cons.mp ((h x).mp List.mem_cons_self) with e | m
      · exact e
      · rcases List.mem_cons.mp ((h y).mpr List.mem_cons_self) with e | m'
        · exact e.symm
        · have a1 := g1 x m
          have a2 := h1 y m'
          omega
    subst e
    congr 1
    refine sorted_eq k h2 g2 fun z => ⟨fun m => ?_, fun m => ?_⟩
    · rcases List.mem_cons.mp ((h z).mp (List.mem_cons_of_mem _ m)) with e | m'
      · subst e; have := h1 z m; omega
      · exact m'
    · rcases List.mem_cons.mp ((h z).mpr (List.mem_cons_of_mem _ m)) with e | m'
      · subst e; have := g1 z m; omega
      · exact m'
theorem perm_eq {a b l : List P2} (ha : a.Perm l) (sa : a.Pairwise (fun x y => pk x < pk y)) (hb : b.Perm l) (sb : b.Pairwise (fun x y => pk x < pk y)) : a = b :=
  sorted_eq pk sa sb fun x => ha.mem_iff.trans hb.mem_iff.symm
theorem Good.perm {c : Int} {l m : List P2} (g : Good c l) (h : m.Perm l) : Good c m := ⟨h.nodup_iff.mpr g.nd, fun p hp => g.lo p (h.mem_iff.mp hp)⟩
theorem Good.prs {c : Int} {l : List P2} (g : Good c l) (hc : c ≤ 6) : ∀ p ∈ l, p ∈ SP.prs := fun p hp => by
  have := g.lo p hp
  exact SP.mem_prs (u := p.1) (v := p.2) this.1 this.2.1 (by omega)
theorem nodup_le {α : Type} [BEq α] [LawfulBEq α] {l m : List α} (nd : l.Nodup) (h : ∀ x ∈ l, x ∈ m) : l.length ≤ m.length := by
  induction l generalizing m with
  | nil => simp
  | cons x l ih =>
    obtain ⟨h1, h2⟩ := List.nodup_cons.mp nd
    have hx := h x List.mem_cons_self
    have := ih (m := m.erase x) h2 fun y hy => (List.mem_erase_of_ne (by rintro rfl; exact h1 hy)).mpr (h y (List.mem_cons_of_mem _ hy))
    have e := List.length_erase_of_mem hx
    have : 0 < m.length := List.length_pos_of_mem hx
    simp only [List.length_cons]
    omega
theorem Good.len {c : Int} {l : List P2} (g : Good c l) (hc : c ≤ 6) : l.length ≤ 15 := nodup_le g.nd (g.prs hc)
def tri : Nat → Nat
  | 0 => 0
  | n + 1 => tri n + n
theorem tri_le : ∀ v, v < 6 → tri v + v ≤ 15 := by decide
end DM


set_option linter.all false
set_option maxRecDepth 100000
set_option maxHeartbeats 4000000
namespace SP
open PySem PyProof.Rows
section
variable {prog : Program} {w : World} {A : Around} {E : Value → Shared → Prop} {s : Shared}
theorem oac_pair {a : Addr} {u v : Int} {Q : Bool → Shared → Prop} (hk : IsTupleKey (intKind prog w) s.heap [u, v] a) (h : Q false s) : wpAny (model prog w) A (ofAClassStatement 8 (.ref a)) Q E s := by
  have hT := hk.typeIs
  obtain ⟨o, items, n, ho, hc, hd, hi⟩ := hk
  have hall := ints_of hi
  unfold ofAClassStatement
  refine wpAny_bind (wpAny_typeOf hT ?_)
  dsimp only
  rw [if_pos (by decide)]
  refine wpAny_bind (wpAny_pure ?_)
  simp only [Bool.not_true, Bool.false_eq_true, if_false]
  refine wpAny_bind (wpAny_seqItems ho hd ?_)
  dsimp only
  refine wpAny_bind ?_
  rw [← Array.forIn_toList]
  refine wpAny_forIn_list _ (fun rest r s' => r.1 = none ∧ s' = s ∧ ∀ v ∈ rest, ∃ i t, v = .int i t) _ ?_ ?_ _ _ ⟨rfl, rfl, hall⟩
  · rintro v rest r s' ⟨hr, rfl, hall⟩
    obtain ⟨i, t, rfl⟩ := hall v List.mem_cons_self
    show wpAny _ _ (pure false >>= _) _ _ _
    refine wpAny_bind (wpAny_pure ?_)
    simp only [Bool.false_eq_true, if_false]
    exact wpAny_pure ⟨rfl, rfl, fun u hu' => hall u (List.mem_cons_of_mem _ hu')⟩
  · rintro ⟨r1, r2⟩ s' ⟨hr, rfl, _⟩
    simp only at hr
    subst hr
    exact wpAny_pure h
theorem seen_pair {a : Addr} {u v : Int} {ys : List Value} {Q : Bool → Shared → Prop} (hk : IsTupleKey (intKind prog w) s.heap [u, v] a) (hy : ∀ y ∈ ys, ∃ b p q, y = .ref b ∧ IsTupleKey (intKind prog w) s.heap [p, q] b) (h : Q false s) :
    wpAny (model prog w) A (searchCouldBeSeen (.ref a) ys) Q E s := by
  unfold searchCouldBeSeen
  refine wpAny_bind ?_
  refine wpAny_forIn_list _ (fun rest r s' => r.1 = none ∧ s' = s ∧ ∀ y ∈ rest, ∃ b p q, y = .ref b ∧ IsTupleKey (intKind prog w) s.heap [p, q] b) _ ?_ ?_ _ _ ⟨rfl, rfl, hy⟩
  · rintro y rest r s' ⟨hr, rfl, hall⟩
    obtain ⟨b, p, q, rfl, hb⟩ := hall y List.mem_cons_self
    have rest' : ∀ y ∈ rest, ∃ b p q, y = Value.ref b ∧ IsTupleKey (intKind prog w) s'.heap [p, q] b := fun y hy => hall y (List.mem_cons_of_mem _ hy)
    dsimp only
    by_cases c : (a == b) = true
    · rw [if_pos (by rw [c]; rfl)]
      exact wpAny_pure ⟨rfl, rfl, rest'⟩
    · rw [if_neg (by rw [Bool.eq_false_iff.mpr c]; simp [carriedByValue])]
      refine wpAny_bind (wpAny_eqIsQuiet_tuple hk ?_)
      simp only [Bool.not_true, Bool.false_eq_true, if_false]
      refine wpAny_bind (wpAny_eqIsQuiet_tuple hb ?_)
      simp only [Bool.not_true, Bool.false_eq_true, if_false]
      refine wpAny_bind (oac_pair hk ?_)
      simp only [Bool.false_eq_true, if_false]
      refine wpAny_bind (oac_pair hb ?_)
      simp only [Bool.false_eq_true, if_false]
      exact wpAny_pure ⟨rfl, rfl, rest'⟩
  · rintro ⟨r1, r2⟩ s' ⟨hr, rfl, _⟩
    simp only at hr
    subst hr
    exact wpAny_pure h
structure KSet (prog : Program) (w : World) (h : Heap) (S : Addr) (dn : List (Int × Int)) : Prop where
  is : ∃ es ep t, h.get? S = some { cls := .type "set", dict := none, data := .set es ep t } ∧ t.dummies = #[] ∧ t.place.size = es.size ∧ es.size = dn.length ∧ ((t.mask = 7 ∧ es.size ≤ 4) ∨ (t.mask = 31 ∧ es.size ≤ 18)) ∧
    Tb t (es.toList.map (·.1)) ∧ (∀ e ∈ es.toList, ∃ p ∈ dn, ∃ a, e = (hp p, .ref a) ∧ IsTupleKey (intKind prog w) h [p.1, p.2] a) ∧ ∀ p ∈ dn, ∃ e ∈ es.toList, e.1 = hp p
theorem KSet.keep {h h' : Heap} {S : Addr} {dn : List (Int × Int)} (k : KSet prog w h S dn) (hs : ∀ o, h.get? S = some o → h'.get? S = some o) (kp : ∀ a p, IsTupleKey (intKind prog w) h p a → IsTupleKey (intKind prog w) h' p a) : KSet prog w h' S dn := by
  obtain ⟨es, ep, t, ho, a1, a2, a3, a4, a5, a6, a7⟩ := k.is
  refine ⟨es, ep, t, hs _ ho, a1, a2, a3, a4, a5, fun e he => ?_, a7⟩
  obtain ⟨p, hp', a, e1, e2⟩ := a6 e he
  exact ⟨p, hp', a, e1, kp a _ e2⟩
theorem hashAt_eq {es : Array (Int × Value)} (i : Nat) (x : Int) (h : (es.toList.map (·.1))[i]? = some x) : (es[i]?.map (·.1)).getD 0 = x := by
  rw [List.getElem?_map, Array.getElem?_toList] at h
  rw [h]; rfl
theorem setAdd_old {S a : Addr} {dn : List (Int × Int)} {u v : Int} {Q : Bool → Shared → Prop} (hu : A.units < cLine) (hk : IsTupleKey (intKind prog w) s.heap [u, v] a) (hP : KSet prog w s.heap S dn) (hin : (u, v) ∈ prs) (hd : ∀ p ∈ dn, p ∈ prs)
    (hn : (u, v) ∈ dn) (h : ∀ tk, Q false { s with toks := tk }) : wpAny (model prog w) A (setAdd S (.ref a)) Q E s := by
  obtain ⟨es, ep, t, ho, htd, hts, hes, hm, hT, hh, hb⟩ := hP.is
  unfold setAdd
  refine wpAny_holding (wpAny_bind (wpAny_pyHash_tuple hu hk ?_))
  rw [hash_pair u v hin]
  generalize hs' : ({ s with toks := s.toks + ([u, v].length + 1) } : Shared) = s1
  have e1 : s1.heap = s.heap := by rw [← hs']
  have ho1 : s1.heap.get? S = some { cls := .type "set", dict := none, data := .set es ep t } := by rw [e1]; exact ho
  have hk1 : IsTupleKey (intKind prog w) s1.heap [u, v] a := by rw [e1]; exact hk
  have hmk : es.size ≤ t.mask := by omega
  have hf : t.fits es.size = true := fits_of htd hts hmk
  unfold setAddHashed
  refine wpAny_holding ?_
  show wpAny _ _ (setAddHashedIn S (.ref a) (hp (u, v)) (99999 + 1)) _ _ _
  unfold setAddHashedIn
  refine wpAny_bind (wpAny_setState_of ho1 rfl hf ?_)
  dsimp only
  have hbs : byScan (.ref a) es = false := rfl
  rw [hbs]
  simp only [Bool.false_eq_true, if_false]
  obtain ⟨e0, he0, eh0⟩ := hb _ hn
  obtain ⟨j, i, nx, hj, hi, hx⟩ := hT.found (hashAt := fun i => (es[i]?.map (·.1)).getD 0) (h := hp (u, v)) (List.mem_map.mpr ⟨e0, he0, eh0⟩) hashAt_eq
  rw [hts] at hi
  unfold setSearch
  show wpAny _ _ (setSearchFrom S (.ref a) (hp (u, v)) true (99999 + 1) none >>= _) _ _ _
  unfold setSearchFrom
  refine wpAny_bind (wpAny_bind (wpAny_setState_of ho1 rfl hf ?_))
  dsimp only
  have hgw : t.gaveWay = false := by
    unfold SetTable.gaveWay
    rcases hm with hm | hm <;> rw [hm.1] <;> rfl
  rw [hgw, if_neg (by decide)]
  generalize hX : t.probe _ (hp (u, v)) (none.getD (t.probeStart (hp (u, v)))) = X0
  have hX' : X0 = some (.candidate j i nx) := by rw [← hX]; exact hj
  subst hX'
  dsimp only
  have hei : es[i]? = some es[i] := Array.getElem?_eq_getElem hi
  obtain ⟨p, hpd, b, eb, kb⟩ := hh es[i] (Array.getElem_mem_toList hi)
  have epq : p = (u, v) := by
    simp only [hei] at hx
    have q : (es[i]).1 = hp (u, v) := hx
    rw [eb] at q
    exact hp_inj p (hd p hpd) _ hin q
  subst epq
  have kb1 : IsTupleKey (intKind prog w) s1.heap [u, v] b := by rw [e1]; exact kb
  by_cases hl : (!t.led) = true
  · rw [if_pos hl]
    refine wpAny_bind (seen_pair hk1 (fun y hy => ?_) ?_)
    · obtain ⟨e, he, rfl⟩ := List.mem_map.mp hy
      have he' : e ∈ es.toList := by
        have := Array.mem_toList_iff.mp he
        exact Array.mem_toList_iff.mpr (Array.mem_filter.mp this).1
      obtain ⟨p, _, b', eb', kb'⟩ := hh e he'
      rw [eb']
      exact ⟨b', _, _, rfl, by rw [e1]; exact kb'⟩
    simp only [Bool.false_eq_true, if_false]
    rw [hei, eb]
    dsimp only
    refine wpAny_bind (wpAny_holding (wpAny_eqBool_tuple hu kb1 hk1 ?_))
    rw [decide_eq_true rfl]
    refine wpAny_bind (wpAny_setState_of ho1 rfl hf ?_)
    dsimp only
    simp only [Bool.and_self, if_true]
    refine wpAny_pure (wpAny_pure ?_)
    rw [← hs']
    exact h _
  · rw [if_neg hl]
    rw [hei, eb]
    dsimp only
    refine wpAny_bind (wpAny_holding (wpAny_eqBool_tuple hu kb1 hk1 ?_))
    rw [decide_eq_true rfl]
    refine wpAny_bind (wpAny_setState_of ho1 rfl hf ?_)
    dsimp only
    simp only [Bool.and_self, if_true]
    refine wpAny_pure (wpAny_pure ?_)
    rw [← hs']
    exact h _
theorem ord_map {es : Array (Int × Value)} : ∀ {l : List Nat}, (∀ k ∈ l, k < es.size) → (l.filterMap (es[·]?)).map (·.1) = l.map fun k => ((es.map (·.1)).toList.getD k 0)
  | [], _ => rfl
  | k :: l, h => by
    have hk := h k List.mem_cons_self
    have ih := ord_map (l := l) fun x hx => h x (List.mem_cons_of_mem _ hx)
    rw [List.filterMap_cons_some (b := es[k]) (Array.getElem?_eq_getElem hk), List.map_cons, List.map_cons, ih]
    congr 1
    simp [List.getD_eq_getElem?_getD, hk]
theorem setAdd_new {S a : Addr} {done : List (Int × Int)} {u v : Int} {Q : Bool → Shared → Prop} (hu : A.units < cLine) (hk : IsTupleKey (intKind prog w) s.heap [u, v] a) (hP : KSet prog w s.heap S done) (hin : (u, v) ∈ prs) (hd : ∀ p ∈ done, p ∈ prs)
    (hn : (u, v) ∉ done) (hlen : done.length < 15)
    (h : ∀ h' tk, Heap.SameBut S s.heap h' → KSet prog w h' S (done ++ [(u, v)]) → Q true { s with heap := h', toks := tk }) : wpAny (model prog w) A (setAdd S (.ref a)) Q E s := by
  obtain ⟨es, ep, t, ho, htd, hts, hes, hm, hT, hh0, hb⟩ := hP.is
  have hh : ∀ e ∈ es.toList, ∃ p ∈ done, e.1 = hp p := fun e he => by
    obtain ⟨p, h1, b, h2, _⟩ := hh0 e he
    exact ⟨p, h1, by rw [h2]⟩
  have hsa : S ≠ a := by
    rintro rfl
    obtain ⟨o, items, n, ho', hc, _⟩ := hk
    rw [ho] at ho'; cases ho'; exact absurd (show Value.type "set" = Value.type "tuple" from hc) (by decide)
  unfold setAdd
  refine wpAny_holding (wpAny_bind (wpAny_pyHash_tuple hu hk ?_))
  rw [hash_pair u v hin]
  generalize hs' : ({ s with toks := s.toks + ([u, v].length + 1) } : Shared) = s1
  have e1 : s1.heap = s.heap := by rw [← hs']
  have ho1 : s1.heap.get? S = some { cls := .type "set", dict := none, data := .set es ep t } := by rw [e1]; exact ho
  have hk1 : IsTupleKey (intKind prog w) s1.heap [u, v] a := by rw [e1]; exact hk
  have hmk : es.size ≤ t.mask := by omega
  have hf : t.fits es.size = true := fits_of htd hts hmk
  unfold setAddHashed
  refine wpAny_holding ?_
  show wpAny _ _ (setAddHashedIn S (.ref a) (hp (u, v)) (99999 + 1)) _ _ _
  unfold setAddHashedIn
  refine wpAny_bind (wpAny_setState_of ho1 rfl hf ?_)
  dsimp only
  have hbs : byScan (.ref a) es = false := rfl
  rw [hbs]
  simp only [Bool.false_eq_true, if_false]
  obtain ⟨j, hj⟩ := probe_ok (t := t) (hashAt := fun i => (es[i]?.map (·.1)).getD 0) (h := hp (u, v)) (hp_mem hin) htd (fun i hi q => by
    rw [hts] at hi
    rw [Array.getElem?_eq_getElem hi] at q
    have q' : (es[i]).1 = hp (u, v) := q
    obtain ⟨p, hpd, e⟩ := hh es[i] (Array.getElem_mem_toList hi)
    rw [e] at q'
    exact hn (hp_inj p (hd p hpd) _ hin q' ▸ hpd)) (by omega) (by omega)
  unfold setSearch
  show wpAny _ _ (setSearchFrom S (.ref a) (hp (u, v)) true (99999 + 1) none >>= _) _ _ _
  unfold setSearchFrom
  refine wpAny_bind (wpAny_bind (wpAny_setState_of ho1 rfl hf ?_))
  dsimp only
  have hgw : t.gaveWay = false := by
    unfold SetTable.gaveWay
    rcases hm with hm | hm <;> rw [hm.1] <;> rfl
  rw [hgw, if_neg (by decide)]
  generalize hX : t.probe _ (hp (u, v)) (none.getD (t.probeStart (hp (u, v)))) = X0
  have hX' : X0 = some (.empty j none) := by rw [← hX]; exact hj
  subst hX'
  dsimp only
  refine wpAny_pure ?_
  dsimp only
  refine wpAny_bind (wpAny_setState_of ho1 rfl hf ?_)
  dsimp only
  -- the new table
  have hps := put_size t j
  have hpd := put_dummies htd j
  obtain ⟨hpm, hpp⟩ := put_rest t j
  have hip := insertAt_perm es (t.put j).2 (hp (u, v), Value.ref a)
  have his : (SetTable.insertAt es (t.put j).2 (hp (u, v), Value.ref a)).size = es.size + 1 := by
    have := hip.length_eq
    simpa using this
  have hash' : ∀ e ∈ (SetTable.insertAt es (t.put j).2 (hp (u, v), Value.ref a)).toList, ∃ p ∈ done ++ [(u, v)], e.1 = hp p := fun e he => by
    rcases List.mem_cons.mp (hip.mem_iff.mp he) with rfl | he
    · exact ⟨(u, v), by simp, rfl⟩
    · obtain ⟨p, h1, h2⟩ := hh e he
      exact ⟨p, List.mem_append_left _ h1, h2⟩
  have keys : ∀ h', Heap.SameBut S s.heap h' → ∀ e ∈ (SetTable.insertAt es (t.put j).2 (hp (u, v), Value.ref a)).toList, ∃ p ∈ done ++ [(u, v)], ∃ b, e = (hp p, Value.ref b) ∧ IsTupleKey (intKind prog w) h' [p.1, p.2] b := fun h' sb e he => by
    have up : ∀ b (x y : Int), IsTupleKey (intKind prog w) s.heap [x, y] b → IsTupleKey (intKind prog w) h' [x, y] b := fun b x y k => key_same k ho fun b o hb e => sb.extBut b o hb e
    rcases List.mem_cons.mp (hip.mem_iff.mp he) with rfl | he
    · exact ⟨(u, v), by simp, a, rfl, up a u v hk⟩
    · obtain ⟨p, h1, b, h2, h3⟩ := hh0 e he
      exact ⟨p, List.mem_append_left _ h1, b, h2, up b _ _ h3⟩
  have back : ∀ p ∈ done ++ [(u, v)], ∃ e ∈ (SetTable.insertAt es (t.put j).2 (hp (u, v), Value.ref a)).toList, e.1 = hp p := fun p hp' => by
    rcases List.mem_append.mp hp' with q | q
    · obtain ⟨e, he, ee⟩ := hb p q
      exact ⟨e, hip.mem_iff.mpr (List.mem_cons_of_mem _ he), ee⟩
    · rw [List.mem_singleton.mp q]
      exact ⟨_, hip.mem_iff.mpr List.mem_cons_self, rfl⟩
  have tb1 : Tb (t.put j).1 ((SetTable.insertAt es (t.put j).2 (hp (u, v), Value.ref a)).toList.map (·.1)) := by
    rw [SetTable.toList_insertAt, List.map_append, List.map_cons, List.map_take, List.map_drop]
    exact hT.put htd hj
  have last : wpAny (model prog w) A (do
      storeSet S (SetTable.insertAt es (t.put j).2 (hp (u, v), Value.ref a)) (t.put j).1
      if (!false && (t.put j).1.tooFull) = true then do
        setRelay S (SetTable.grown (es.size + 1))
        pure true
      else pure true) Q E s1 := by
    refine wpAny_bind (wpAny_storeSet_of ho1 rfl ?_ (by rw [his, sizeLine_eq]; omega))
    have hg : (s1.heap.update S (Obj.putSet (SetTable.insertAt es (t.put j).2 (hp (u, v), Value.ref a)) (t.put j).1)).get? S = some { cls := .type "set", dict := none, data := .set (SetTable.insertAt es (t.put j).2 (hp (u, v), Value.ref a)) (ep + 1) (t.put j).1 } :=
      Heap.get?_update_self _ ho1 rfl
    have sb1 : Heap.SameBut S s.heap (s1.heap.update S (Obj.putSet (SetTable.insertAt es (t.put j).2 (hp (u, v), Value.ref a)) (t.put j).1)) := by rw [e1]; exact Heap.SameBut.update ..
    have hs1 : ∀ hh' : Heap, ({ s1 with heap := hh' } : Shared) = { s with heap := hh', toks := s1.toks } := fun hh' => by rw [← hs']
    by_cases hfull : (t.put j).1.tooFull = true
    · rw [hfull, if_pos (by rfl)]
      have hfu : ((t.put j).1.place.size + (t.put j).1.dummies.size) * 5 ≥ (t.put j).1.mask * 3 := by
        have q := hfull
        unfold SetTable.tooFull SetTable.fill at q
        exact of_decide_eq_true q
      rw [hps, hpd, hpm, hts] at hfu
      have hz : (#[] : Array Nat).size = 0 := rfl
      rw [hz] at hfu
      have h5 : t.mask = 7 ∧ es.size = 4 := by omega
      have hw : SetTable.grown (es.size + 1) = 20 := by rw [h5.2]; rfl
      rw [hw]
      have hf2 : (t.put j).1.fits (SetTable.insertAt es (t.put j).2 (hp (u, v), Value.ref a)).size = true := fits_of hpd (by rw [hps, his, hts]) (by rw [his, hpm]; omega)
      obtain ⟨t', order, r1, r2, r3, r4, r5, r6⟩ := relaid_ok (t := (t.put j).1) (hashes := (SetTable.insertAt es (t.put j).2 (hp (u, v), Value.ref a)).map (·.1)) (wanted := 20) rfl (fun h0 hm0 => by
        rw [Array.toList_map] at hm0
        obtain ⟨e, he, rfl⟩ := List.mem_map.mp hm0
        obtain ⟨p, hp1, hp2⟩ := hash' e he
        rw [hp2]
        rcases List.mem_append.mp hp1 with q | q
        · exact hp_mem (hd p q)
        · rw [List.mem_singleton.mp q]; exact hp_mem hin) (by rw [Array.size_map, his]; omega)
      rw [Array.size_map] at r4 r5
      have op := order_perm r5
      have osz : (order.filterMap ((SetTable.insertAt es (t.put j).2 (hp (u, v), Value.ref a))[·]?)).size = (SetTable.insertAt es (t.put j).2 (hp (u, v), Value.ref a)).size := by
        rw [← Array.length_toList, ← Array.length_toList]; exact op.length_eq
      unfold setRelay
      refine wpAny_bind (wpAny_bind (wpAny_setState_of hg rfl hf2 ?_))
      dsimp only
      rw [if_neg (show ¬ SetTable.sizeAbove 20 > sizeLine by rw [sizeLine_eq]; decide)]
      refine wpAny_bind ?_
      rw [r1]
      show wpAny _ _ (if (Array.size (order.filterMap ((SetTable.insertAt es (t.put j).2 (hp (u, v), Value.ref a))[·]?)) != (SetTable.insertAt es (t.put j).2 (hp (u, v), Value.ref a)).size) = true then _ else _) _ _ _
      rw [if_neg (by rw [osz]; simp)]
      refine wpAny_pure ?_
      dsimp only
      refine wpAny_storeSet_of hg rfl ?_ (by rw [osz, his, sizeLine_eq]; omega)
      refine wpAny_pure ?_
      have hg3 := Heap.get?_update_self (Obj.putSet (order.filterMap ((SetTable.insertAt es (t.put j).2 (hp (u, v), Value.ref a))[·]?)) t') hg rfl
      rw [hs1]
      refine h _ _ (sb1.trans (Heap.SameBut.update ..)) ⟨_, _, _, hg3, r3, by rw [r4, osz], by rw [osz, his, hes]; simp, .inr ⟨r2, by rw [osz, his]; omega⟩, ?_, fun e he => keys _ (sb1.trans (Heap.SameBut.update ..)) e (op.mem_iff.mp he), fun p hp' => ?_⟩
      · have := relaid_tb rfl ?_ r1
        · rw [← ord_map fun k hk => List.mem_range.mp (r5.mem_iff.mp hk)] at this
          simpa using this
        · intro h0 hm0
          rw [Array.toList_map] at hm0
          obtain ⟨e, he, rfl⟩ := List.mem_map.mp hm0
          obtain ⟨p, hp1, hp2⟩ := hash' e he
          rw [hp2]
          rcases List.mem_append.mp hp1 with q | q
          · exact hp_mem (hd p q)
          · rw [List.mem_singleton.mp q]; exact hp_mem hin
      · obtain ⟨e, he, ee⟩ := back p hp'
        exact ⟨e, op.mem_iff.mpr he, ee⟩
    · rw [Bool.not_eq_true] at hfull
      rw [hfull, if_neg (by decide)]
      refine wpAny_pure ?_
      rw [hs1]
      refine h _ _ sb1 ⟨_, _, _, hg, hpd, by rw [hps, his, hts], by rw [his, hes]; simp, ?_, tb1, keys _ sb1, back⟩
      have hfu : ¬ ((t.put j).1.place.size + (t.put j).1.dummies.size) * 5 ≥ (t.put j).1.mask * 3 := by
        have q := hfull
        unfold SetTable.tooFull SetTable.fill at q
        exact of_decide_eq_false q
      rw [hps, hpd, hpm, hts] at hfu
      have hz : (#[] : Array Nat).size = 0 := rfl
      rw [hz] at hfu
      rw [his, hpm]
      omega
  by_cases hpl : (t.put j).1.plain = true
  · rw [if_pos hpl]
    refine wpAny_bind (hashByValue_pair hk1 ?_)
    exact last
  · rw [if_neg hpl]
    refine wpAny_bind (wpAny_pure ?_)
    exact last
def once : List (Int × Int) → List (Int × Int) → List (Int × Int)
  | d, [] => d
  | d, p :: l => if p ∈ d then once d l else once (d ++ [p]) l
theorem once_add : ∀ (d l : List (Int × Int)) (p : Int × Int), once d (l ++ [p]) = if p ∈ once d l then once d l else once d l ++ [p]
  | d, [], p => rfl
  | d, q :: l, p => by
    show (if q ∈ d then once d (l ++ [p]) else once (d ++ [q]) (l ++ [p])) = if p ∈ (if q ∈ d then once d l else once (d ++ [q]) l) then _ else _
    by_cases h : q ∈ d
    · rw [if_pos h, if_pos h, once_add d l p]
      show _ = if p ∈ once d l then (if q ∈ d then once d l else once (d ++ [q]) l) else (if q ∈ d then once d l else once (d ++ [q]) l) ++ [p]
      rw [if_pos h]
    · rw [if_neg h, if_neg h, once_add (d ++ [q]) l p]
      show _ = if p ∈ once (d ++ [q]) l then (if q ∈ d then once d l else once (d ++ [q]) l) else (if q ∈ d then once d l else once (d ++ [q]) l) ++ [p]
      rw [if_neg h]
theorem once_mem : ∀ {l d : List (Int × Int)} {p : Int × Int}, p ∈ once d l ↔ p ∈ d ∨ p ∈ l
  | [], d, p => by simp [once]
  | q :: l, d, p => by
    unfold once
    by_cases h : q ∈ d
    · rw [if_pos h, once_mem (l := l)]
      constructor
      · rintro (x | x)
        · exact .inl x
        · exact .inr (List.mem_cons_of_mem _ x)
      · rintro (x | x)
        · exact .inl x
        · rcases List.mem_cons.mp x with rfl | x
          · exact .inl h
          · exact .inr x
    · rw [if_neg h, once_mem (l := l)]
      simp only [List.mem_append, List.mem_cons, List.not_mem_nil, or_false, or_assoc]
theorem once_nodup : ∀ {l d : List (Int × Int)}, d.Nodup → (once d l).Nodup
  | [], d, h => h
  | q :: l, d, h => by
    unfold once
    by_cases c : q ∈ d
    · rw [if_pos c]; exact once_nodup h
    · rw [if_neg c]
      refine once_nodup (List.nodup_append.mpr ⟨h, by simp, fun a ha b hb e => ?_⟩)
      rw [List.mem_singleton] at hb
      exact c (by rw [← hb, ← e]; exact ha)
theorem once_len : ∀ {l d : List (Int × Int)}, (once d l).length ≤ d.length + l.length
  | [], d => by simp [once]
  | q :: l, d => by
    unfold once
    have h1 := once_len (l := l) (d := d)
    have h2 := once_len (l := l) (d := d ++ [q])
    rw [List.length_append, List.length_singleton] at h2
    rw [List.length_cons]
    split <;> omega
theorem once_eq : ∀ {l d : List (Int × Int)}, ((once d l).length = d.length + l.length ↔ l.Nodup ∧ ∀ p ∈ l, p ∉ d)
  | [], d => by simp [once]
  | q :: l, d => by
    unfold once
    by_cases h : q ∈ d
    · rw [if_pos h]
      have h1 := once_len (l := l) (d := d)
      constructor
      · intro e; rw [List.length_cons] at e; omega
      · rintro ⟨_, k⟩; exact absurd h (k q List.mem_cons_self)
    · rw [if_neg h]
      have ih := once_eq (l := l) (d := d ++ [q])
      rw [List.length_append, List.length_singleton] at ih
      rw [List.length_cons, show d.length + (l.length + 1) = d.length + 1 + l.length by omega, ih, List.nodup_cons]
      constructor
      · rintro ⟨a, b⟩
        refine ⟨⟨fun m => b q m (List.mem_append_right _ (List.mem_singleton.mpr rfl)), a⟩, fun p hp' => ?_⟩
        rcases List.mem_cons.mp hp' with rfl | m
        · exact h
        · exact fun z => b p m (List.mem_append_left _ z)
      · rintro ⟨⟨a, b⟩, c⟩
        refine ⟨b, fun p m z => ?_⟩
        rcases List.mem_append.mp z with z | z
        · exact c p (List.mem_cons_of_mem _ m) z
        · rw [List.mem_singleton] at z; subst z; exact a m
theorem prs_le {d : List (Int × Int)} (h : d.Nodup) (hin : ∀ p ∈ d, p ∈ prs) : d.length ≤ 15 := by
  have key : ∀ p ∈ prs, 0 ≤ p.1 ∧ p.1 < p.2 ∧ p.2 < 6 := by decide
  exact (show DM.Good 6 d from ⟨h, fun p hp' => key p (hin p hp')⟩).len (by decide)
theorem fill_loop2 {S I l : Addr} {vs : List Value} {ps : List (Int × Int)} {R : Result → Shared → Prop} (hu : A.units + 1 < cLine) (hh : A.in1.handled = none) (hlen : vs.length = ps.length) (hin : ∀ p ∈ ps, p ∈ prs)
    (hSI : S ≠ I) (hSl : S ≠ l) (hlI : l ≠ I) : ∀ (k i : Nat) (s : Shared), ps.length - i = k → i ≤ ps.length → s.heap.IsListIter I l i → s.heap.IsList l vs.toArray → TupsAt (prog := prog) (w := w) s.heap vs ps → KSet prog w s.heap S (once [] (ps.take i)) →
      (∀ h' tk, (∀ b o, b ≠ S → b ≠ I → s.heap.get? b = some o → h'.get? b = some o) → KSet prog w h' S (once [] ps) → R (.ok (.ret .none)) { s with heap := h', toks := tk }) →
      codeAny (model prog w) A (.builtin "set.update.loop" ⟨[.ref S, .ref I], []⟩) R s := by
  intro k
  induction k with
  | zero =>
    intro i s hk hi hit hl hT hP hR
    have e : i = ps.length := by omega
    subst e
    rw [List.take_length] at hP
    refine codeAny_builtin F.entry_set_update_loop ?_
    rw [Around.under_plainId F.plain_set_update_loop _]
    show wpAny _ A.in1 (pyNext (.ref I) >>= _) _ _ s
    refine wpAny_bind (wpAny_pyNext_list_end hh hit hl (by simp [hlen]) fun h' eb => ?_)
    show wpAny _ A.in1 (ret Value.none) _ _ _
    refine wpAny_pure (hR h' s.toks (fun b o _ hb e => eb b o hb e) (hP.keep (fun o e => eb S o hSI e) fun a p key => ?_))
    obtain ⟨o, items, n, e, c, d, ii⟩ := key
    refine ⟨o, items, n, eb a o ?_ e, c, d, ii⟩
    rintro rfl
    obtain ⟨oi, hoi, hci, _⟩ := hit
    rw [hoi] at e; cases e; rw [hci] at c; exact absurd c (by decide)
  | succ k ih =>
    intro i s hk hi hit hl hT hP hR
    have hlt : i < ps.length := by omega
    have hvi : vs[i]? = some vs[i] := List.getElem?_eq_getElem (by omega)
    obtain ⟨a, p, ev, ep, key⟩ := hT i _ hvi
    refine codeAny_builtin F.entry_set_update_loop ?_
    rw [Around.under_plainId F.plain_set_update_loop _]
    show wpAny _ A.in1 (pyNext (.ref I) >>= _) _ _ s
    refine wpAny_bind (wpAny_pyNext_list_item hit hl (x := .ref a) (by rw [← ev]; simp) fun h1 hit1 sb1 => ?_)
    have k1 : ∀ b o, b ≠ I → s.heap.get? b = some o → h1.get? b = some o := fun b o hb e => sb1.extBut b o hb e
    have kk1 : ∀ b q, IsTupleKey (intKind prog w) s.heap q b → IsTupleKey (intKind prog w) h1 q b := fun b q key => by
      obtain ⟨o, items, n, e, c, d, ii⟩ := key
      refine ⟨o, items, n, k1 b o ?_ e, c, d, ii⟩
      rintro rfl
      obtain ⟨oi, hoi, hci, _⟩ := hit
      rw [hoi] at e; cases e; rw [hci] at c; exact absurd c (by decide)
    have hP1 : KSet prog w h1 S (once [] (ps.take i)) := hP.keep (fun o e => k1 S o hSI e) kk1
    obtain ⟨es, epo, t, ho, _⟩ := id hP1.is
    have key1 := kk1 a _ key
    show wpAny _ A.in1 (holding [Value.ref a] (setAdd S (.ref a)) >>= _) _ _ _
    have hmem : p ∈ ps := List.mem_of_getElem? ep
    have hdn : ∀ q ∈ once [] (ps.take i), q ∈ prs := fun q hq => by
      rcases once_mem.mp hq with z | z
      · exact nomatch z
      · exact hin q (List.mem_of_mem_take z)
    have et : ps.take (i + 1) = ps.take i ++ [p] := by rw [List.take_add_one, ep]; rfl
    by_cases hm : p ∈ once [] (ps.take i)
    · refine wpAny_bind (wpAny_holding (setAdd_old (u := p.1) (v := p.2) (A := A.in1) (by show A.units + 1 < cLine; exact hu) key1 hP1 (hin p hmem) hdn hm fun tk => ?_))
      refine wpAny_pure ⟨plainId_quiet F.plain_set_update_loop _, ih (i + 1) { s with heap := h1, toks := tk } (by omega) (by omega) hit1 (hl.extBut (fun b o hb e => k1 b o hb e) hlI) ?_ ?_ ?_⟩
      · intro j v hv
        obtain ⟨a', p', e1', e2', key'⟩ := hT j v hv
        exact ⟨a', p', e1', e2', kk1 _ _ key'⟩
      · rw [et, once_add, if_pos hm]; exact hP1
      · intro h3 tk3 kp hP3
        exact hR h3 tk3 (fun b o hb hb' e => kp b o hb hb' (k1 b o hb' e)) hP3
    · have h15 : (once [] (ps.take i)).length < 15 := by
        have := prs_le (d := once [] (ps.take i) ++ [p]) (by
          have := once_nodup (l := ps.take (i + 1)) (d := []) List.nodup_nil
          rw [et, once_add, if_neg hm] at this
          exact this) fun q hq => by
            rcases List.mem_append.mp hq with z | z
            · exact hdn q z
            · rw [List.mem_singleton.mp z]; exact hin p hmem
        rw [List.length_append, List.length_singleton] at this
        omega
      refine wpAny_bind (wpAny_holding (setAdd_new (u := p.1) (v := p.2) (A := A.in1) (by show A.units + 1 < cLine; exact hu) key1 hP1 (hin p hmem) hdn hm h15 fun h2 tk sb2 hP2 => ?_))
      have k2 : ∀ b o, b ≠ S → h1.get? b = some o → h2.get? b = some o := fun b o hb e => sb2.extBut b o hb e
      refine wpAny_pure ⟨plainId_quiet F.plain_set_update_loop _, ih (i + 1) { s with heap := h2, toks := tk } (by omega) (by omega) (hit1.extBut (fun b o hb e => k2 b o hb e) (Ne.symm hSI)) ?_ ?_ (by rw [et, once_add, if_neg hm]; exact hP2) ?_⟩
      · exact (hl.extBut (fun b o hb e => k1 b o hb e) hlI).extBut (fun b o hb e => k2 b o hb e) (Ne.symm hSl)
      · intro j v hv
        obtain ⟨a', p', e1', e2', key'⟩ := hT j v hv
        exact ⟨a', p', e1', e2', key_same (kk1 _ _ key') ho k2⟩
      · intro h3 tk3 kp hP3
        exact hR h3 tk3 (fun b o hb hb' e => kp b o hb hb' (k2 b o hb (k1 b o hb' e))) hP3
theorem call_set_any {l : Addr} {vs : List Value} {ps : List (Int × Int)} {Q : Value → Shared → Prop} (hu : A.units + 8 < cLine) (hh : A.handled = none) (hl : s.heap.IsList l vs.toArray) (hlen : vs.length = ps.length)
    (hin : ∀ p ∈ ps, p ∈ prs) (hT : TupsAt (prog := prog) (w := w) s.heap vs ps)
    (h : ∀ h' tk, (∀ b o, b < s.heap.objs.size → s.heap.get? b = some o → h'.get? b = some o) → KSet prog w h' s.heap.objs.size (once [] ps) → Q (.ref s.heap.objs.size) { s with heap := h', toks := tk }) :
    wpAny (model prog w) A (call (.type "set") [.ref l]) Q E s := by
  obtain ⟨c0, tl0, mro0⟩ := F.called_set.mro
  have made0 := F.called_set.made
  have sub0 := F.called_set.sub
  have nt0 := F.called_set.notType
  have cc0 := F.called_set.canCreate
  have tc0 := F.typeCall_set_1 (.ref l)
  refine wpAny_call (codeAny_of_tree ?_)
  show wpAny _ _ (callAny (.type "set") _) _ _ _
  refine wpAny_pure ⟨Code.quiet_builtin _ (by decide +kernel), codeAny_builtin F.entry_type_call ?_⟩
  rw [Around.under_plain (weight_type_call_type "set" [.ref l] []) rfl]
  repeat (any_goals (first | assumption | wp_step))
  refine codeAny_mono (code_set_new_1 (.ref l) (E := E) (Q₁ := fun obj s1 => ∃ led : Bool, obj = .ref s.heap.objs.size ∧
    s1 = { s with heap := s.heap.push { cls := .type "set", dict := none, data := .set #[] 0 (.fresh 0 0 led) } }) fun led => ⟨led, rfl, rfl⟩) fun r s1 hr => ?_
  cases r with
  | error e => exact hr
  | ok fl =>
    cases fl with
    | ret obj =>
      obtain ⟨led, rfl, rfl⟩ := hr
      generalize hH : s.heap.push { cls := .type "set", dict := none, data := .set #[] 0 (.fresh 0 0 led) } = H1
      have hS : H1.get? s.heap.objs.size = some { cls := .type "set", dict := none, data := .set #[] 0 (.fresh 0 0 led) } := by rw [← hH]; exact Heap.get?_push_size _ rfl
      have old : ∀ b o, s.heap.get? b = some o → H1.get? b = some o := fun b o e => by rw [← hH]; exact Heap.get?_push_of_some _ e
      have hsz : H1.objs.size = s.heap.objs.size + 1 := by rw [← hH, Heap.size_push]
      have tyS : Shared.TypeIs { s with heap := H1 } (.ref s.heap.objs.size) "set" := ⟨_, hS, rfl⟩
      have li0 := F.called_set.init.lookup
      have bi0 := F.called_set.init.bind (.ref s.heap.objs.size)
      repeat (any_goals (first | assumption | wp_step))
      refine codeAny_mono (codeAny_call_builtin (R := wants (fun r s2 => r = .none ∧ ∃ h' tk, s2 = { s with heap := h', toks := tk } ∧ KSet prog w h' s.heap.objs.size (once [] ps) ∧
        (∀ b o, b < s.heap.objs.size → s.heap.get? b = some o → h'.get? b = some o)) E) F.called_set.init.plain F.entry_set_init (check_set_init_1 tyS ?_)) fun r2 s2 hr2 => ?_
      · obtain ⟨ol, hol, hcl, nl, hdl⟩ := hl
        obtain ⟨oc, od, oda, osl⟩ := ol
        simp only at hcl hdl
        subst hcl; subst hdl
        have hol1 : H1.get? l = some { cls := .type "list", dict := od, data := .seq vs.toArray nl, slots := osl } := old _ _ hol
        have sls := F.sub_list_set
        have slf := F.sub_list_frozenset
        have nld : (Value.type "list" == Value.type "dict") = false := by decide
        have hl1 : H1.IsList l vs.toArray := ⟨_, hol1, rfl, nl, rfl⟩
        have llt : l < s.heap.objs.size := Heap.lt_size hol
        unfold Builtin.«set.__init__» noKeywords Builtin.Frozenset.updateFrom
        generalize hPI : pyIter = PI
        wp_walk
        subst hPI
        refine wpAny_pyIter_list hl1 ?_
        refine wpAny_bind (wpAny_runValue ?_)
        generalize hH2 : H1.push { cls := .type "list_iterator", data := .fields #[.ref l, .int 0 0] } = H2
        have old2 : ∀ b o, H1.get? b = some o → H2.get? b = some o := fun b o e => by rw [← hH2]; exact Heap.get?_push_of_some _ e
        refine fill_loop2 (l := l) (ps := ps) (vs := vs) (by show A.units + 1 + 1 + 1 < cLine; omega) (by simp [hh]) hlen hin (by show s.heap.objs.size ≠ H1.objs.size; rw [hsz]; exact Nat.ne_of_lt (Nat.lt_succ_self _)) (Nat.ne_of_gt llt) (by show l ≠ H1.objs.size; rw [hsz]; exact Nat.ne_of_lt (Nat.lt_succ_of_lt llt)) ps.length 0 _ (by omega) (Nat.zero_le _) ?_ ?_ ?_ ?_ ?_
        · rw [← hH2]
          exact ⟨_, Heap.get?_push_size _ rfl, rfl, rfl⟩
        · exact ⟨_, old2 _ _ hol1, rfl, nl, rfl⟩
        · intro i v hv
          obtain ⟨a, p, e1, e2, o, items, n, e, r⟩ := hT i v hv
          exact ⟨a, p, e1, e2, o, items, n, old2 _ _ (old _ _ e), r⟩
        · exact ⟨#[], 0, .fresh 0 0 led, old2 _ _ hS, rfl, rfl, rfl, .inl ⟨rfl, by decide⟩, ⟨List.Pairwise.nil, rfl, fun k h e => by simp at e⟩, fun e he => by simp at he, fun p hp' => by simp [once] at hp'⟩
        · intro h' tk kp hP
          show wpAny _ _ (pure ()) _ _ _
          refine wpAny_pure ?_
          show wpAny _ _ (ret Value.none) _ _ _
          refine wpAny_pure ⟨rfl, h', tk, rfl, hP, fun b o hb e => ?_⟩
          refine kp b o (Nat.ne_of_lt hb) ?_ (old2 _ _ (old _ _ e))
          show b ≠ H1.objs.size
          rw [hsz]; exact Nat.ne_of_lt (Nat.lt_succ_of_lt hb)
      · cases r2 with
        | error e => exact hr2
        | ok f2 =>
          cases f2 with
          | ret r =>
            obtain ⟨rfl, h', tk, rfl, hP, hk⟩ := hr2
            repeat (any_goals (first | assumption | wp_step))
            exact h _ _ hk hP
          | _ => exact hr2.elim
    | _ => exact hr.elim
end
end SP


set_option linter.all false
set_option maxRecDepth 100000
set_option maxHeartbeats 4000000
namespace L2
open PySem PySem.Spec PyProof.Rows
variable {X : Cx}
theorem call_setP2 (hc : X.calm = true) (hu : X.A.units + 64 < cLine) : CallR X (.type "set") (fun xs H Q => ∃ (a : Addr) (us : List V) (ps : List (Int × Int)), xs = [.ref a] ∧ SqL X.K H a us ∧ Prs X.K H us ps ∧ (∀ p ∈ ps, p ∈ SP.prs) ∧ ∀ S, H S = none → Q (.ref S) (upd H S (.ext (SetA S (SP.once [] ps).length)))) := by
  intro pins s σ H xs us Q I r h
  obtain ⟨a, ws, ps, rfl, hq, hP, hin, q⟩ := h
  obtain ⟨u, rfl, ru⟩ := Vals.one r
  cases ru
  obtain ⟨its, rv, p, hz⟩ := I.list hq
  have hlen : its.length = ps.length := rv.length.symm.trans (prs_len hP)
  refine SP.call_set_any (by omega) (I.ok.hd hc) p.isList hlen hin ?_ fun h' tk kp P => ?_
  · intro i v hv
    have hi : i < ws.length := by rw [rv.length]; exact (List.getElem?_eq_some_iff.mp hv).1
    obtain ⟨pr, t, e1, e2, hs⟩ := prs_get (i := i) hP (List.getElem?_eq_getElem hi)
    obtain ⟨u, eu, ru⟩ := rv.get (List.getElem?_eq_getElem hi)
    rw [hv] at eu; cases eu
    rw [e2] at ru
    cases ru
    obtain ⟨is, r2, ⟨o, ho, hcl, n, hd⟩, _⟩ := I.tuple hs
    obtain ⟨x, y, rfl, rx, ry⟩ := vals2 r2
    obtain ⟨t1, rfl⟩ := rx
    obtain ⟨t2, rfl⟩ := ry
    exact ⟨t, pr, rfl, e1, o, _, n, ho, hcl, hd, .cons (by simp [intKind, Value.isInt]) (.cons (by simp [intKind, Value.isInt]) .nil)⟩
  · have hn : H s.heap.objs.size = none := I.hok.fresh (Nat.le_refl _)
    obtain ⟨es, ep, t, ho, hd, hp, hl, hm, _⟩ := P.is
    have hf : t.fits es.size = true := SP.fits_of hd hp (by rcases hm with ⟨e, k⟩ | ⟨e, k⟩ <;> omega)
    refine ⟨.ref s.heap.objs.size, _, I.laid (t' := tk) (o := .ext (SetA s.heap.objs.size (SP.once [] ps).length)) (fun b o e => kp b o (Heap.lt_size e) e) (Nat.le_refl _) ?_, rfl, q _ hn⟩
    exact ⟨⟨es, ep, t, ho, hl, hf⟩, ⟨_, ho⟩, fun h1 h2 ⟨es, ep, t, e, l, f⟩ k => ⟨es, ep, t, k _ e, l, f⟩⟩
end L2
namespace U
open PySem PySem.Spec PyProof.Rows L2
variable {B : Bs} {X : Cx} {e : Expr} {ta : TE'} {p p2 pos pos2 : Pos}
def lenSet2 (x : PV) (H : PHp) (Q : VK') : Prop := match x with
  | .ref a => ∃ ps : List (Int × Int), H a = some (.lst (ps.map prV)) ∧ (∀ p ∈ ps, p ∈ SP.prs) ∧ Q (.int (SP.once [] ps).length) H
  | _ => False
theorem w_l2 {a : Addr} {H : PHp} {Q : VK'} : lenSet2 (.ref a) H Q = ∃ ps : List (Int × Int), H a = some (.lst (ps.map prV)) ∧ (∀ p ∈ ps, p ∈ SP.prs) ∧ Q (.int (SP.once [] ps).length) H := rfl
def uLenSet2 (ta : TE') : TE' := fun σ H Q => ta σ H fun x H1 => lenSet2 x H1 Q
theorem qe_len_set2 (hc : X.calm = true) (hu : X.A.units + 64 < cLine) (hgl : Gl X "len") (hml : X.mg "len" = none) (hgs : Gl X "set") (hms : X.mg "set" = none) (bs : bootBuiltins "set" = some (.type "set")) (ha : PE' X B e ta)
    (he : starEach [.Call (.Name "set" p2) [e] [] pos2] X.env = [(false, eval (.Call (.Name "set" p2) [e] [] pos2) X.env)] := by rfl) (he2 : starEach [e] X.env = [(false, eval e X.env)] := by rfl) :
    PE' X B (.Call (.Name "len" p) [.Call (.Name "set" p2) [e] [] pos2] [] pos) (uLenSet2 ta) :=
  pe_imp (pe_callB call_lenS hgl hml PySem.boot_len (pa_cons (pe_callTy (call_setP2 hc hu) hgs hms bs (pa_cons ha pa_nil he2) (by decide) (by decide) he2 rfl) pa_nil he) (by decide) (by decide) he rfl) fun σ H Q h => by
    obtain ⟨σ', H', Q', s, h, k⟩ := h
    refine ⟨σ', H', _, s, h, fun x' H1' x H1 h1 rx s1 e1 => ?_⟩
    cases x' with
    | ref a =>
      obtain ⟨ps, ea, hin, q⟩ := h1
      simp only [RP] at rx
      subst rx
      obtain ⟨us, eg, r2⟩ := s1.hp _ _ ea
      have h15 : (SP.once [] ps).length ≤ 15 := SP.prs_le (SP.once_nodup List.nodup_nil) fun p hp => (SP.once_mem.mp hp).elim (fun z => nomatch z) (hin p)
      refine ⟨a, us, ps, rfl, .inl (.inl eg), prs_of r2, hin, fun S hS => ?_⟩
      exact ⟨S, (SP.once [] ps).length, rfl, upd_same, by omega, k _ _ _ _ q (by simp [RP]) (s1.hid hS) (e1.trans (Ev.hid hS))⟩
    | _ => exact h1.elim
end U


set_option linter.all false
set_option maxRecDepth 100000
set_option maxHeartbeats 4000000 -- own
namespace L2
open PySem PySem.Spec PyProof.Rows
variable {X : Cx}
end L2
namespace U
open PySem PySem.Spec PyProof.Rows L2
variable {B : Bs} {X : Cx} {a b : Expr} {ta tb : TE'} {pos : Pos}
def uMin : List PV → PHp → VK' → Prop := fun xs H Q => match xs with
  | [.int i, .int j] => Q (.int (if j < i then j else i)) H
  | _ => False
theorem w_mi {i j : Int} {H : PHp} {Q : VK'} : uMin [.int i, .int j] H Q = Q (.int (if j < i then j else i)) H := rfl
end U


set_option linter.all false
set_option maxRecDepth 100000
set_option maxHeartbeats 4000000
namespace U
open PySem PySem.Spec PyProof.Rows L2
variable {B : Bs}
section
variable {X : Cx} {e e3 : Expr} {te : TE} {ts : TO} {pos p2 : Pos}
def tRevS (te : TE) (ts : TO) : TE := fun σ H Q => te σ H fun x H1 => ts σ H1 fun o H2 => o = some (-1) ∧ ∃ z, x = .str z ∧ z.length ≤ sizeLine ∧ ∀ y : Str, y.length ≤ z.length → Q (.str y) H2
theorem pe_revS (he : PE X e te) (hst : L2.PO X (some e3) ts) : PE X (.Subscript e (.Slice none none (some e3) p2) pos) (tRevS te ts) := by
  intro pins s σ H Q I h
  refine Subscript_ (thn (he pins s σ H _ I h) fun v s1 ⟨x, H1, I1, r1, q1⟩ => ?_)
  refine wpAny_Slice ?_
  rw [evalPart_none]
  refine wpAny_pure ?_
  refine wpAny_pure ?_
  refine thn (hst pins s1 σ H1 _ I1 q1) fun vs s2 ⟨o, H2, I2, ps, q2⟩ => ?_
  obtain ⟨rfl, z, rfl, hz, q⟩ := q2
  obtain ⟨t, rfl⟩ := (show ∃ t, v = Value.str z t from r1)
  have I3 : Inv X pins σ H2 { s2 with heap := s2.heap.push { cls := .type "slice", data := .fields #[.none, .none, vs] } } := I2.kept (t' := s2.toks) fun b ob q => Heap.get?_push_of_some _ q
  show wpAny (model X.prog X.w) X.A (subscriptTail e (.Slice none none (some e3) p2) (.str z t) (.ref s2.heap.objs.size)) (EP X pins σ Q) X.xe { s2 with heap := s2.heap.push { cls := .type "slice", data := .fields #[.none, .none, vs] } }
  obtain ⟨l, rfl, el⟩ := part_ex ps
  obtain ⟨⟨i, tk⟩, rfl⟩ : ∃ p, l = some p := by
    cases l with
    | none => cases el
    | some p => exact ⟨p, rfl⟩
  obtain rfl : i = -1 := by simpa using el
  refine tail_any (ops := [.str z t, .ref s2.heap.objs.size]) (typeIs_str _ _ _) F.slot_str_getitem.lookup ?_ (by with_unfolding_all rfl)
  refine wpAny_getItem_str_slice (l := none) (u := none) (st := some (-1, tk)) ⟨_, Heap.get?_push_size _ rfl, rfl, rfl⟩ rfl ?_
  have hl : (slicePicked z none none (some (-1, tk))).length ≤ z.length := by
    unfold slicePicked Builtin.Str.strSliceIndices
    exact sliceRange_length_le _ _ _ _ (fun h => absurd (show (-1 : Int) > 0 from h) (by decide)) fun _ => ⟨Int.le_refl _, Int.le_refl _⟩
  unfold sliceMade
  rw [if_neg (by simp)]
  have hl2 : ((slicePicked z none none (some (-1, tk))).filterMap (z.cps[·]?)).toArray.size ≤ z.length := by
    rw [List.size_toArray]
    exact Nat.le_trans (List.length_filterMap_le _ _) hl
  exact ⟨Nat.le_trans hl2 hz, .str _, H2, I3.tok _, ⟨_, rfl⟩, q _ hl2⟩
end
section
variable {X : Cx} {e e3 : Expr} {ta : TE'} {pos p2 : Pos}
def revS (x : PV) (H : PHp) (Q : VK') : Prop := match x with
  | .str z => z.length ≤ sizeLine ∧ ∀ y : Str, y.length ≤ z.length → Q (.str y) H
  | _ => False
theorem w_rvS {z : Str} {H : PHp} {Q : VK'} : revS (.str z) H Q = (z.length ≤ sizeLine ∧ ∀ y : Str, y.length ≤ z.length → Q (.str y) H) := rfl
def uRevS (ta : TE') (ts : TO') : TE' := fun σ H Q => ta σ H fun x H1 => ts σ H1 fun o H2 => o = some (-1) ∧ revS x H2 Q
theorem qe_revS {ts : TO'} (he : PE' X B e ta) (hs : PO' X B (some e3) ts) : PE' X B (.Subscript e (.Slice none none (some e3) p2) pos) (uRevS ta ts) :=
  pe_imp (pe_revS he hs) fun σ H Q ⟨σ', H', Q', s, h, k⟩ => by
  refine ⟨σ', H', _, s, h, fun x H1' v H1 h1 r1 s1 e1 => ⟨σ', H1', _, s1, h1, fun o H2' H2 h2 s2 e2 => ?_⟩⟩
  obtain ⟨eo, h2⟩ := h2
  cases x with
  | str z =>
    simp only [RP] at r1
    exact ⟨eo, z, r1, h2.1, fun y hy => k _ _ _ _ (h2.2 y hy) (by simp [RP]) s2 (e1.trans e2)⟩
  | _ => exact h2.elim
end
end U


set_option linter.all false
set_option maxRecDepth 100000
set_option maxHeartbeats 4000000
namespace U
open PySem PySem.Spec PyProof.Rows L2
variable {B : Bs}
abbrev bmV : List Value := [.type "ValueError", .type "Exception", .type "BaseException", .type "object"]
def excI (K : PySem.W.Frag) (C : Addr) : Bool :=
  match K.lookup C with
  | some ⟨.type "type", _, .cls cd, sl⟩ =>
    (match cd.mro, sl.toList with
    | .ref D :: bm, [_, _, _, _, some (.builtin n), _] =>
      D == C && n == "ValueError.__new__" && !cd.hasDel && PySem.W.tailIn K bmV bm && PySem.W.nsOkIn K cd.ns && cd.hasDict
    | _, _ => false)
  | _ => false
structure XI (K : PySem.W.Frag) (C f : Addr) : Prop where
  ex : excI K C = true
  ob : PySem.W.mroIn K C (.type "object") = some true
  be : PySem.W.mroIn K C (.type "BaseException") = some true
  ga : PySem.W.findIn K (.ref C) "__getattribute__" = some (some (.builtin "BaseException.__getattribute__"))
  gt : PySem.W.findIn K (.ref C) "__getattr__" = some none
  cl : PySem.W.findIn K (.ref C) "__class__" = some (some (.builtin "object.__class__"))
  sa : PySem.W.findIn K (.ref C) "__setattr__" = some (some (.builtin "object.__setattr__"))
  na : PySem.W.findIn K (.ref C) "at" = some none
  it : PySem.W.findIn K (.ref C) "__init__" = some (some (.ref f))
  fn : PySem.W.isFn K (.ref f) = true
  kp : PySem.W.keepIn K (.ref C) = true
theorem clsI_at {K : PySem.W.Frag} {C : Addr} {h : Heap} (KX : K.In h) (q : excI K C = true) : ∃ (bm : List Value) (N : Addr) (nm qn : Str) (bs : List Value) (sn : List Str) (sub : List Value) (ab : Bool) (col : Option Bool) (dd : Option Addr) (k0 k1 k2 k3 k5 : Option Value),
    K.lookup C = some (excClassObj nm qn C N bs bm true sn sub ab col dd k0 k1 k2 k3 k5 "ValueError.__new__") ∧ h.get? C = some (excClassObj nm qn C N bs bm true sn sub ab col dd k0 k1 k2 k3 k5 "ValueError.__new__") ∧ OwnTail h bmV bm := by
  unfold excI at q
  split at q
  · rename_i dd cd sl ho
    split at q
    · rename_i D bm k0 k1 k2 k3 n k5 hm hs
      simp only [Bool.and_eq_true, beq_iff_eq, Bool.not_eq_true'] at q
      obtain ⟨⟨⟨⟨⟨rfl, rfl⟩, hdel⟩, ht⟩, hok⟩, hdi⟩ := q
      obtain ⟨nm, bs, mro, ns, qn, hd, sn, sub, ab, col, del⟩ := cd
      dsimp only at hm hdel hok hdi
      subst hm hdel hdi
      obtain rfl : sl = #[k0, k1, k2, k3, some (.builtin "ValueError.__new__"), k5] := by
        obtain ⟨l⟩ := sl
        simp only at hs
        rw [hs]
      exact ⟨bm, ns, nm, qn, bs, sn, sub, ab, col, dd, k0, k1, k2, k3, k5, ho, KX _ _ ho, PySem.W.tail_of_in KX ht⟩
    · cases q
  · cases q
theorem XI.c0 {K : PySem.W.Frag} {C f : Addr} (x : XI K C f) : XC0 K C := by
  refine ⟨?_, x.ob, x.be, x.ga, x.gt, x.cl⟩
  have q := x.ex
  unfold excI at q
  split at q
  · rename_i dd cd sl ho
    exact ⟨dd, cd, sl, ho⟩
  · cases q
section
variable {prog : Program} {w : World} {A : Around} {E : Value → Shared → Prop} {h : Heap} {g : Array GenState} {d : Drawn} {t : Nat} {os : OsState} {K : PySem.W.Frag} {C f : Addr}
abbrev newX (C x0 : Addr) : Obj := { cls := .ref C, data := .fields #[.ref x0, .none, .none, .none, .bool false, .none] }
theorem call_I {rest : List Value} {Q : Value → Shared → Prop} (KX : K.In h) (x : XI K C f) (hrest : rest.length ≤ sizeLine)
    (hq : wpAny (model prog w) (A.under (.builtin "type.__call__" ⟨.ref C :: rest, []⟩)) (call (.ref f) (.ref (h.objs.size + 1) :: rest)) (fun r s' => r = .none ∧ Q (.ref (h.objs.size + 1)) s') E
      ⟨(h.push { cls := .type "tuple", data := .seq rest.toArray }).push (newX C h.objs.size), g, d, t, os⟩) :
    wpAny (model prog w) A (call (.ref C) rest) Q E ⟨h, g, d, t, os⟩ := by
  obtain ⟨bm, N, nm, qn, bs, sn, sub, ab, col, dd, k0, k1, k2, k3, k5, _, hC, T⟩ := clsI_at KX x.ex
  have FF := PySem.F.excBase_ValueError
  have f1 := tc_lookup
  have f2 := tc_bind (.ref C)
  have hT : (⟨h, g, d, t, os⟩ : Shared).TypeIs (.ref C) "type" := ⟨_, hC, rfl⟩
  refine wpAny_call (codeAny_of_tree ?_)
  show wpAny _ _ (callAny (.ref C) _) _ _ _
  repeat (any_goals (first | assumption | with_reducible refine wpAny_loadPart_at hC ?_ | wp_step))
  refine ⟨rfl, ?_⟩
  refine codeAny_call_builtin_at (Code.quiet_builtin _ (by decide +kernel)) entry_typeCall (wpAny_check_type_call_sub hC ?_)
  show wpAny _ _ (Builtin.«type.__call__» ⟨.ref C :: rest, []⟩) _ _ _
  repeat (first | with_reducible refine wpAny_loadPart_at hC ?_ | with_reducible refine wpAny_madeBy_exc hC ?_ | wp_step)
  refine codeAny_call_builtin_code (Code.quiet_builtin _ FF.quiet) (wpAny_check_new_subT FF T hC ?_)
  refine codeAny_exc_new_subT FF T hC ?_ hrest
  show wpAny _ _ _ _ _ _
  have kk : ∀ b o, h.get? b = some o → ((h.push { cls := .type "tuple", data := .seq rest.toArray }).push (newX C h.objs.size)).get? b = some o :=
    fun b o e => Heap.get?_push_of_some _ (Heap.get?_push_of_some _ e)
  have hC1 := kk _ _ hC
  have KX1 : K.In _ := KX.keeps kk
  have hget : ((h.push { cls := .type "tuple", data := .seq rest.toArray }).push (newX C h.objs.size)).get? (h.objs.size + 1) =
      some { cls := .ref C, data := .fields #[.ref h.objs.size, .none, .none, .none, .bool false, .none] } := by heap_get
  have hcC : (Value.ref C :: bm).contains (.ref C) = true := by simp
  unfold isInstance
  repeat (first | with_reducible refine wpAny_loadPart_at hget ?_ | (with_reducible refine wpAny_isSubtype_exc hC1 ?_; rw [hcC]) | wp_step)
  show wpAny _ _ (typeLookup (.ref C) _) _ _ _
  refine (PySem.W.looks_findIn KX1 x.it).at ?_
  refine wpAny_holding (wpAny_bind ?_)
  refine (PySem.W.bind_fn KX1 _ (beq_iff_eq.mp x.fn)).at ?_
  refine wpAny_bind (wpAny_mono hq (fun r s' hr => ?_) fun _ _ z => z)
  obtain ⟨rfl, hQ⟩ := hr
  wp_walk
  exact hQ
end
end U
namespace U
open PySem PySem.Spec PyProof.Rows L2
section
variable {prog : Program} {w : World} {A : Around} {E : Value → Shared → Prop} {h : Heap} {g : Array GenState} {d : Drawn} {t : Nat} {os : OsState} {K : PySem.W.Frag} {C f : Addr}
theorem call_init {a x0 : Addr} {z : Str} {tk : Tok} {Q : Value → Shared → Prop} (KX : K.In h) (x : XI K C f)
    (he : h.get? a = some (newX C x0))
    (hq : ∀ h' t', (∀ b o, b ≠ a → h.get? b = some o → h'.get? b = some o) → (∃ y0, h'.get? a = some (newX C y0)) → Q .none ⟨h', g, d, t', os⟩) :
    wpAny (model prog w) A (call (.builtin "ValueError.__init__") [.ref a, .str z tk]) Q E ⟨h, g, d, t, os⟩ := by
  obtain ⟨bm, N, nm, qn, bs, sn, sub, ab, col, dd, k0, k1, k2, k3, k5, _, hC, T⟩ := clsI_at KX x.ex
  have FF := PySem.F.excBase_ValueError
  refine wpAny_call (codeAny_call_builtin FF.init.plain FF.initEntry (wpAny_check_init_subT FF T hC he rfl ?_))
  wp_walk
  refine hq _ _ (fun b o hb e => ?_) ⟨h.objs.size, ?_⟩
  · rw [Heap.get?_update_other _ _ (Ne.symm hb)]
    exact Heap.get?_push_of_some _ e
  · rw [Heap.get?_update_self _ (Heap.get?_push_of_some _ he) rfl]
    rfl
end
end U


set_option linter.all false
set_option maxRecDepth 100000
set_option maxHeartbeats 4000000
namespace U
open PySem PySem.Spec PyProof.Rows L2
def ExcN (a C : Addr) (h : Heap) : Prop := ∃ x0, h.get? a = some (newX C x0)
theorem excN_stay {a C : Addr} {h1 h2 : Heap} (x : ExcN a C h1) (k : ∀ o, h1.get? a = some o → h2.get? a = some o) : ExcN a C h2 := by
  obtain ⟨x0, e⟩ := x
  exact ⟨x0, k _ e⟩
section
variable {X : Cx} {C f D : Addr} {dn : Str} {c1 c2 : Str} {j1 j2 : Nat} {p1 p2 p3 p4 p5 p6 pos pos' : Pos}
def tJ (i : Nat) : TE := fun σ H Q => ∃ n : Int, σ[i]? = some (some (.int n)) ∧ n.natAbs < 1000000 ∧ ∀ z, Q (.str z) H
theorem fv_ok {i : Nat} {x : Str} {pins : List (Addr × Obj)} {s : Shared} {σ : L2.St} {H : Hp} {n : Int} {Q : Value → Shared → Prop} (hN : X.N[i]? = some x) (hv : Vis X.env.scope x) (I : Inv X pins σ H s) (e : σ[i]? = some (some (.int n))) (hn : n.natAbs < 1000000)
    (hd : (x == ("__debug__" : Str)) = false) (hcd : (x == ("__classdict__" : Str)) = false)
    (h : ∀ tk s1, Inv X pins σ H s1 → Q (.str (toString n) tk) s1) : wpAny (model X.prog X.w) X.A (eval (.FormattedValue (.Name x p1) (-1) none p2) X.env) Q X.xe s := by
  refine FormattedValue_plain (thn (pe_var hN hv hd hcd pins s σ H (fun v H1 => v = .int n ∧ H1 = H) I ⟨_, e, rfl, rfl⟩) fun u s1 ⟨v, H1, I1, r, ev, eh⟩ => ?_)
  subst ev; subst eh
  obtain ⟨tk, rfl⟩ := (show ∃ tk, u = Value.int n tk from r)
  refine formatField_int_small ?_ (h _ _ (I1.tok _))
  by_cases h0 : n.natAbs = 0
  · rw [h0]; decide
  · exact (Nat.log2_lt h0).mpr (Nat.lt_of_lt_of_le hn (Nat.le_trans (show 1000000 ≤ 2 ^ 20 by decide) (Nat.pow_le_pow_right (by decide) (by decide))))
theorem small_text {n : Int} (hn : n.natAbs < 1000000) : (Str.ofString (toString n)).length ≤ 8 := by
  have e := int_text_length_le10 (a := n) (k := 6) (by decide) hn
  rw [PySem.ofString_length]; omega
theorem pe_j2 {i : Nat} {x : Str} (hN : X.N[i]? = some x) (hv : Vis X.env.scope x) (hc : c1.length ≤ 1000) (hd : (x == ("__debug__" : Str)) = false := by decide) (hcd : (x == ("__classdict__" : Str)) = false := by decide) :
    PE X (.JoinedStr [.Constant (.str c1) j1 p3, .FormattedValue (.Name x p1) (-1) none p2] p4) (tJ i) := by
  intro pins s σ H Q I ⟨n, e, hn, h⟩
  have l8 := small_text hn
  refine JoinedStr_many (joinParts_cons (thn (pe_str (X := X) pins s σ H (fun v H1 => v = .str c1 ∧ H1 = H) I ⟨rfl, rfl⟩) fun u s1 ⟨v, H1, I1, r, ev, eh⟩ => ?_))
  subst ev; subst eh
  obtain ⟨tk, rfl⟩ := (show ∃ tk, u = Value.str c1 tk from r)
  refine ⟨by rw [strLen_append, sizeLine_eq]; show 0 + _ ≤ _; omega, ?_⟩
  refine joinParts_cons (fv_ok hN hv I1 e hn hd hcd fun tk s2 I2 => ⟨by rw [strLen_append, strLen_append, sizeLine_eq]; show 0 + _ + _ ≤ _; omega, ?_⟩)
  exact joinParts_nil ⟨.str _, H1, I2.tok _, ⟨_, rfl⟩, h _⟩ (by rw [strLen_append, strLen_append, sizeLine_eq]; show 0 + _ + _ ≤ _; omega)
end

theorem refuse_bmV (self : Value) : refuseLoop self "__setattr__" bmV = pure () := by kernel_rfl
theorem refuse_tail {h : Heap} (self : Value) {bm : List Value} (T : OwnTail h bmV bm) : refuseLoop self "__setattr__" bm = pure () := by
  induction T with
  | base => exact refuse_bmV self
  | own _ _ _ _ ih => rw [refuseLoop_ref]; exact ih
section
variable {prog : Program} {w : World} {A : Around} {E : Value → Shared → Prop} {h : Heap} {g : Array GenState} {d : Drawn} {t : Nat} {os : OsState} {K : PySem.W.Frag} {C f : Addr}
theorem set_I {a x0 : Addr} {n : Nat} {u : Value} {Q : Unit → Shared → Prop} (KX : K.In h) (x : XI K C f) (he : h.get? a = some (newX C x0)) (ru : RelV (.int n) u)
    (hq : ∀ h' o t', (∀ b o, b ≠ a → h.get? b = some o → h'.get? b = some o) → h'.get? a = some { newX C x0 with dict := some h.objs.size } → h'.get? h.objs.size = some o → IsAt o n → Q () ⟨h', g, d, t', os⟩) :
    wpAny (model prog w) A (setAttr (.ref a) "at" u) Q E ⟨h, g, d, t, os⟩ := by
  obtain ⟨bm, N, nm, qn, bs, sn, sub, ab, col, dd, k0, k1, k2, k3, k5, hlk, hC, T⟩ := clsI_at KX x.ex
  have SF := PySem.F.store_object
  have J : PySem.W.InstAt h a (newX C x0) C none := ⟨he, rfl, rfl, trivial⟩
  have sb : PySem.W.Looks (model prog w) h (isInstance (.ref a) (.type "object")) true := J.type.andThen (PySem.W.looks_mroIn KX x.ob)
  have hm : PySem.W.Looks (model prog w) h (mroOf (.ref C)) (.ref C :: bm) := (PySem.W.looks_clsIn KX (by unfold PySem.W.clsIn; rw [hlk])).andThen .now
  refine PySem.W.set_plain (s := ⟨h, g, d, t, os⟩) KX J x.sa (codeAny_call_builtin SF.slot.plain SF.entry (@PySem.W.check_slot (model prog w) _ _ ⟨h, g, d, t + 1, os⟩ "object.__setattr__" "object" "__setattr__" (.ref a) [.str "at" t, u] [] _ SF.kind SF.split sb (SF.args (.ref a) (.str "at" t) u) ?_))
  rw [PySem.W.osa_eq, refuse_eq]
  refine wpAny_bind (wpAny_bind (J.type.here (s := ⟨h, g, d, t + 1, os⟩) (wpAny_bind (hm.here (s := ⟨h, g, d, t + 1, os⟩) ?_))))
  rw [refuseLoop_ref, refuse_tail _ T]
  refine wpAny_pure (wpAny_bind (J.type.here (s := ⟨h, g, d, t + 1, os⟩) (wpAny_bind ((PySem.W.looks_findIn KX x.na).here (s := ⟨h, g, d, t + 1, os⟩) ?_))))
  refine wpAny_bind (wpAny_pure ?_)
  dsimp only
  unfold PySem.Builtin.ObjectAttr.storeInOwnDict
  refine wpAny_bind (wpAny_pure ?_)
  refine wpAny_bind (m := Builtin.ObjectAttr.ownDictForStores (Value.ref a)) ?_
  unfold Builtin.ObjectAttr.ownDictForStores instanceDict
  have hd : h.get? h.objs.size = none := Heap.get?_none_of_le (Nat.le_refl _)
  have na : a ≠ h.objs.size := Nat.ne_of_lt (Heap.lt_size he)
  refine wpAny_bind (wpAny_loadPart he ?_)
  dsimp only [newX]
  unfold classData
  refine wpAny_bind (wpAny_bind (wpAny_load hC ?_))
  refine wpAny_pure ?_
  dsimp only
  rw [if_neg (by decide), if_neg (show ¬ ((!true || !typeHasDict (Value.ref C)) = true) from fun z => by cases z)]
  refine wpAny_bind (wpAny_alloc ?_)
  have he1 := Heap.get?_push_of_some (h := h) { cls := .type "dict", data := .dict #[] } he
  refine wpAny_bind (wpAny_update he1 ?_)
  unfold dictMade
  refine wpAny_pure ?_
  dsimp only
  unfold Builtin.ObjectAttr.storeInDict
  refine wpAny_bind (wpAny_pure ?_)
  have hN1 : ((h.push { cls := .type "dict", data := .dict #[] }).update a fun o => { cls := o.cls, dict := some h.objs.size, data := o.data, slots := o.slots }).Ns1 h.objs.size (fun _ => none) := by
    refine ⟨_, #[], 0, (Heap.get?_update_other _ _ na).trans (Heap.get?_push_size h rfl), rfl, ?_, ?_, fun _ => rfl⟩
    · intro e he; cases (by simpa using he : False)
    · unfold UniqKeys; exact .nil
  refine wpAny_bind (wpAny_nsSet1 hN1 fun h2 hn2 sb2 => ?_)
  obtain ⟨o2, es2, ep2, ho2, hd2, hc2⟩ := hn2.count (ns := ["at"]) (fun y hy => by
    by_cases q : y = "at"
    · rw [q]; exact List.mem_singleton.mpr rfl
    · exact absurd (if_neg q) hy)
  refine wpAny_bind (wpAny_lookBehind ho2 (by rw [hd2]; exact pastItsLine_dict (Nat.le_trans hc2 (by rw [sizeLine_eq]; decide))) ?_)
  refine wpAny_pure (hq h2 o2 _ (fun b o hb e => ?_) ?_ ho2 fun h3 d3 e3 => ?_)
  · rw [sb2.2 b (Nat.ne_of_lt (Heap.lt_size e)), Heap.get?_update_other _ _ (Ne.symm hb)]
    exact Heap.get?_push_of_some _ e
  · rw [sb2.2 a na, Heap.get?_update_self _ he1 rfl]
  · obtain ⟨o4, es4, ep4, ho4, hd4, hk4, hu4, hf4⟩ := hn2
    rw [ho2] at ho4
    cases ho4
    exact ⟨_, u, ⟨_, es4, ep4, e3, hd4, hk4, hf4⟩, if_pos rfl, ru⟩
end
end U


set_option linter.all false
set_option maxRecDepth 100000
set_option maxHeartbeats 4000000
namespace U
open PySem PySem.Spec PyProof.Rows L2
def ExcM (a C dx : Addr) (h : Heap) : Prop := ∃ x0, h.get? a = some { newX C x0 with dict := some dx }
theorem excM_stay {a C dx : Addr} {h1 h2 : Heap} (x : ExcM a C dx h1) (k : ∀ o, h1.get? a = some o → h2.get? a = some o) : ExcM a C dx h2 := by
  obtain ⟨x0, e⟩ := x
  exact ⟨x0, k _ e⟩
theorem push_back {h : Heap} {o u : Obj} {b : Addr} (q : ¬ b = h.objs.size) (e : (h.push o).get? b = some u) : h.get? b = some u := by
  obtain ⟨e1, e2⟩ := Heap.get?_some_iff.mp e
  refine Heap.get?_some_iff.mpr ⟨?_, e2⟩
  obtain ⟨ob, l⟩ := h
  simp only [Heap.push] at e1 q ⊢
  rw [Array.getElem?_push, if_neg q] at e1
  exact e1
structure XD (K : PySem.W.Frag) (D : Addr) : Prop where
  rd : PySem.W.readsIn K D (.type "type") = true
  fc : PySem.W.findCls K (.ref D) (.type "type") "__init__" = some (.val (.builtin "ValueError.__init__"))
  sg : PySem.W.specialIn K (.ref D) "__getattribute__" = some (some (.builtin "type.__getattribute__"))
section
variable {X : Cx} {C f D : Addr} {dn : Str} {vs : List Expr} {p1 p2 p3 p4 p5 p6 pos pos' : Pos}
def tI1 (C : Addr) : TS := fun Dn σ H => ∃ (a : Addr) (n : Int), σ[0]? = some (some (.ref a)) ∧ σ[1]? = some (some (.int n)) ∧ n.natAbs < 1000000 ∧ H a = some (.ext (ExcN a C)) ∧ Dn.nx σ (upd H a (.ext (ExcN a C)))
theorem ps_I1 {pl : Sem Bool} (x : XI X.K C f) (xd : XD X.K D) (hg : Gl X dn) (hm : X.mg dn = some (.ref D)) (h0 : X.N[0]? = some ("self" : Str)) (hv0 : Vis X.env.scope "self") (hj : PE X (.JoinedStr vs p4) (tJ 1)) (hdb : (dn == ("__debug__" : Str)) = false := by decide)
    (hs : swapsWith (.Call (.Attribute (.Name dn p1) "__init__" p2) [.Name "self" p3, .JoinedStr vs p4] [] pos) none pos'.line X.env = pure false := by rfl)
    (he : starEach [.Name "self" p3, .JoinedStr vs p4] X.env = (false, eval (.Name "self" p3) X.env) :: starEach [.JoinedStr vs p4] X.env := by rfl)
    (he2 : starEach [.JoinedStr vs p4] X.env = (false, eval (.JoinedStr vs p4) X.env) :: starEach [] X.env := by rfl)
    (hpl : (backTo pos (starEach [.JoinedStr vs p4] X.env)).any (·.1) = false := by rfl)
    (ht : eval (.Call (.Attribute (.Name dn p1) "__init__" p2) [.Name "self" p3, .JoinedStr vs p4] [] pos) X.env = (do
      let ov ← eval (.Name dn p1) X.env
      standAt p2.atName
      let (f, first) ← holding [ov] (getMethod ov "__init__" pl)
      callWith pos f first (backTo pos (starEach [.Name "self" p3, .JoinedStr vs p4] X.env)) (backToKw pos (keywordEach [] X.env))) := by rfl) :
    PS X (.Expr (.Call (.Attribute (.Name dn p1) "__init__" p2) [.Name "self" p3, .JoinedStr vs p4] [] pos) pos') (tI1 C) := by
  intro pins s σ H Dn I ⟨a, n, e0, e1, hn, ha, q⟩
  have key : wpAny (model X.prog X.w) X.A (eval (.Call (.Attribute (.Name dn p1) "__init__" p2) [.Name "self" p3, .JoinedStr vs p4] [] pos) X.env) (EP X pins σ fun _ H1 => Dn.nx σ H1) X.xe s := by
    refine PySem.W.methodCall_KW (pl := pl) (ld_glob I hg hm ?_ hdb) ht
    refine PySem.W.method_cls I.kIn xd.sg (PySem.W.cls_value I.kIn xd.rd xd.fc rfl ?_)
    refine callWith_builtin1 (thn (pa_cons (pe_var h0 hv0) (pa_cons hj pa_nil he2) he pos pins _ σ H (fun vs H1 => ∃ z, vs = [.ref a, .str z] ∧ H1 = H) (I.tok _) ⟨_, e0, n, e1, hn, fun z => ⟨z, rfl, rfl⟩⟩) fun us s1 ⟨vs, H1, I1, r, z, ev, eh⟩ => ?_) he hpl
    subst ev; subst eh
    obtain ⟨u0, u1, rfl, r0, r1⟩ := vals2 r
    obtain rfl : u0 = Value.ref a := r0
    obtain ⟨tk, rfl⟩ := (show ∃ tk, u1 = Value.str z tk from r1)
    obtain ⟨⟨x0, hx⟩, _, _⟩ := (show ObjOk X.prog X.w H1 s1.heap a (.ext (ExcN a C)) from I1.hok a _ ha)
    obtain ⟨hp, g, d, tk', os⟩ := s1
    refine call_init I1.kIn x hx fun h' t' k ⟨y0, ey⟩ => ?_
    exact ⟨.non, _, I1.write (x := a) (e := a) (o := .ext (ExcN a C)) (by rw [ha]; exact True.intro) (.inl rfl) k ⟨_, ey⟩ ⟨⟨y0, ey⟩, ⟨_, ey⟩, fun h1 h2 => excN_stay⟩, rfl, q⟩
  exact wpAny_Expr_any (thn key fun v s1 ⟨y, H1, I1, r1, q1⟩ => ⟨σ, H1, I1, q1⟩) I.quiet hs
def tI2 (C : Addr) : TS := fun Dn σ H => ∃ (a : Addr) (n : Nat), σ[0]? = some (some (.ref a)) ∧ σ[1]? = some (some (.int n)) ∧ H a = some (.ext (ExcN a C)) ∧
  ∀ dx o, H dx = none → dx ≠ a → IsAt o n → Dn.nx σ (upd (upd H dx (.frz o (.own a))) a (.ext (ExcM a C dx)))
theorem ps_I2 (x : XI X.K C f) (h0 : X.N[0]? = some ("self" : Str)) (hv0 : Vis X.env.scope "self") (h1 : X.N[1]? = some ("at" : Str)) (hv1 : Vis X.env.scope "at")
    (hs : swapsWith (.Name "at" p1) (some (.Attribute (.Name "self" p2) "at" p3)) pos.line X.env = pure false := by rfl) : PS X (.Assign [.Attribute (.Name "self" p2) "at" p3] (.Name "at" p1) pos) (tI2 C) := by
  intro pins s σ H Dn I ⟨a, n, e0, e1, ha, q⟩
  refine plainObj_wpAny_Assign_Attribute (thn (pe_var h1 hv1 (by decide) (by decide) pins s σ H (fun v H1 => v = .int n ∧ H1 = H) I ⟨_, e1, rfl, rfl⟩) fun u s1 ⟨y, H1, I1, ry, ey, eh⟩ => ?_) hs
  subst ey; subst eh
  refine thn (pe_var h0 hv0 (by decide) (by decide) pins s1 σ H1 (fun v H2 => v = .ref a ∧ H2 = H1) I1 ⟨_, e0, rfl, rfl⟩) fun ov s2 ⟨y, H2, I2, ry2, ey, eh⟩ => ?_
  subst ey; subst eh
  obtain rfl : ov = Value.ref a := ry2
  obtain ⟨⟨x0, hx⟩, _, _⟩ := (show ObjOk X.prog X.w H2 s2.heap a (.ext (ExcN a C)) from I2.hok a _ ha)
  obtain ⟨hp, g, d, tk', os⟩ := s2
  refine set_I I2.kIn x hx ry fun h' o t' k ea eo at_ => ?_
  have nf := (Heap.get?_some_iff.mp eo).2
  have e2 : (hp.push o).get? hp.objs.size = some o := Heap.get?_push_size hp nf
  have na : hp.objs.size ≠ a := Nat.ne_of_gt (Heap.lt_size hx)
  have nd : H2 hp.objs.size = none := I2.hok.fresh (Nat.le_refl _)
  have I3 := I2.laid (h' := hp.push o) (a := hp.objs.size) (o := .frz o (.own a)) (t' := t') (fun b u e => Heap.get?_push_of_some _ e) (Nat.le_refl _) ⟨e2, ⟨o, e2⟩⟩
  have ha3 : upd H2 hp.objs.size (.frz o (.own a)) a = some (.ext (ExcN a C)) := by rw [upd_ne (Ne.symm na)]; exact ha
  have I4 := I3.write (x := a) (e := a) (h' := h') (o := .ext (ExcM a C hp.objs.size)) (t' := t') (by rw [ha3]; exact True.intro) (.inl rfl) (fun b u hb e => by
    by_cases q : b = hp.objs.size
    · subst q; rw [e2] at e; cases e; exact eo
    · exact k b u hb (push_back q e)) ⟨_, ea⟩ ⟨⟨x0, ea⟩, ⟨_, ea⟩, fun h1 h2 => excM_stay⟩
  exact ⟨σ, _, I4, q _ o nd na at_⟩
end
end U


set_option linter.all false
set_option maxRecDepth 100000
set_option maxHeartbeats 4000000
namespace U
open PySem PySem.Spec PyProof.Rows L2
variable {B : Bs}
section
variable {X : Cx} {pins : List (Addr × Obj)} {σ : L2.St} {H : Hp} {s : Shared} {a C f : Addr} {M : Model} {E : Value → Shared → Prop}
theorem forget {φ : Heap → Prop} (I : Inv X pins σ (upd H a (.ext φ)) s) (ha : H a = none) : Inv X pins σ H s := by
  have lo : ∀ b o, upd H a (.ext φ) b = some o → (∀ ψ, o ≠ .ext ψ) → H b = some o := fun b o e n => by
    by_cases q : b = a
    · subst q; rw [upd_same] at e; cases e; exact absurd rfl (n φ)
    · rw [upd_ne q] at e; exact e
  have up : ∀ b o, H b = some o → upd H a (.ext φ) b = some o := fun b o e => by rw [upd_ne (ne_of_none e ha)]; exact e
  have no : ∀ b, upd H a (.ext φ) b = none → H b = none := fun b e => by
    by_cases q : b = a
    · rw [q]; exact ha
    · rw [upd_ne q] at e; exact e
  refine ⟨I.ok, I.os, I.bare, ⟨I.base.keep, I.base.slot, fun b o e n hx => no _ (I.base.free b o e n hx), I.base.there, fun b xs e => lo _ _ (I.base.tups b xs e) (fun _ => by nofun), fun b o u e => lo _ _ (I.base.frzs b o u e) (fun _ => by nofun), fun b ps e => ?_⟩, I.loc, I.cell, no _ I.free, fun y c e => no _ (I.freeC y c e), fun p hp => ?_, fun b ob e => ?_, I.len⟩
  · obtain ⟨more, this⟩ := I.base.tbls b ps e
    exact ⟨more, lo _ _ this (fun _ => by nofun)⟩
  · obtain ⟨e, n, ne, nf, d⟩ := I.pin p hp
    exact ⟨e, no _ n, ne, nf, d⟩
  · exact (I.hok b ob (up _ _ e)).stay (fun _ _ _ q => q) (fun c q => lo _ _ q (fun _ => by nofun)) fun c xs q => lo _ _ q (fun _ => by nofun)
open PySem.W in
theorem leave_I {XE : XK} {x0 dx : Addr} {o : Obj} {n : Nat} (I : Inv X pins σ H s) (pl : Plain X) (he : s.heap.get? a = some { newX C x0 with dict := some dx }) (ha : H a = none) (na : X.s₀.heap.get? a = none) (pa : ∀ p ∈ X.pn ++ pins, p.1 ≠ a)
    (hd : H dx = some (.frz o (.own a))) (at_ : IsAt o n) (hE : XE (.ref C) (some n) H) :
    wpAny M X.A (leaving X.env (.ref a)) (fun _ s'' => CXU X.prog X.w X.outer X.H₀ X.s₀ XE (.ref a) s'') E s := by
  have fa : ∀ o, s.heap.get? a = some o → ∃ vs, o.data = .fields vs := fun o e => by rw [he] at e; cases e; exact ⟨_, rfl⟩
  have dat : AtD s.heap a H (some n) := ⟨fun m e => by cases e; exact ⟨_, dx, o, he, rfl, hd, at_⟩, fun z => by cases z⟩
  have ff := hid_ok I [a, a]
  have hfr := I.ok.frames
  rw [pl.stk] at ff hfr
  refine (dk_leaving _ _).use (wpAny_leaving_firstW hfr ff pl.fr he (fun b o e => of_hideAll _ e) (hideAll_none _ (by simp)) rfl rfl rfl fun h' ⟨k1, k2, k3, k4⟩ ke => ?_)
  rw [← pl.stk] at k1 k2 k3
  obtain ⟨I', T', x'⟩ := after_x I pl ha na pa fa a ha na pa fa _ k1 k2 k3 k4 (dat.ke ke)
  have hu := I'.base
  rw [pl.ex] at hu
  exact ⟨a, C, T', H, _, rfl, ⟨x'.fly, x'.dat⟩, ⟨x'.ha, x'.hT⟩, ⟨x'.na, x'.nT⟩, I'.os, I'.bare, hu, I'.hok, hE⟩
end
section
variable {M : Model} {A : Around} {E : Value → Shared → Prop} {s : Shared} {env : Env} {K : PySem.W.Frag} {C f : Addr}
theorem raiseStmt_I {y : Sem Value} {Q : Flow → Shared → Prop} (x : XI K C f) (hh : A.handled = none)
    (h : wpAny M A y (fun v s₁ => ∃ a dx x0, v = .ref a ∧ K.In s₁.heap ∧ s₁.heap.get? a = some { newX C x0 with dict := some dx } ∧ E (.ref a) s₁) E s) :
    wpAny M A (raiseStmt env (some y) none) Q E s := by
  unfold raiseStmt
  refine wpAny_bind (wpAny_mono h (fun v s₁ h₁ => ?_) fun _ _ x => x)
  obtain ⟨a, dx, x0, rfl, KX, he, hE⟩ := h₁
  obtain ⟨bm, N, nm, qn, bs, sn, sub, ab, col, dd, k0, k1, k2, k3, k5, _, hC, T⟩ := clsI_at KX x.ex
  have hcB : (Value.ref C :: bm).contains (.type "BaseException") = true := by rw [List.contains_cons, T.hasType (X := "BaseException") (b := true) (by decide), Bool.or_true]
  obtain ⟨hp, g, d, tk, os⟩ := s₁
  have he' : hp.get? a = some { cls := .ref C, dict := some dx, data := .fields #[.ref x0, .none, .none, .none, .bool false, .none] } := he
  repeat (first | with_reducible refine wpAny_loadPart_at he' ?_ | with_reducible refine wpAny_loadPart_at hC ?_ | (with_reducible refine wpAny_isSubtype_exc hC ?_; rw [hcB]) | wp_step)
  exact wpAny_raiseNew_none hh hE
end
def spI (C : Addr) : Sp := fun vs H Q _ => ∃ (a : Addr) (n : Nat), vs = [.ref a, .int n] ∧ n < 1000000 ∧ H a = some (.ext (ExcN a C)) ∧
  ∀ dx o, H dx = none → dx ≠ a → IsAt o n → Q .non (upd (upd H dx (.frz o (.own a))) a (.ext (ExcM a C dx)))
end U


set_option linter.all false
set_option maxRecDepth 100000
set_option maxHeartbeats 4000000
namespace U
open PySem PySem.Spec PyProof.Rows L2
variable {B : Bs}
section
variable {X : Cx} {k : Nat} {f C : Addr} {fd : FuncData} {ps : List Str} {sp : Sp'} {E : XK} {E' : XK'} {x m : Str} {p pos apos : Pos} {e o : Expr} {es : List Expr} {ta : TE'} {t : TA'}
def xMake (C : Addr) (sp : Sp') (t : TA') : TX' := fun σ H Q E => t σ H fun vs H1 => ∀ x dx, H1 x = none → H1 dx = none → dx ≠ x → sp (.ref x :: vs) (put H1 x (.ins C dx [])) (fun v H2 => v = .non ∧ Q (.ref x) H2) E
theorem runM {pins : List (Addr × Obj)} {σ : L2.St} {H : Hp} {s : Shared} {Q : VK} {us : List Value} {vs : List V} {Ex : Value → Shared → Prop} {σ' : St'} {H' : PHp} {vs' : List PV} {Q' : VK'} {E' : XK'} (pn : Plain X)
    (M : Mk X.K C f) (F : FnOk' X.prog X.w X.K X.mg X.base (CXU X.prog X.w) k f fd ps sp) (hr : Room (k + 1) X.A) (hb : Binds X.K fd ps []) (I : Inv X pins σ H s) (sr : SR X.K B σ' H' σ H) (r : Vals vs us) (r' : RPs X.K H vs' vs)
    (h : ∀ x dx, H' x = none → H' dx = none → dx ≠ x → sp (.ref x :: vs') (put H' x (.ins C dx [])) (fun v H2 => v = .non ∧ Q' (.ref x) H2) E')
    (hQ : ∀ v' H1' v H1, Q' v' H1' → RP X.K H1 v' v → SR X.K B σ' H1' σ H1 → Ev H' H H1' H1 → Q v H1) (hE : ∀ a s1, Come X B pins σ' H' H E' σ a s1 → Ex (.ref a) s1) :
    wpAny (model X.prog X.w) X.A (call (.ref C) us) (EP X pins σ Q) Ex s := by
  have nx : H (s.heap.objs.size + 1) = none := I.hok.fresh (Nat.le_succ _)
  have nd : H s.heap.objs.size = none := I.hok.fresh (Nat.le_refl _)
  have ne : s.heap.objs.size ≠ s.heap.objs.size + 1 := Nat.ne_of_lt (Nat.lt_succ_self _)
  have h2 := h (s.heap.objs.size + 1) s.heap.objs.size (sr.hp.free nx) (sr.hp.free nd) ne
  have I2 := Inv.made (C := C) I
  have nx2 : upd H s.heap.objs.size (.own (s.heap.objs.size + 1)) (s.heap.objs.size + 1) = none := by rw [upd_ne (Ne.symm ne)]; exact nx
  have sd := sr.hid (o := .own (s.heap.objs.size + 1)) nd
  have new : OAt X.K (upd (upd H s.heap.objs.size (.own (s.heap.objs.size + 1))) (s.heap.objs.size + 1) (.ins C s.heap.objs.size [])) (s.heap.objs.size + 1) (.ins C s.heap.objs.size []) := ⟨[], upd_same, .nil⟩
  have s2 := sd.new nx2 new
  have e2 : Ev H' H (put H' (s.heap.objs.size + 1) (.ins C s.heap.objs.size [])) (upd (upd H s.heap.objs.size (.own (s.heap.objs.size + 1))) (s.heap.objs.size + 1) (.ins C s.heap.objs.size [])) := (Ev.hid nd).trans (Ev.new nx2)
  have hsp : lowSp X.K sp (V.ref (s.heap.objs.size + 1) :: vs) (upd (upd H s.heap.objs.size (.own (s.heap.objs.size + 1))) (s.heap.objs.size + 1) (.ins C s.heap.objs.size [])) (fun v H2 => v = .non ∧ Q (.ref (s.heap.objs.size + 1)) H2) (fun c d H1 => ∃ H1', E' c d H1' ∧ HR X.K H1' H1 ∧ Ev H' H H1' H1) := by
    refine ⟨.ref (s.heap.objs.size + 1) :: vs', _, _, E', RPs.cons _ (by simp [RP]) (RPs.kp X.K (e2.kp sr.hp) r'), s2.hp, h2, fun v' H3' v H3 q r3 h3 e3 => ?_, fun c d H3' H3 q h3 e3 => ⟨H3', q, h3, e2.trans e3⟩⟩
    obtain ⟨rfl, q⟩ := q
    simp only [RP] at r3
    exact ⟨r3, hQ _ _ _ _ q (by simp [RP]) (s2.kp e3 h3) (e2.trans e3)⟩
  have r2 : Vals (V.ref (s.heap.objs.size + 1) :: vs) (Value.ref (s.heap.objs.size + 1) :: us) := .cons rfl r
  have hl : (Value.ref (s.heap.objs.size + 1) :: us ++ []).length = ps.length := by
    rw [List.append_nil, ← r2.length]; exact F.len _ _ _ _ hsp
  have hb' := hb _ (Value.ref (s.heap.objs.size + 1) :: us) I2.kIn hl
  rw [List.append_nil] at hb'
  refine wpAny_call (make_map (f := f) I.kIn M.makes M.init (beq_iff_eq.mp M.fn) (codeAny_mono (F.run _ X.stack _ _ ⟨Value.ref (s.heap.objs.size + 1) :: us, []⟩ (Value.ref (s.heap.objs.size + 1) :: us) _ _ _ (hr.make C us [])
    (I2.env0.make C us []) hb' r2 hsp) fun r s' hq' => ?_))
  cases r with
  | error e =>
    have hq : CXU X.prog X.w X.stack _ _ (fun c d H1 => ∃ H1', E' c d H1' ∧ HR X.K H1' H1 ∧ Ev H' H H1' H1) e s' := hq'
    obtain ⟨a, C1, T, H1, d, rfl, I1, x1, ⟨H1', q, h1, e1⟩, _⟩ := from_call I2 pn hq
    exact hE a s' ⟨H1', H1, C1, T, d, I1, x1, sr.kp e1 h1, e1, q⟩
  | ok fl =>
    cases fl with
    | ret u =>
      obtain ⟨v, H', I3, rv, ev, q3⟩ := I2.after hq'
      subst ev
      exact ⟨rv, ⟨V.ref (s.heap.objs.size + 1), H', I3, rfl, q3⟩⟩
    | next => exact False.elim hq'
    | brk => exact False.elim hq'
    | cont => exact False.elim hq'
theorem px_make (pn : Plain X) (M : Mk X.K C f) (F : FnOk' X.prog X.w X.K X.mg X.base (CXU X.prog X.w) k f fd ps sp) (hr : Room (k + 1) X.A) (hg : Gl X x) (hm : X.mg x = some (.ref C)) (hb : Binds X.K fd ps [])
    (ha : PA' X.nox B (e :: es) t) (hdb : (x == ("__debug__" : Str)) = false := by decide) (he : starEach (e :: es) X.env = (false, eval e X.env) :: starEach es X.env := by rfl) (hpl : (backTo pos (starEach es X.env)).any (·.1) = false := by rfl) :
    PXE X B (.Call (.Name x p) (e :: es) [] pos) (xMake C sp t) := by
  intro Ex pins s σ H Q σ' H' Q' E' I sr h hQ hE
  refine wpAny_Call_Name_kw (ld_glob I hg hm ?_ hdb)
  have hA := ha pos pins s σ H (fun vs H1 => ∃ vs' H1', RPs X.K H1 vs' vs ∧ SR X.K B σ' H1' σ H1 ∧ Ev H' H H1' H1 ∧ ∀ x dx, H1' x = none → H1' dx = none → dx ≠ x → sp (.ref x :: vs') (put H1' x (.ins C dx [])) (fun v H2 => v = .non ∧ Q' (.ref x) H2) E') (I.wish _) ⟨σ', H', _, sr, h, fun vs' H1' vs H1 q r s1 e1 => ⟨vs', H1', r, s1, e1, q⟩⟩
  refine PySem.W.callWith_K (h₀ := X.base) I.ok.mod.kin M.kp (thn (no_ex hA) fun us s1 ⟨vs, H1, I1, r, vs', H1', r', s1', e1, q⟩ => ⟨I1.kIn, ?_⟩) he hpl
  exact runM pn M F hr hb I1.unwish s1' r r' q (fun v' H2' v H2 q r2 s2 e2 => hQ v' H2' v H2 q r2 s2 (e1.trans e2)) fun a s2 c => hE a s2 (c.later e1)
end
end U


set_option linter.all false
set_option maxRecDepth 100000
set_option maxHeartbeats 4000000
namespace U
open PySem PySem.Spec PyProof.Rows L2
variable {B : Bs}
section
variable {X : Cx} {k : Nat} {f C D : Addr} {fd : FuncData} {ps : List Str} {E : XK} {E' : XK'} {x : Str} {np pos cpos : Pos} {e : Expr} {ta : TE'}
def riOf (C : Addr) (E' : XK') (v : PV) (H1 : PHp) : Prop := match v with
  | .int i => 0 ≤ i ∧ i < 1000000 ∧ E' (.ref C) (some i.toNat) H1
  | _ => False
theorem w_ri {C : Addr} {E' : XK'} {i : Int} {H1 : PHp} : riOf C E' (.int i) H1 = (0 ≤ i ∧ i < 1000000 ∧ E' (.ref C) (some i.toNat) H1) := rfl
def uRaiseI (C : Addr) (E' : XK') (ta : TE') : TS' := fun _ σ H => ta σ H fun v H1 => riOf C E' v H1
theorem upd_upd {H : Hp} {a b : Addr} {o u v : HO} (h : b ≠ a) : upd (upd (upd H a o) b u) a v = upd (upd H b u) a v := by
  funext c
  by_cases q : c = a
  · subst q; rw [upd_same, upd_same]
  · rw [upd_ne q, upd_ne q]
    by_cases q2 : c = b
    · subst q2; rw [upd_same, upd_same]
    · rw [upd_ne q2, upd_ne q2, upd_ne q]
theorem qs_raiseI (l : Lv X E) (pl : Plain X) (hE : XL X.K B E' E) (hc : X.calm = true) (xi : XI X.K C f) (F : FnOk X.prog X.w X.K X.mg X.base CX0 k f fd ps (spI C)) (hr : Room (k + 1) X.A) (hb : Binds X.K fd ps []) (hg : Gl X x) (hm : X.mg x = some (.ref C))
    (ha : PE' X B e ta) (hdb : (x == ("__debug__" : Str)) = false := by decide) (hst : starEach [e] X.env = (false, eval e X.env) :: starEach [] X.env := by rfl) :
    PS' X B (.Raise (some (.Call (.Name x np) [e] [] cpos)) none pos) (uRaiseI C E' ta) := by
  intro pins s σ H Dn I ⟨σ', H', D', sr, h, dr⟩
  rw [arm_exec_Raise]
  refine wpAny_bind (wpAny_standAt (raiseStmt_I xi (I.ok.hd hc) ?_))
  refine wpAny_bind (wpAny_mono ?_ (fun v s₃ h₃ => wpAny_bind (wpAny_standAt (wpAny_pure h₃))) fun _ _ x => x)
  refine wpAny_Call_Name_kw (ld_glob I hg hm ?_ hdb)
  have hA := pa_cons ha pa_nil hst cpos pins s σ H (fun vs H1 => ∃ (v : V) (n : Nat) (H1' : PHp), vs = [v] ∧ v = .int n ∧ n < 1000000 ∧ SR X.K B σ' H1' σ H1 ∧ Ev H' H H1' H1 ∧ E' (.ref C) (some n) H1') I
    ⟨σ', H', _, sr, h, fun v' H1' v H1 q r s1 e1 => by
      cases v' with
      | int i =>
        obtain ⟨i0, i1, q⟩ := q
        simp only [RP] at r
        exact ⟨v, i.toNat, H1', rfl, by rw [r, Int.toNat_of_nonneg i0], by omega, s1, e1, q⟩
      | _ => exact q.elim⟩
  refine PySem.W.callWith_K (h₀ := X.base) I.ok.mod.kin xi.kp (thn hA fun us s1 ⟨vs, H1, I1, r, v, n, H1', ev, en, hn, s1', e1, q⟩ => ⟨I1.kIn, ?_⟩) hst rfl
  subst ev; subst en
  obtain ⟨hp, g, d, tk, os⟩ := s1
  rw [List.nil_append]
  have hlen : us.length = 1 := by rw [← r.length]; rfl
  have fresh : ∀ b o, hp.get? b = some o → b ≠ hp.objs.size + 1 := fun b o e => Nat.ne_of_lt (Nat.lt_succ_of_lt (Heap.lt_size e))
  have hnone : hp.get? (hp.objs.size + 1) = none := Heap.get?_none_of_le (Nat.le_succ _)
  have ha1 : H1 (hp.objs.size + 1) = none := I1.hok.fresh (Nat.le_succ _)
  have hget : ((hp.push { cls := .type "tuple", data := .seq us.toArray }).push (newX C hp.objs.size)).get? (hp.objs.size + 1) = some (newX C hp.objs.size) := by
    have := Heap.get?_push_size (hp.push { cls := .type "tuple", data := .seq us.toArray }) (o := newX C hp.objs.size) rfl
    rw [Heap.size_push] at this
    exact this
  have I2 := I1.laid (h' := (hp.push { cls := .type "tuple", data := .seq us.toArray }).push (newX C hp.objs.size)) (a := hp.objs.size + 1) (o := .ext (ExcN (hp.objs.size + 1) C)) (t' := tk)
    (fun b u e => Heap.get?_push_of_some _ (Heap.get?_push_of_some _ e)) (Nat.le_succ _) ⟨⟨_, hget⟩, ⟨_, hget⟩, fun h1 h2 => excN_stay⟩
  refine call_I I1.kIn xi (by rw [hlen]; exact small_size (by decide)) ?_
  have hsp : spI C [.ref (hp.objs.size + 1), .int n] (upd H1 (hp.objs.size + 1) (.ext (ExcN (hp.objs.size + 1) C)))
      (fun v H3 => v = .non ∧ ∃ dx o, H1 dx = none ∧ dx ≠ hp.objs.size + 1 ∧ IsAt o n ∧ H3 = upd (upd H1 dx (.frz o (.own (hp.objs.size + 1)))) (hp.objs.size + 1) (.ext (ExcM (hp.objs.size + 1) C dx))) (fun _ _ _ => False) :=
    ⟨_, n, rfl, hn, upd_same, fun dx o hd ne ha => ⟨rfl, dx, o, by rw [upd_ne ne] at hd; exact hd, ne, ha, upd_upd ne⟩⟩
  have r2 : Vals [V.ref (hp.objs.size + 1), V.int n] (Value.ref (hp.objs.size + 1) :: us) := .cons rfl r
  have hl : (Value.ref (hp.objs.size + 1) :: us ++ []).length = ps.length := by rw [List.append_nil, ← r2.length]; exact F.len _ _ _ _ hsp
  have hb' := hb _ (Value.ref (hp.objs.size + 1) :: us) I2.kIn hl
  rw [List.append_nil] at hb'
  refine wpAny_call (codeAny_mono (F.run _ X.stack _ _ ⟨Value.ref (hp.objs.size + 1) :: us, []⟩ (Value.ref (hp.objs.size + 1) :: us) _ _ _ (hr.make C us []) (I2.env0.make C us []) hb' r2 hsp) fun rr s' hq' => ?_)
  cases rr with
  | error e => exact False.elim hq'
  | ok fl =>
    cases fl with
    | ret u =>
      obtain ⟨v, H3, I3, rv, ev, dx, o, hd, ne, at_, eH⟩ := I2.after hq'
      subst ev; subst eH
      refine ⟨rv, hp.objs.size + 1, dx, ?_⟩
      obtain ⟨⟨x0, hx⟩, _, _⟩ := (show ObjOk X.prog X.w _ s'.heap (hp.objs.size + 1) (.ext (ExcM (hp.objs.size + 1) C dx)) from I3.hok _ _ upd_same)
      have ha3 : upd H1 dx (.frz o (.own (hp.objs.size + 1))) (hp.objs.size + 1) = none := by rw [upd_ne (Ne.symm ne)]; exact ha1
      have I4 := forget I3 ha3
      refine ⟨x0, rfl, I3.kIn, hx, ?_⟩
      rw [l]
      refine leave_I I4 pl hx ha3 (entry_none I1 pl hnone) (fun p hp' z => ?_) upd_same at_ (hE _ _ H1' _ q (s1'.hp.hid hd) ((s1'.ev).trans (Ev.hid hd)))
      have := (I1.pin p hp').1
      rw [z] at this
      have hz : hp.get? (hp.objs.size + 1) = some p.2 := this
      rw [hnone] at hz; cases hz
    | next => exact False.elim hq'
    | brk => exact False.elim hq'
    | cont => exact False.elim hq'
end
end U


set_option linter.all false
set_option maxRecDepth 100000
set_option maxHeartbeats 4000000
namespace U
open PySem PySem.Spec PyProof.Rows L2
variable {B : Bs}
theorem ns_look {h : Heap} {d : Addr} {m : Str → Option Value} {nm : Str} {u : Value} (hn : h.Ns d m) (hm : m nm = some u) : ∃ o, h.get? d = some o ∧ nsLook nm o = pure (some u) := by
  obtain ⟨o, es, ep, ho, hd, hk, hf⟩ := hn
  refine ⟨o, ho, ?_⟩
  have q := hf nm
  rw [hm] at q
  simp only [nsLook_eq, nsLookByArray, hd]
  simp only [nsFind, findBy] at q
  cases hg : es.find? (·.key.isStr nm) with
  | none => rw [hg] at q; cases q
  | some e => rw [hg] at q; cases q; rfl
section
variable {prog : Program} {w : World} {A : Around} {E : Value → Shared → Prop} {h : Heap} {g : Array GenState} {d : Drawn} {t : Nat} {os : OsState} {K : PySem.W.Frag} {C f a dx : Addr} {o ob : Obj}
theorem at_check {M : Model} {tk : Tok} {Q : Unit → Shared → Prop} (KX : K.In h) (hx : h.get? a = some ob) (hc : ob.cls = .ref C) (hm : PySem.W.mroIn K C (.type "BaseException") = some true) (hq : Q () ⟨h, g, d, t, os⟩) :
    wpAny M A (checkBuiltinCall "BaseException.__getattribute__" ⟨[.ref a, .str "at" tk], []⟩) Q E ⟨h, g, d, t, os⟩ := by
  have LB : PySem.W.Looks M h (isSubtype (.ref C) (.type "BaseException")) true := PySem.W.looks_mroIn KX hm
  simp only [checkBuiltinCall, be_kind, be_split]
  repeat (first | (with_reducible refine wpAny_loadPart_at hx ?_; rw [hc]) | with_reducible refine LB.at ?_ | wp_step)
  exact hq
theorem at_entry {tk : Tok} {m : Str → Option Value} {u : Value} {vs : Array Value} {Q : Fin → Shared → Prop} (KX : K.In h) (xi : XI K C f) (hx : h.get? a = some ob) (hc : ob.cls = .ref C) (hdd : ob.dict = some dx) (hdt : ob.data = .fields vs) (hn : h.Ns dx m) (hm : m "at" = some u)
    (hq : Q (.done (.ret u)) ⟨h, g, d, t, os⟩) : wpAny (model prog w) A (Builtin.«object.__getattribute__» ⟨[.ref a, .str "at" tk], []⟩) Q E ⟨h, g, d, t, os⟩ := by
  obtain ⟨bm, N, nm, qn, bs, sn, sub, ab, col, dd, k0, k1, k2, k3, k5, hlk, hC, T⟩ := clsI_at KX xi.ex
  have LF : PySem.W.Looks (model prog w) h (typeLookup (.ref C) "at") none := PySem.W.looks_findIn KX xi.na
  obtain ⟨oc, od, oda, osl⟩ := ob
  dsimp only at hc hdd hdt
  subst hc hdd hdt
  repeat (any_goals (first | assumption | with_reducible refine wpAny_loadPart_at hx ?_ | with_reducible refine LF.at ?_ | wp_step))
  obtain ⟨o2, ho2, hl2⟩ := ns_look hn hm
  refine wpAny_loadPart ho2 ?_
  rw [hl2]
  refine wpAny_pure (wpAny_bind (wpAny_rule (wpAny_pure ?_)))
  exact wpAny_pure hq
theorem at_by {tk : Tok} {m : Str → Option Value} {u : Value} {vs : Array Value} {fl ex : Bool} {Q : Value → Shared → Prop} (KX : K.In h) (xi : XI K C f) (hx : h.get? a = some ob) (hc : ob.cls = .ref C) (hdd : ob.dict = some dx) (hdt : ob.data = .fields vs) (hn : h.Ns dx m) (hm : m "at" = some u)
    (hh : PySem.W.handedIn u = true) (hq : Q u ⟨h, g, d, t, os⟩) : wpAny (model prog w) A (getAttrBy (.ref a) (.str "at" tk) fl ex) Q E ⟨h, g, d, t, os⟩ := by
  have LG : PySem.W.Looks (model prog w) h (typeLookup (.ref C) "__getattribute__") (some (.builtin "BaseException.__getattribute__")) := PySem.W.looks_findIn KX xi.ga
  have LH : PySem.W.Looks (model prog w) h (typeLookup (.ref C) "__getattr__") none := PySem.W.looks_findIn KX xi.gt
  have f3 := be_bind (.ref a)
  unfold getAttrBy
  refine wpAny_holding ?_
  repeat (first | (with_reducible refine wpAny_loadPart_at hx ?_; rw [hc]) | with_reducible refine LG.at ?_ | with_reducible refine LH.at ?_ | wp_step)
  rw [show (ex && onTheHeap (Value.builtin "BaseException.__getattribute__")) = false from Bool.and_false _, if_neg (by decide)]
  unfold boundAndCalled
  rw [f3]
  refine wpAny_bind (wpAny_pure (wpAny_call ?_))
  refine codeAny_call_builtin_at (Code.quiet_builtin _ (by decide +kernel)) be_entry (at_check KX hx hc xi.be (at_entry KX xi hx hc hdd hdt hn hm ?_))
  show wpAny (model prog w) A (handedOut u) Q E _
  exact PySem.W.handed_on hh hq
end
section
variable {X : Cx} {C f a dx : Addr} {n : Nat} {o : Obj} {pins : List (Addr × Obj)} {σ : L2.St} {H : Hp} {s : Shared} {e : Expr} {ta : TE'} {pos : Pos}
theorem at_ok {A : Around} {E : Value → Shared → Prop} {b : Bool} {Q : Value → Shared → Prop} (I : Inv X pins σ H s) (xi : XI X.K C f) (ea : H a = some (.ext (ExcD a C dx))) (hd : H dx = some (.frz o (.own a))) (at_ : IsAt o n)
    (h : ∀ u s', Inv X pins σ H s' → RelV (.int n) u → Q u s') : wpAny (model X.prog X.w) A (getAttr (.ref a) "at" b) Q E s := by
  obtain ⟨⟨ob, hx, hc, hdd, vs, hdt⟩, _, _⟩ := (show ObjOk X.prog X.w H s.heap a (.ext (ExcD a C dx)) from I.hok a _ ea)
  obtain ⟨ho, _⟩ := (show ObjOk X.prog X.w H s.heap dx (.frz o (.own a)) from I.hok dx _ hd)
  obtain ⟨m, u, hn, hm, ru⟩ := at_ _ _ ho
  have KX := I.kIn
  have Iq := h u _ (I.tok (s.toks + 1)) ru
  obtain ⟨hp, g, d, t, os⟩ := s
  unfold getAttr
  exact wpAny_bind (wpAny_mkText (at_by KX xi hx hc hdd hdt hn hm (handed_of ru) Iq))
def atOf (K : PySem.W.Frag) (x : PV) (H : PHp) (Q : VK') : Prop := match x with
  | .ref a => ∃ C f n, H a = some (.excA C n) ∧ XI K C f ∧ Q (.int (n : Nat)) H
  | _ => False
theorem w_at {K : PySem.W.Frag} {a : Addr} {H : PHp} {Q : VK'} : atOf K (.ref a) H Q = ∃ C f n, H a = some (.excA C n) ∧ XI K C f ∧ Q (.int (n : Nat)) H := rfl
def uAt (K : PySem.W.Frag) (ta : TE') : TE' := fun σ H Q => ta σ H fun x H1 => atOf K x H1 Q
theorem qe_at (he : PE' X B e ta) (hb : attributeBase e "at" X.env (eval e X.env) = eval e X.env) : PE' X B (.Attribute e "at" pos) (uAt X.K ta) := by
  intro pins s σ H Q I ⟨σ', H', Q', sr, h, k⟩
  refine attr_of hb (thn (he pins s σ H (fun x H1 => ∃ x' H1', RP X.K H1 x' x ∧ SR X.K B σ' H1' σ H1 ∧ Ev H' H H1' H1 ∧ atOf X.K x' H1' Q') I ⟨σ', H', _, sr, h, fun v' H1' v H1 q r s1 e1 => ⟨v', H1', r, s1, e1, q⟩⟩) fun u s1 ⟨x, H1, I1, rx, x', H1', r', s1', e1, q⟩ => ?_)
  cases x' with
  | ref a =>
    obtain ⟨C, f, n, ea, xi, q⟩ := q
    simp only [RP] at r'
    subst r'
    obtain rfl : u = Value.ref a := rx
    obtain ⟨dx, o, z1, z2, z3⟩ := s1'.hp _ _ ea
    exact at_ok I1 xi z1 z2 z3 fun u' s2 I2 ru => ⟨.int n, H1, I2, ru, k _ _ _ _ q (by simp [RP]) s1' e1⟩
  | _ => exact q.elim
end
section
variable {X : Cx} {k : Nat} {f C : Addr} {fd : FuncData} {ps : List Str} {sp : Sp'} {E : XK} {E' : XK'} {x m : Str} {p pos apos : Pos} {e o : Expr} {es : List Expr} {ta : TE'} {t : TA'}
end
end U


set_option linter.all false
set_option maxRecDepth 100000
set_option maxHeartbeats 4000000
namespace U
open PySem PySem.Spec PyProof.Rows L2
variable {B : Bs}
structure RoomH (k : Nat) (A : Around) : Prop where
  dp : A.depth + 3 * k + 5 < recursionLimit
  un : A.units + 16 * k + 200 < cLine
theorem room_h {k : Nat} {A : Around} (r : Room k A) : RoomH k A := ⟨r.dp, r.un⟩
theorem RoomH.mark {k : Nat} {A : Around} (r : RoomH k A) (e : Option Value) : RoomH k (A.mark e) := ⟨r.dp, r.un⟩
theorem RoomH.make {k : Nat} {A : Around} (r : RoomH (k + 1) A) (C : Addr) (us : List Value) (kw : List (Str × Value)) : RoomH k (A.under (.builtin "type.__call__" ⟨.ref C :: us, kw⟩)) :=
  ⟨by have := r.dp; rw [make_depth]; omega, by have := r.un; rw [make_units]; omega⟩
structure FnH (P : Program) (w : World) (K : PySem.W.Frag) (mg : Str → Option Value) (base : Heap) (CX : CXT) (k : Nat) (f : Addr) (fd : FuncData) (ps : List Str) (sp : Sp) : Prop where
  len : ∀ vs H Q E, sp vs H Q E → vs.length = ps.length
  run : ∀ (A : Around) (outer : List Env) (s : Shared) (H : Hp) (args : Args) (us : List Value) (vs : List V) (Q : VK) (E : XK), RoomH k A → Env0 P w K mg base A outer s H → BindsTo s fd args (ps.zip us) → Vals vs us → sp vs H Q E →
    codeAny (model P w) A (.call (.ref f) args) (CR CX outer P w H s Q E) s
section
variable {P : Program} {w : World} {K : PySem.W.Frag} {mg : Str → Option Value} {base : Heap}
theorem FnH.ok {CX : CXT} {k : Nat} {f : Addr} {fd : FuncData} {ps : List Str} {sp : Sp} (F : FnH P w K mg base CX k f fd ps sp) : FnOk P w K mg base CX k f fd ps sp :=
  ⟨F.len, fun A outer s H args us vs Q E hr => F.run A outer s H args us vs Q E (room_h hr)⟩
abbrev cxH (CX : CXT) (P : Program) (w : World) (K : PySem.W.Frag) (mg : Str → Option Value) (base : Heap) (N : List Str) (qual : Str) (scope : Scope) (f : Addr) (cd : Value) (A : Around) (outer : List Env) (s : Shared) (H : Hp) (E : XK) : Cx :=
  { cxOf CX P w K mg base N qual scope f cd A outer s H E with calm := false }
theorem fnH_of {CX : CXT} {x qual : Str} {st : Stmt} {f : Addr} {fd : FuncData} {N ps : List Str} {k : Nat} {sp : Sp} (F : Fun K x qual st f fd) (S : FnScope N ps (defScope st)) (len : ∀ vs H Q E, sp vs H Q E → vs.length = ps.length)
    (hbody : ∀ (cdv : Value) (A : Around) (outer : List Env) (s : Shared) (H : Hp) (vs : List V) (Q : VK) (E : XK), sp vs H Q E →
      ∃ t, PSs (cxH CX P w K mg base N qual (defScope st) f cdv A outer s H E) (defBody st) t ∧ t { nx := fun _ H' => Q .non H', rt := Q } (start N vs) H) : FnH P w K mg base CX (k + 1) f fd ps sp := by
  obtain ⟨oc, od, kV, doc, pm, an, cdv, ct, osl, rfl, lk, hcd⟩ := F.ex
  refine ⟨len, fun A outer s H args us vs Q E hr e0 hb r hsp => ?_⟩
  have hl := len _ _ _ _ hsp
  have KX : K.In s.heap := e0.mod.kin.keeps fun b o e => (e0.bs b o e).1
  have lim : s.heap.NoLimit := e0.mod.nolimit.keeps fun b o e => (e0.bs b o e).1
  have hkind : ∀ y ∈ ps.zip us, (defScope st).names.lookup y.1 = some .local ∨ ((defScope st).names.lookup y.1 = some .cell ∧ ((cellsFrom (s.heap.objs.size + 1) (defScope st).names []).lookup y.1).isSome = true) := fun ⟨n, v⟩ hy => by
    rcases S.par n (List.of_mem_zip hy).1 with q | q
    · exact .inl q
    · exact .inr ⟨q, PySem.W.cellsFrom_some _ _ _ (.inl q)⟩
  have hdp : A.depth < recursionLimit := by have := hr.dp; omega
  refine codeAny_call_function hdp (KX _ _ lk) rfl S.co S.gen rfl (PySem.W.codeRec_of KX hcd) (hb _ _ _ _ ?_)
  refine wpAny_newFunctionEnv_cells S.kind hkind fun env he s1 x => ?_
  subst he
  refine ⟨lim.keeps x.toInCall.keep, codeAny_func ?_⟩
  obtain ⟨t, ht, hq⟩ := hbody cdv A outer s H vs Q E hsp
  have e1 : Env0 P w K mg base { A with handled := none } outer s H := ⟨e0.frames, e0.mod, e0.bs, e0.bsz, e0.funs, e0.frf, e0.hok, e0.bare⟩
  have I0 : Inv (cxOf CX P w K mg base N qual (defScope st) f cdv { A with handled := none } outer s H E) [] (start N vs) H s1 := inv_start S rfl e1 hl r x
  have I : Inv (cxH CX P w K mg base N qual (defScope st) f cdv A outer s H E) [] (start N vs) H s1 :=
    ⟨⟨I0.ok.mod, I0.ok.kind, I0.ok.glob, I0.ok.blt, I0.ok.above, I0.ok.inj, I0.ok.has, I0.ok.cab, (fun z => by cases z), Around.frames_deeper e0.frames, I0.ok.stk, I0.ok.exf, I0.ok.bs, I0.ok.bsz, I0.ok.noex, I0.ok.exfs, I0.ok.funs, I0.ok.frf⟩, I0.os, I0.bare, I0.base, I0.loc, I0.cell, I0.free, I0.freeC, I0.pin, I0.hok, I0.len⟩
  refine wpAny_mono (ht [] s1 (start N vs) H _ I hq) (fun fl s' hs => ?_) fun e s' hs => hs
  have fin : ∀ {σ' : L2.St} {H' : Hp} {v : V} {u : Value}, Inv (cxH CX P w K mg base N qual (defScope st) f cdv A outer s H E) [] σ' H' s' → RelV v u → Q v H' → CE outer P w H s Q u s' :=
    fun {σ' H' v u} J rv q => ⟨v, H', J.os, J.bare, J.base, J.hok, rv, q⟩
  cases fl with
  | ret u =>
    obtain ⟨v, σ', H', J, rv, q⟩ := hs
    exact fin J rv q
  | next =>
    obtain ⟨σ', H', J, q⟩ := hs
    exact fin (v := V.non) (u := Value.none) J rfl q
  | brk =>
    obtain ⟨_, _, _, q⟩ := hs
    exact False.elim q
  | cont =>
    obtain ⟨_, _, _, q⟩ := hs
    exact False.elim q
end
section
variable {prog : Program} {w : World} {A : Around} {E : Value → Shared → Prop} {s : Shared} {env : Env} {K : PySem.W.Frag} {C f : Addr}
theorem raise_some {α : Type} {a b : Addr} {oa ob : Obj} {va : Array Value} {Q : α → Shared → Prop} (hh : A.handled = some (.ref b)) (hne : b ≠ a) (ha : s.heap.get? a = some oa) (hda : oa.data = .fields va) (hsz : 2 < va.size) (hb : s.heap.get? b = some ob) (h2 : F2 ob = some .none)
    (h : E (.ref a) { s with heap := s.heap.update a (Obj.mapFields (·.setIfInBounds 2 (.ref b))) }) : wpAny (model prog w) A (raiseNew (.ref a) : Sem α) Q E s := by
  have he : entryFor table "proto.unchain" = some Builtin.«proto.unchain» := entryFor_of_fast (by kernel_rfl)
  obtain ⟨vb, hdb, hvb⟩ : ∃ vb, ob.data = .fields vb ∧ vb[2]? = some .none := by
    unfold F2 at h2
    split at h2
    · exact ⟨_, by assumption, h2⟩
    · cases h2
  unfold raiseNew
  refine wpAny_bind (wpAny_handled ?_)
  rw [hh]
  dsimp only
  rw [if_pos (show (Value.ref b != Value.ref a) = true from by simp [hne])]
  refine wpAny_bind (wpAny_holding (wpAny_runValue (codeAny_builtin he ?_)))
  unfold Builtin.«proto.unchain»
  refine wpAny_bind (wpAny_field hb hdb hvb ?_)
  wp_walk
  rw [hda]
  dsimp only
  rw [if_pos hsz]
  exact wpAny_update ha (wpAny_throw h)
theorem raiseStmt_H {y : Sem Value} {b : Addr} {Q : Flow → Shared → Prop} (x : XI K C f) (hh : A.handled = some (.ref b))
    (h : wpAny (model prog w) A y (fun v s₁ => ∃ a dx x0 ob, v = .ref a ∧ K.In s₁.heap ∧ s₁.heap.get? a = some { newX C x0 with dict := some dx } ∧ b ≠ a ∧ s₁.heap.get? b = some ob ∧ F2 ob = some .none ∧
      E (.ref a) { s₁ with heap := s₁.heap.update a (Obj.mapFields (·.setIfInBounds 2 (.ref b))) }) E s) :
    wpAny (model prog w) A (raiseStmt env (some y) none) Q E s := by
  unfold raiseStmt
  refine wpAny_bind (wpAny_mono h (fun v s₁ h₁ => ?_) fun _ _ x => x)
  obtain ⟨a, dx, x0, ob, rfl, KX, he, ne, hb, h2, hE⟩ := h₁
  obtain ⟨bm, N, nm, qn, bs, sn, sub, ab, col, dd, k0, k1, k2, k3, k5, _, hC, T⟩ := clsI_at KX x.ex
  have hcB : (Value.ref C :: bm).contains (.type "BaseException") = true := by rw [List.contains_cons, T.hasType (X := "BaseException") (b := true) (by decide), Bool.or_true]
  obtain ⟨hp, g, d, tk, os⟩ := s₁
  have he' : hp.get? a = some { cls := .ref C, dict := some dx, data := .fields #[.ref x0, .none, .none, .none, .bool false, .none] } := he
  repeat (first | with_reducible refine wpAny_loadPart_at he' ?_ | with_reducible refine wpAny_loadPart_at hC ?_ | (with_reducible refine wpAny_isSubtype_exc hC ?_; rw [hcB]) | wp_step)
  exact raise_some hh ne he rfl (by simp) hb h2 hE
end
end U


set_option linter.all false
set_option maxRecDepth 100000
set_option maxHeartbeats 4000000
namespace U
open PySem PySem.Spec PyProof.Rows L2
variable {B : Bs}
section
variable {X : Cx} {k : Nat} {f C D : Addr} {fd : FuncData} {ps : List Str} {E : XK} {E' : XK'} {x : Str} {np pos cpos : Pos} {e : Expr}
theorem made_I {te : TE} {n : Nat} {pins : List (Addr × Obj)} {σ : L2.St} {H : Hp} {s : Shared} {Q : Value → Shared → Prop} (pl : Plain X) (xi : XI X.K C f) (F : FnH X.prog X.w X.K X.mg X.base CX0 k f fd ps (spI C)) (hr : RoomH (k + 1) X.A) (hb : Binds X.K fd ps []) (hg : Gl X x) (hm : X.mg x = some (.ref C))
    (I : Inv X pins σ H s) (ha : PE X e te) (he : te σ H fun v H1 => v = .int n ∧ H1 = H) (hn : n < 1000000)
    (h : ∀ a dx x0 o s', Inv X pins σ (upd H dx (.frz o (.own a))) s' → s'.heap.get? a = some { newX C x0 with dict := some dx } → H dx = none → H a = none → dx ≠ a → X.s₀.heap.get? a = none → (∀ p ∈ X.pn ++ pins, p.1 ≠ a) → IsAt o n → Q (.ref a) s')
    (hdb : (x == ("__debug__" : Str)) = false := by decide) (hst : starEach [e] X.env = (false, eval e X.env) :: starEach [] X.env := by rfl) :
    wpAny (model X.prog X.w) X.A (eval (.Call (.Name x np) [e] [] cpos) X.env) Q X.xe s := by
  refine wpAny_Call_Name_kw (ld_glob I hg hm ?_ hdb)
  have hA := pa_cons ha pa_nil hst cpos pins s σ H (fun vs H1 => vs = [.int n] ∧ H1 = H) I (by
    have z := he
    show te σ H fun v H1 => tNil σ H1 fun vs H2 => (v :: vs) = [.int n] ∧ H2 = H
    have e : (fun (v : V) (H1 : Hp) => tNil σ H1 fun vs H2 => (v :: vs) = [V.int n] ∧ H2 = H) = fun v H1 => v = .int n ∧ H1 = H := by
      funext v H1
      simp [tNil]
    rw [e]; exact z)
  refine PySem.W.callWith_K (h₀ := X.base) I.ok.mod.kin xi.kp (thn hA fun us s1 ⟨vs, H1, I1, r, ev, eh⟩ => ⟨I1.kIn, ?_⟩) hst rfl
  subst ev; subst eh
  obtain ⟨hp, g, d, tk, os⟩ := s1
  rw [List.nil_append]
  have hlen : us.length = 1 := by rw [← r.length]; rfl
  have hnone : hp.get? (hp.objs.size + 1) = none := Heap.get?_none_of_le (Nat.le_succ _)
  have ha1 : H1 (hp.objs.size + 1) = none := I1.hok.fresh (Nat.le_succ _)
  have hget : ((hp.push { cls := .type "tuple", data := .seq us.toArray }).push (newX C hp.objs.size)).get? (hp.objs.size + 1) = some (newX C hp.objs.size) := by
    have := Heap.get?_push_size (hp.push { cls := .type "tuple", data := .seq us.toArray }) (o := newX C hp.objs.size) rfl
    rw [Heap.size_push] at this
    exact this
  have I2 := I1.laid (h' := (hp.push { cls := .type "tuple", data := .seq us.toArray }).push (newX C hp.objs.size)) (a := hp.objs.size + 1) (o := .ext (ExcN (hp.objs.size + 1) C)) (t' := tk)
    (fun b u e => Heap.get?_push_of_some _ (Heap.get?_push_of_some _ e)) (Nat.le_succ _) ⟨⟨_, hget⟩, ⟨_, hget⟩, fun h1 h2 => excN_stay⟩
  refine call_I I1.kIn xi (by rw [hlen]; exact small_size (by decide)) ?_
  have hsp : spI C [.ref (hp.objs.size + 1), .int n] (upd H1 (hp.objs.size + 1) (.ext (ExcN (hp.objs.size + 1) C)))
      (fun v H3 => v = .non ∧ ∃ dx o, H1 dx = none ∧ dx ≠ hp.objs.size + 1 ∧ IsAt o n ∧ H3 = upd (upd H1 dx (.frz o (.own (hp.objs.size + 1)))) (hp.objs.size + 1) (.ext (ExcM (hp.objs.size + 1) C dx))) (fun _ _ _ => False) :=
    ⟨_, n, rfl, hn, upd_same, fun dx o hd ne ha => ⟨rfl, dx, o, by rw [upd_ne ne] at hd; exact hd, ne, ha, upd_upd ne⟩⟩
  have r2 : Vals [V.ref (hp.objs.size + 1), V.int n] (Value.ref (hp.objs.size + 1) :: us) := .cons rfl r
  have hl : (Value.ref (hp.objs.size + 1) :: us ++ []).length = ps.length := by rw [List.append_nil, ← r2.length]; exact F.len _ _ _ _ hsp
  have hb' := hb _ (Value.ref (hp.objs.size + 1) :: us) I2.kIn hl
  rw [List.append_nil] at hb'
  refine wpAny_call (codeAny_mono (F.run _ X.stack _ _ ⟨Value.ref (hp.objs.size + 1) :: us, []⟩ (Value.ref (hp.objs.size + 1) :: us) _ _ _ (hr.make C us []) (I2.env0.make C us []) hb' r2 hsp) fun rr s' hq' => ?_)
  cases rr with
  | error e => exact False.elim hq'
  | ok fl =>
    cases fl with
    | ret u =>
      obtain ⟨v, H3, I3, rv, ev, dx, o, hd, ne, at_, eH⟩ := I2.after hq'
      subst ev; subst eH
      refine ⟨rv, ?_⟩
      obtain ⟨⟨x0, hx⟩, _, _⟩ := (show ObjOk X.prog X.w _ s'.heap (hp.objs.size + 1) (.ext (ExcM (hp.objs.size + 1) C dx)) from I3.hok _ _ upd_same)
      have ha3 : upd H1 dx (.frz o (.own (hp.objs.size + 1))) (hp.objs.size + 1) = none := by rw [upd_ne (Ne.symm ne)]; exact ha1
      refine h _ dx x0 o s' (forget I3 ha3) hx hd ha1 ne (entry_none I1 pl hnone) (fun p hp' z => ?_) at_
      have := (I1.pin p hp').1
      rw [z] at this
      have hz : hp.get? (hp.objs.size + 1) = some p.2 := this
      rw [hnone] at hz; cases hz
    | next => exact False.elim hq'
    | brk => exact False.elim hq'
    | cont => exact False.elim hq'
end
section
variable {X : Cx} {pins : List (Addr × Obj)} {σ : L2.St} {H : Hp} {s : Shared} {a C T : Addr} {d : Option Addr} {M : Model} {E : Value → Shared → Prop} {Q : Unit → Shared → Prop}
open PySem.W in
theorem note_1 {A : Around} {oe : Obj} {vs : Array Value} {a0 : Value} (I : Inv X pins σ H s) (pl : Plain X) (hA : A.frames = X.A.frames) (he : s.heap.get? a = some oe) (hc : oe.cls = .ref C) (hd : oe.data = .fields vs) (h0 : vs[0]? = some a0) (h1 : vs[1]? = some .none) (ha : H a = none) (na : X.s₀.heap.get? a = none) (pa : ∀ p ∈ X.pn ++ pins, p.1 ≠ a)
    (dat : AtD s.heap a H d) (h : ∀ h' T', Inv X pins σ H { s with heap := h' } → XAt X pins H { s with heap := h' } a C T' (rawInt X.env.locals) d → Q () { s with heap := h' }) : wpAny M A (noteFrame (.ref a) X.env) Q E s := by
  have fa : ∀ o, s.heap.get? a = some o → ∃ vs, o.data = .fields vs := fun o e => by rw [he] at e; cases e; exact ⟨_, hd⟩
  have ff := hid_ok I [a, a]
  have hfr := hA.trans I.ok.frames
  rw [pl.stk] at ff hfr
  refine (dk_note _ _).use ?_
  unfold noteFrame
  simp only [pl.fr]
  refine wpAny_bind (wpAny_field he hd h1 ?_)
  rw [if_neg (by decide)]
  refine wpAny_entryW hfr ff pl.fr he (fun b o e => of_hideAll _ e) (hideAll_none _ (by simp)) hd (Array.getElem?_eq_some_iff.mp h1).1 h0 fun h' ⟨k1, k2, k3, k4⟩ ke => ?_
  rw [← pl.stk] at k1 k2 k3
  rw [hc] at k3
  obtain ⟨I', T', x'⟩ := after_x I pl ha na pa fa a ha na pa fa _ k1 k2 k3 k4 (dat.ke ke)
  exact h h' T' I' x'
theorem back_x {A : Around} (I : Inv X pins σ H s) (pl : Plain X) (x : XAt X pins H s a C T (rawInt X.env.locals) d)
    (h : ∀ h', Inv X pins σ H { s with heap := h' } → XAt X pins H { s with heap := h' } a C T (rawInt X.env.locals) d → E (.ref a) { s with heap := h' }) : cameBackBy M A X.env E (.ref a) s := by
  obtain ⟨oe, vs, oT, ts, a0, e1, e2, e3, e4, e5, e7, e8, e9, e10⟩ := id x.fly
  obtain ⟨d1, d2⟩ := x.data
  have hsz : 3 < ts.size := (Array.getElem?_eq_some_iff.mp e10).1
  have nf := (Heap.get?_some_iff.mp e8).2
  have same : Obj.mapFields (·.setIfInBounds 3 (rawInt X.env.locals)) oT = oT := by
    obtain ⟨c, dd, dt, sl⟩ := oT
    dsimp only at e9
    subst e9
    show (⟨c, dd, .fields (ts.setIfInBounds 3 (rawInt X.env.locals)), sl⟩ : Obj) = _
    have : ts.setIfInBounds 3 (rawInt X.env.locals) = ts := by
      apply Array.ext_getElem?
      intro i
      by_cases q : i = 3
      · subst q; rw [Array.getElem?_setIfInBounds_self_of_lt hsz, e10]
      · rw [Array.getElem?_setIfInBounds_ne (Ne.symm q)]
    rw [this]
  have keep : ∀ b o, s.heap.get? b = some o → (s.heap.update T (Obj.mapFields (·.setIfInBounds 3 (rawInt X.env.locals)))).get? b = some o := fun b o e => by
    by_cases q : b = T
    · subst q
      rw [e8] at e; cases e
      rw [Heap.get?_update_self _ e8 (by rw [same]; exact nf), same]
    · rw [Heap.get?_update_other _ _ (Ne.symm q)]; exact e
  unfold cameBackBy
  refine wpAny_bind (wpAny_field e1 e4 e5 ?_)
  rw [if_neg (show ¬ ((Value.ref T == Value.none) = true) from by simp)]
  unfold setFlight
  refine wpAny_bind (wpAny_field e1 e4 e5 ?_)
  rw [if_pos (show (Value.ref T != Value.none) = true from by simp), pl.fr]
  refine wpAny_setField e8 e9 hsz ?_
  refine h _ (step_x I pl x.ha x.hT x.na x.nT x.pin d1 d2 (fun b o e _ _ _ => keep b o e) (.of_keeps keep)) ⟨⟨fun n en => ?_, fun en => ?_⟩, ⟨oe, vs, oT, ts, a0, keep _ _ e1, e2, e3, e4, e5, e7, keep _ _ e8, e9, e10⟩, x.ha, x.hT, x.na, x.nT, x.pin⟩
  · obtain ⟨o', dx, o, q1, q2⟩ := x.dat.1 n en
    exact ⟨o', dx, o, keep _ _ q1, q2⟩
  · obtain ⟨o', q1, q2⟩ := x.dat.2 en
    exact ⟨o', keep _ _ q1, q2⟩
theorem leave_2 {A : Around} {XE : XK} (I : Inv X pins σ H s) (pl : Plain X) (x : XAt X pins H s a C T (rawInt X.env.locals) d) (hE : XE (.ref C) d H) :
    wpAny M A (leaving X.env (.ref a)) (fun _ s'' => CXU X.prog X.w X.outer X.H₀ X.s₀ XE (.ref a) s'') E s := by
  obtain ⟨a0, tr⟩ := x.traced
  unfold leaving
  refine wpAny_bind (wpAny_noteFrame_againW pl.fr tr ?_)
  refine land_x I pl x fun h' T' I' x' => ?_
  have hu := I'.base
  rw [pl.ex] at hu
  exact ⟨a, C, T', H, _, rfl, ⟨x'.fly, x'.dat⟩, ⟨x'.ha, x'.hT⟩, ⟨x'.na, x'.nT⟩, I'.os, I'.bare, hu, I'.hok, hE⟩
end
end U


set_option linter.all false
set_option maxRecDepth 100000
set_option maxHeartbeats 4000000
namespace U
open PySem PySem.Spec PyProof.Rows L2
variable {B : Bs}
section
variable {X : Cx} {k : Nat} {f C D : Addr} {fd : FuncData} {ps : List Str} {E : XK} {E' : XK'} {x y : Str} {np np2 pos cpos hp rpos : Pos} {e : Expr} {n : Nat}
def uTryR (K : PySem.W.Frag) (D C : Addr) (E' : XK') (n : Nat) (t : TSX') : TS' := fun Dn σ H => t Dn (fun _ c d H1 => ∃ C', c = .ref C' ∧ d = none ∧ (XC0 K C' ∧ PySem.W.mroIn K C' (.ref D) = some true) ∧ E' (.ref C) (some n) H1) σ H
theorem upd_comm {H : Hp} {a b : Addr} {o u : HO} (h : a ≠ b) : upd (upd H a o) b u = upd (upd H b u) a o := by
  funext c
  by_cases q : c = a
  · subst q; rw [upd_ne h, upd_same, upd_same]
  · rw [upd_ne (a := a) q]
    by_cases q2 : c = b
    · subst q2; rw [upd_same, upd_same]
    · rw [upd_ne q2, upd_ne q2, upd_ne q]
def Ex2 (a : Addr) (h : Heap) : Prop := ∃ oe, h.get? a = some oe ∧ F2 oe = some .none
theorem qs_tryR {body : List Stmt} {tb : TSX'} {te : TE} (l : Lv X E) (pl : Plain X) (hE : XL X.K B E' E) (cD : XCls X.K D) (hgD : Gl X x) (hmD : X.mg x = some (.ref D)) (xi : XI X.K C f) (F : FnH X.prog X.w X.K X.mg X.base CX0 k f fd ps (spI C)) (hr : RoomH (k + 1) X.A) (hb : Binds X.K fd ps [])
    (hgC : Gl X y) (hmC : X.mg y = some (.ref C)) (hbody : PSXs X B body tb) (ha : ∀ v, PE (mk X v) e te) (he : ∀ σ H Q, Q (.int n) H → te σ H Q) (hn : n < 1000000 := by decide)
    (hdb : (x == ("__debug__" : Str)) = false := by decide) (hdy : (y == ("__debug__" : Str)) = false := by decide) (hst : starEach [e] X.env = (false, eval e X.env) :: starEach [] X.env := by rfl) :
    PS' X B (.Try body [.ExceptHandler (some (.Name x np)) none [.Raise (some (.Call (.Name y np2) [e] [] cpos)) none rpos] hp] [] [] pos) (uTryR X.K D C E' n tb) := by
  intro pins s σ H Dn I ⟨σ', H', D', sr, h, dr⟩
  refine wpAny_Try_except (wpAny_mono (hbody (fun e s₁ => wpAny (model X.prog X.w) X.A (noteFrame e X.env) (fun _ s₂ => wpAny (model X.prog X.w) X.A (setFlight e none) (fun _ s₃ => wpAny (model X.prog X.w) X.A (handleBy e X.env _) (SP X pins Dn) X.xe s₃) X.xe s₂) X.xe s₁)
    pins s σ H Dn σ' H' D' _ I sr h dr ?_) (fun f s₁ q => ?_) fun _ _ q => q)
  · rintro σ1' σ1 b s1 ⟨H1', H1, C', T, d, I1, x1, sr1, e1, C'', ec, rfl, ⟨cC, hmm⟩, hq⟩
    cases ec
    refine note_x I1 pl x1 fun h2 T2 I2 x2 => ?_
    refine land_x I2 pl x2 fun h3 T3 I3 x3 => ?_
    obtain ⟨oe, vs, oT, ts, a0, q1, q2, _⟩ := id x3.fly
    refine wpAny_handleBy_cons (codeAny_handlers_test (ld_glob (inv_mk I3 (.ref b)) hgD hmD ?_ hdb)) (by intro q; cases q)
    refine excMatches_own (X := X) I3.kIn cD hmm ⟨oe, q1, q2⟩ ?_
    show codeAny _ _ (.handlers (.ref b) [.ExceptHandler none none _ hp] X.env) _ _
    refine codeAny_handlers_suite ?_
    refine land_x (X := mk X (.ref b)) (inv_mk I3 (.ref b)) (plain_mk pl _) (T := T3) (fl := .none) ⟨x3.dat, x3.fly, x3.ha, x3.hT, x3.na, x3.nT, x3.pin⟩ fun h4 T4 I4 x4 => ?_
    have I5 := track_ext (φ := Ex2 b) I4 x4 (x4.dat.2 rfl) fun g1 g2 ⟨o, z1, z2⟩ kk => ⟨o, kk o z1, z2⟩
    have hb5 : upd H1 b (.ext (Ex2 b)) b = some (.ext (Ex2 b)) := upd_same
    refine wpAny_execs_cons ?_
    rw [arm_exec_Raise]
    refine wpAny_bind (wpAny_standAt (raiseStmt_H (A := (mk X (.ref b)).A) (b := b) xi rfl ?_))
    refine wpAny_bind (wpAny_mono ?_ (fun v s₃ h₃ => wpAny_bind (wpAny_standAt (wpAny_pure h₃))) fun _ _ x => x)
    refine no_ex (made_I (X := mk X (.ref b)) (plain_mk pl _) xi F (hr.mark _) hb hgC hmC I5 (ha (.ref b)) (he _ _ _ ⟨rfl, rfl⟩) hn (fun a dx x0 o s6 I6 g6 nd na ne n0 pa at_ => ?_) hdy hst)
    have nb : b ≠ a := fun z => by subst z; rw [hb5] at na; cases na
    have nbd : b ≠ dx := fun z => by subst z; rw [hb5] at nd; cases nd
    rw [upd_comm nbd] at I6
    have hbo := (show ObjOk X.prog X.w _ s6.heap b (.ext (Ex2 b)) from I6.hok _ _ upd_same)
    obtain ⟨⟨ob, hob, h2b⟩, _, _⟩ := hbo
    rw [upd_ne (Ne.symm nb)] at na
    rw [upd_ne (Ne.symm nbd)] at nd
    have nb2 : upd H1 dx (.frz o (.own a)) b = none := by rw [upd_ne nbd]; exact x1.ha
    have I7 := inv_unmk I.ok (forget I6 nb2)
    refine ⟨a, dx, x0, ob, rfl, I7.kIn, g6, nb, hob, h2b, ?_⟩
    have na2 : upd H1 dx (.frz o (.own a)) a = none := by rw [upd_ne (Ne.symm ne)]; exact na
    have g7 : (s6.heap.update a (Obj.mapFields (·.setIfInBounds 2 (.ref b)))).get? a = some (Obj.mapFields (·.setIfInBounds 2 (.ref b)) { newX C x0 with dict := some dx }) := Heap.get?_update_self _ g6 rfl
    have I8 : Inv X pins σ1 (upd H1 dx (.frz o (.own a))) { s6 with heap := s6.heap.update a (Obj.mapFields (·.setIfInBounds 2 (.ref b))) } := by
      refine step_x I7 pl na2 na2 n0 n0 (fun p hp => ⟨pa p hp, pa p hp⟩) (fun u e => ?_) (fun u e => ?_) (fun c u e _ n1 _ => ?_) (fun c u e nf => ⟨u.slots, ?_⟩)
      · rw [g6] at e; cases e; exact ⟨_, rfl⟩
      · rw [g6] at e; cases e; exact ⟨_, rfl⟩
      · rw [Heap.get?_update_other _ _ (Ne.symm n1)]; exact e
      · rw [Heap.get?_update_other _ _ (fun z => by subst z; rw [g6] at e; cases e; exact nf _ rfl)]; exact e
    refine note_1 (A := (mk X (.ref b)).A) (C := C) (d := some n) I8 pl rfl g7 rfl rfl rfl rfl na2 n0 pa ⟨fun m em => by cases em; exact ⟨_, dx, o, g7, rfl, upd_same, at_⟩, fun z => by cases z⟩ fun h9 T9 I9 x9 => ?_
    show cameBackBy _ X.A X.env X.xe (.ref a) _
    refine back_x I9 pl x9 fun h10 I10 x10 => ?_
    rw [l]
    exact leave_2 I10 pl x10 (hE _ _ H1' _ hq (sr1.hp.hid nd) (sr1.ev.trans (Ev.hid nd)))
  · cases f with
    | next => exact wpAny_execs_nil q
    | ret v => exact q
    | brk => exact q
    | cont => exact q
end
end U


set_option linter.all false
set_option maxRecDepth 100000
set_option maxHeartbeats 4000000
namespace U
open PySem PySem.Spec PyProof.Rows L2
variable {B : Bs}
section
variable {X : Cx} {k : Nat} {f C : Addr} {fd : FuncData} {ps : List Str} {sp : Sp'} {m : Str} {pos apos : Pos} {o : Expr} {tx : TX'}
def xMethO (C : Addr) (m : Str) (sp : Sp') (tx : TX') : TX' := fun σ H Q E => tx σ H (fun x H1 => isIn C m x H1 ∧ sp [x] H1 Q fun _ _ _ => False) E
theorem px_methO {pl : Sem Bool} (he : PXE X B o tx) (cl : Cls X.K C) (hm : Meth X.K C m f) (F : FnOk' X.prog X.w X.K X.mg X.base CX0 k f fd ps sp) (hr : Room k X.A) (hb : Binds X.K fd ps [])
    (ht : eval (.Call (.Attribute o m apos) [] [] pos) X.env = (do
      let ov ← eval o X.env
      standAt apos.atName
      let (f, first) ← holding [ov] (getMethod ov m pl)
      callWith pos f first (backTo pos (starEach [] X.env)) (backToKw pos (keywordEach [] X.env))) := by rfl) :
    PXE X B (.Call (.Attribute o m apos) [] [] pos) (xMethO C m sp tx) := by
  intro Ex pins s σ H Q σ' H' Q' E' I sr h hQ hE
  have hO := he Ex pins s σ H (fun x H1 => ∃ x' H1', RP X.K H1 x' x ∧ SR X.K B σ' H1' σ H1 ∧ Ev H' H H1' H1 ∧ (isIn C m x' H1' ∧ sp [x'] H1' Q' fun _ _ _ => False)) σ' H' _ E' I sr h (fun v' H1' v H1 q r s1 e1 => ⟨v', H1', r, s1, e1, q⟩) hE
  refine PySem.W.methodCall_KW (pl := pl) (thn hO fun u s1 ⟨x, H1, I1, rx, x', H1', r', s1', e1, hi, q⟩ => ?_) ht
  cases x' with
  | ref a =>
    obtain ⟨dx, fs, ea, l⟩ := hi
    simp only [RP] at r'
    subst r'
    obtain ⟨gs, eg, fr⟩ := s1'.hp _ _ ea
    obtain rfl : u = Value.ref a := rx
    refine getmeth_ok I1 eg cl hm (frel_none fr l) ?_
    refine PySem.W.callWith_K0 (first := [.ref a]) I1.kIn hm.kp ?_
    have hsp : lowSp X.K sp [V.ref a] H1 Q (fun _ _ _ => False) := ⟨[.ref a], H1', Q', _, RPs.cons _ (by simp [RP]) (RPs.nil _), s1'.hp, q, fun v' H2' v H2 q r2 h2 e2 => hQ v' H2' v H2 q r2 (s1'.kp e2 h2) (e1.trans e2), fun _ _ _ _ z _ _ => z.elim⟩
    refine no_ex (thn (run_fn (X := X.nox) (us := [.ref a]) (vs := [.ref a]) F hr hb .nil (fun pins σ H s e s' I z => z.elim) (I1.wish _) (.cons rfl .nil) hsp) fun u s2 ⟨v, H2, I2, rv, q⟩ => ⟨v, H2, I2.unwish, rv, q⟩)
  | _ => exact hi.elim
end
end U


namespace My
abbrev ab (x : Int) : Int := if x < 0 then -x else x
end My


set_option linter.all false
namespace My
open U
def BN (n : Nat) (i : Int) : Prop := i.natAbs < 2 ^ n
theorem BN.fit {n : Nat} {i : Int} (h : BN n i) (hn : n ≤ 9000) : Fit i := by
  unfold Fit
  unfold BN at h
  rcases Nat.eq_zero_or_pos i.natAbs with h0 | hp
  · rw [h0, Nat.log2_zero]; omega
  · have := (Nat.log2_lt (Nat.ne_of_gt hp)).mpr h
    omega
def num (c : Int) : Int := if c.fmod 4 = 0 then (c.fdiv 4 * 982451653).fmod (2 * 10 ^ 60 - 1) - 10 ^ 60 + 1 else if c.fmod 4 = 1 then (c.fdiv 4).fmod 2001 - 1000 else (c.fdiv 4).fmod 25 - 12
end My


namespace My
abbrev P2 := Int × Int
theorem nodup_le : ∀ (m : Nat) (f : List Int), f.Nodup → (∀ x ∈ f, 0 ≤ x ∧ x < (m : Int)) → f.length ≤ m
  | 0, f, _, h => by
    cases f with
    | nil => exact Nat.le_refl _
    | cons x f => have := h x List.mem_cons_self; omega
  | m + 1, f, hn, h => by
    have q := nodup_le m (f.erase (m : Int)) (hn.erase _) (fun x hx => by
      have hx' := List.mem_of_mem_erase hx
      have := h x hx'
      have ne : x ≠ (m : Int) := (List.Nodup.mem_erase_iff hn).mp hx |>.1
      omega)
    by_cases hm : (m : Int) ∈ f
    · rw [List.length_erase_of_mem hm] at q; omega
    · rw [List.erase_of_not_mem hm] at q; omega
end My


set_option linter.all false
set_option maxRecDepth 100000
set_option maxHeartbeats 4000000
namespace Lw
open PySem L2 U PyProof.Rows
theorem boot_all : bootBuiltins "all" = some (.builtin "all") := by decide +kernel
theorem boot_sorted : bootBuiltins "sorted" = some (.builtin "sorted") := by decide +kernel
theorem boot_set : bootBuiltins "set" = some (.type "set") := by decide +kernel
theorem boot_ValueError : bootBuiltins "ValueError" = some (.type "ValueError") := by decide +kernel
theorem boot_str : bootBuiltins "str" = some (.type "str") := by decide +kernel
theorem atI2_0 {x y : PV} : atI [x, y] 0 = some x := rfl
theorem atI2_1 {x y : PV} : atI [x, y] 1 = some y := rfl
theorem boot_bool : bootBuiltins "bool" = some (.type "bool") := by decide +kernel
def top (i : Nat) : Stmt := PySem.Challenge.pw_doingbook_k82_what_is_no_drawings_text.main.body.getD i (.Pass ⟨0, 0, 0, 0⟩)
abbrev s_NoText_init : Stmt := inClass (top 22) 0
theorem sc_NoText_init : FnScope ["self", "at"] ["self", "at"] (defScope s_NoText_init) := ⟨rfl, rfl, rfl, by decide +kernel, rfl, by decide +kernel, by decide +kernel⟩
abbrev s_is_pair : Stmt := top 26
theorem sc_is_pair : FnScope ["count", "pair"] ["count", "pair"] (defScope s_is_pair) := ⟨rfl, rfl, rfl, by decide +kernel, rfl, by decide +kernel, by decide +kernel⟩
abbrev s_are_pairs : Stmt := top 27
theorem sc_are_pairs : FnScope ["count", "pairs"] ["count", "pairs"] (defScope s_are_pairs) := ⟨rfl, rfl, rfl, by decide +kernel, rfl, by decide +kernel, by decide +kernel⟩
abbrev s_Drawing_init : Stmt := inClass (top 29) 0
theorem sc_Drawing_init : FnScope ["self", "count", "ties", "bows", "own_ties", "own_bows"] ["self", "count", "ties", "bows"] (defScope s_Drawing_init) := ⟨rfl, rfl, rfl, by decide +kernel, rfl, by decide +kernel, by decide +kernel⟩
abbrev s_Drawing_shape : Stmt := inClass (top 29) 1
theorem sc_Drawing_shape : FnScope ["self"] ["self"] (defScope s_Drawing_shape) := ⟨rfl, rfl, rfl, by decide +kernel, rfl, by decide +kernel, by decide +kernel⟩
abbrev s_pair_text : Stmt := top 33
theorem sc_pair_text : FnScope ["pair", "sign"] ["pair", "sign"] (defScope s_pair_text) := ⟨rfl, rfl, rfl, by decide +kernel, rfl, by decide +kernel, by decide +kernel⟩
abbrev s_written : Stmt := top 34
theorem sc_written : FnScope ["drawing", "ties", "bows"] ["drawing"] (defScope s_written) := ⟨rfl, rfl, rfl, by decide +kernel, rfl, by decide +kernel, by decide +kernel⟩
abbrev s_pairs_with : Stmt := top 35
theorem sc_pairs_with : FnScope ["parts", "sign"] ["parts", "sign"] (defScope s_pairs_with) := ⟨rfl, rfl, rfl, by decide +kernel, rfl, by decide +kernel, by decide +kernel⟩
abbrev s_read : Stmt := top 36
theorem sc_read : FnScope ["text", "count", "parts", "ties", "bows", "drawing"] ["text"] (defScope s_read) := ⟨rfl, rfl, rfl, by decide +kernel, rfl, by decide +kernel, by decide +kernel⟩
abbrev s_law_cell_at : Stmt := top 38
theorem sc_law_cell_at : FnScope ["_law_script", "_law_k"] ["_law_script", "_law_k"] (defScope s_law_cell_at) := ⟨rfl, rfl, rfl, by decide +kernel, rfl, by decide +kernel, by decide +kernel⟩
abbrev s_law_whole : Stmt := top 39
theorem sc_law_whole : FnScope ["_law_found"] ["_law_found"] (defScope s_law_whole) := ⟨rfl, rfl, rfl, by decide +kernel, rfl, by decide +kernel, by decide +kernel⟩
abbrev s_law_mixed : Stmt := top 40
theorem sc_law_mixed : FnScope ["_law_cell", "_law_many", "_law_found", "_law_number", "_law_k"] ["_law_cell", "_law_many"] (defScope s_law_mixed) := ⟨rfl, rfl, rfl, by decide +kernel, rfl, by decide +kernel, by decide +kernel⟩
abbrev s_law_pairs : Stmt := top 41
theorem sc_law_pairs : FnScope ["_law_script", "_law_at", "_law_first", "_law_count", "_law_kind", "_law_xs", "_law_ties", "_law_bows", "_law_k", "_law_v", "_law_u"] ["_law_script", "_law_at"] (defScope s_law_pairs) := ⟨rfl, rfl, rfl, by decide +kernel, rfl, by decide +kernel, by decide +kernel⟩
abbrev s_law_written : Stmt := top 42
theorem sc_law_written : FnScope ["_law_count", "_law_ties", "_law_bows", "_law_found", "_law_u", "_law_v"] ["_law_count", "_law_ties", "_law_bows"] (defScope s_law_written) := ⟨rfl, rfl, rfl, by decide +kernel, rfl, by decide +kernel, by decide +kernel⟩
abbrev s_law_same : Stmt := top 43
theorem sc_law_same : FnScope ["_law_found", "_law_due", "_law_k"] ["_law_found", "_law_due"] (defScope s_law_same) := ⟨rfl, rfl, rfl, by decide +kernel, rfl, by decide +kernel, by decide +kernel⟩
abbrev s_law_kinds : Stmt := top 44
theorem sc_law_kinds : FnScope ["_law_e", "_law_found", "_law_told", "_law_name", "_law_truth"] ["_law_e"] (defScope s_law_kinds) := ⟨rfl, rfl, rfl, by decide +kernel, rfl, by decide +kernel, by decide +kernel⟩
abbrev s_law_bent : Stmt := top 45
theorem sc_law_bent : FnScope ["_law_text", "_law_cell", "_law_more", "_law_signs", "_law_sign", "_law_at", "_law_parts", "_law_place"] ["_law_text", "_law_cell", "_law_more"] (defScope s_law_bent) := ⟨rfl, rfl, rfl, by decide +kernel, rfl, by decide +kernel, by decide +kernel⟩
abbrev s_law_drawing_of : Stmt := top 46
theorem sc_law_drawing_of : FnScope ["_law_text", "_law_ties", "_law_bows", "_law_count", "_law_part", "_law_u", "_law_v"] ["_law_text"] (defScope s_law_drawing_of) := ⟨rfl, rfl, rfl, by decide +kernel, rfl, by decide +kernel, by decide +kernel⟩
abbrev s_law_right : Stmt := top 47
theorem sc_law_right : FnScope ["_law_text", "_law_due", "_law_caught", "_law_told", "_law_e"] ["_law_text"] (defScope s_law_right) := ⟨rfl, rfl, rfl, by decide +kernel, rfl, by decide +kernel, by decide +kernel⟩
abbrev s_law : Stmt := top 48
theorem sc_law : FnScope ["_law_script", "_law_count", "_law_ties", "_law_bows", "_law_text", "_law_last", "_law_cell", "_law_pairs_here"] ["_law_script"] (defScope s_law) := ⟨rfl, rfl, rfl, by decide +kernel, rfl, by decide +kernel, by decide +kernel⟩
set_option genInjectivity false
structure Ad where
  a_NoText_init : Addr
  d_NoText_init : FuncData
  a_is_pair : Addr
  d_is_pair : FuncData
  a_are_pairs : Addr
  d_are_pairs : FuncData
  a_Drawing_init : Addr
  d_Drawing_init : FuncData
  a_Drawing_shape : Addr
  d_Drawing_shape : FuncData
  a_pair_text : Addr
  d_pair_text : FuncData
  a_written : Addr
  d_written : FuncData
  a_pairs_with : Addr
  d_pairs_with : FuncData
  a_read : Addr
  d_read : FuncData
  a_law_cell_at : Addr
  d_law_cell_at : FuncData
  a_law_whole : Addr
  d_law_whole : FuncData
  a_law_mixed : Addr
  d_law_mixed : FuncData
  a_law_pairs : Addr
  d_law_pairs : FuncData
  a_law_written : Addr
  d_law_written : FuncData
  a_law_same : Addr
  d_law_same : FuncData
  a_law_kinds : Addr
  d_law_kinds : FuncData
  a_law_bent : Addr
  d_law_bent : FuncData
  a_law_drawing_of : Addr
  d_law_drawing_of : FuncData
  a_law_right : Addr
  d_law_right : FuncData
  a_law : Addr
  d_law : FuncData
  a_BadPaper : Addr
  a_BadStep : Addr
  a_DoingError : Addr
  a_Drawing : Addr
  a_NoAnswer : Addr
  a_NoBow : Addr
  a_NoCount : Addr
  a_NoDoor : Addr
  a_NoFormula : Addr
  a_NoFraction : Addr
  a_NoName : Addr
  a_NoNest : Addr
  a_NoQuestion : Addr
  a_NoRoad : Addr
  a_NoRule : Addr
  a_NoSets : Addr
  a_NoShare : Addr
  a_NoText : Addr
  a_NoThinning : Addr
  a_NoTie : Addr
  a_NoValue : Addr
  a_NoWorld : Addr
structure Tx (K : PySem.W.Frag) (mg : Str → Option Value) (t : Ad) : Prop where
  F_NoText_init : Fun K "__init__" "NoText.__init__" s_NoText_init t.a_NoText_init t.d_NoText_init
  B_NoText_init : Binds K t.d_NoText_init ["self", "at"] []
  F_is_pair : Fun K "is_pair" "is_pair" s_is_pair t.a_is_pair t.d_is_pair
  B_is_pair : Binds K t.d_is_pair ["count", "pair"] []
  g_is_pair : mg "is_pair" = some (.ref t.a_is_pair)
  F_are_pairs : Fun K "are_pairs" "are_pairs" s_are_pairs t.a_are_pairs t.d_are_pairs
  B_are_pairs : Binds K t.d_are_pairs ["count", "pairs"] []
  g_are_pairs : mg "are_pairs" = some (.ref t.a_are_pairs)
  F_Drawing_init : Fun K "__init__" "Drawing.__init__" s_Drawing_init t.a_Drawing_init t.d_Drawing_init
  B_Drawing_init : Binds K t.d_Drawing_init ["self", "count", "ties", "bows"] []
  F_Drawing_shape : Fun K "shape" "Drawing.shape" s_Drawing_shape t.a_Drawing_shape t.d_Drawing_shape
  B_Drawing_shape : Binds K t.d_Drawing_shape ["self"] []
  m_Drawing_shape : Meth K t.a_Drawing "shape" t.a_Drawing_shape
  F_pair_text : Fun K "pair_text" "pair_text" s_pair_text t.a_pair_text t.d_pair_text
  B_pair_text : Binds K t.d_pair_text ["pair", "sign"] []
  g_pair_text : mg "pair_text" = some (.ref t.a_pair_text)
  F_written : Fun K "written" "written" s_written t.a_written t.d_written
  B_written : Binds K t.d_written ["drawing"] []
  g_written : mg "written" = some (.ref t.a_written)
  F_pairs_with : Fun K "pairs_with" "pairs_with" s_pairs_with t.a_pairs_with t.d_pairs_with
  B_pairs_with : Binds K t.d_pairs_with ["parts", "sign"] []
  g_pairs_with : mg "pairs_with" = some (.ref t.a_pairs_with)
  F_read : Fun K "read" "read" s_read t.a_read t.d_read
  B_read : Binds K t.d_read ["text"] []
  g_read : mg "read" = some (.ref t.a_read)
  F_law_cell_at : Fun K "_law_cell_at" "_law_cell_at" s_law_cell_at t.a_law_cell_at t.d_law_cell_at
  B_law_cell_at : Binds K t.d_law_cell_at ["_law_script", "_law_k"] []
  g_law_cell_at : mg "_law_cell_at" = some (.ref t.a_law_cell_at)
  F_law_whole : Fun K "_law_whole" "_law_whole" s_law_whole t.a_law_whole t.d_law_whole
  B_law_whole : Binds K t.d_law_whole ["_law_found"] []
  g_law_whole : mg "_law_whole" = some (.ref t.a_law_whole)
  F_law_mixed : Fun K "_law_mixed" "_law_mixed" s_law_mixed t.a_law_mixed t.d_law_mixed
  B_law_mixed : Binds K t.d_law_mixed ["_law_cell", "_law_many"] []
  g_law_mixed : mg "_law_mixed" = some (.ref t.a_law_mixed)
  F_law_pairs : Fun K "_law_pairs" "_law_pairs" s_law_pairs t.a_law_pairs t.d_law_pairs
  B_law_pairs : Binds K t.d_law_pairs ["_law_script", "_law_at"] []
  g_law_pairs : mg "_law_pairs" = some (.ref t.a_law_pairs)
  F_law_written : Fun K "_law_written" "_law_written" s_law_written t.a_law_written t.d_law_written
  B_law_written : Binds K t.d_law_written ["_law_count", "_law_ties", "_law_bows"] []
  g_law_written : mg "_law_written" = some (.ref t.a_law_written)
  F_law_same : Fun K "_law_same" "_law_same" s_law_same t.a_law_same t.d_law_same
  B_law_same : Binds K t.d_law_same ["_law_found", "_law_due"] []
  g_law_same : mg "_law_same" = some (.ref t.a_law_same)
  F_law_kinds : Fun K "_law_kinds" "_law_kinds" s_law_kinds t.a_law_kinds t.d_law_kinds
  B_law_kinds : Binds K t.d_law_kinds ["_law_e"] []
  g_law_kinds : mg "_law_kinds" = some (.ref t.a_law_kinds)
  F_law_bent : Fun K "_law_bent" "_law_bent" s_law_bent t.a_law_bent t.d_law_bent
  B_law_bent : Binds K t.d_law_bent ["_law_text", "_law_cell", "_law_more"] []
  g_law_bent : mg "_law_bent" = some (.ref t.a_law_bent)
  F_law_drawing_of : Fun K "_law_drawing_of" "_law_drawing_of" s_law_drawing_of t.a_law_drawing_of t.d_law_drawing_of
  B_law_drawing_of : Binds K t.d_law_drawing_of ["_law_text"] []
  g_law_drawing_of : mg "_law_drawing_of" = some (.ref t.a_law_drawing_of)
  F_law_right : Fun K "_law_right" "_law_right" s_law_right t.a_law_right t.d_law_right
  B_law_right : Binds K t.d_law_right ["_law_text"] []
  g_law_right : mg "_law_right" = some (.ref t.a_law_right)
  F_law : Fun K "law" "law" s_law t.a_law t.d_law
  B_law : Binds K t.d_law ["_law_script"] []
  g_law : mg "law" = some (.ref t.a_law)
  g_BadPaper : mg "BadPaper" = some (.ref t.a_BadPaper)
  g_BadStep : mg "BadStep" = some (.ref t.a_BadStep)
  g_DoingError : mg "DoingError" = some (.ref t.a_DoingError)
  g_Drawing : mg "Drawing" = some (.ref t.a_Drawing)
  cl_Drawing : Cls K t.a_Drawing
  mk_Drawing : Mk K t.a_Drawing t.a_Drawing_init
  g_NoAnswer : mg "NoAnswer" = some (.ref t.a_NoAnswer)
  g_NoBow : mg "NoBow" = some (.ref t.a_NoBow)
  g_NoCount : mg "NoCount" = some (.ref t.a_NoCount)
  g_NoDoor : mg "NoDoor" = some (.ref t.a_NoDoor)
  g_NoFormula : mg "NoFormula" = some (.ref t.a_NoFormula)
  g_NoFraction : mg "NoFraction" = some (.ref t.a_NoFraction)
  g_NoName : mg "NoName" = some (.ref t.a_NoName)
  g_NoNest : mg "NoNest" = some (.ref t.a_NoNest)
  g_NoQuestion : mg "NoQuestion" = some (.ref t.a_NoQuestion)
  g_NoRoad : mg "NoRoad" = some (.ref t.a_NoRoad)
  g_NoRule : mg "NoRule" = some (.ref t.a_NoRule)
  g_NoSets : mg "NoSets" = some (.ref t.a_NoSets)
  g_NoShare : mg "NoShare" = some (.ref t.a_NoShare)
  g_NoText : mg "NoText" = some (.ref t.a_NoText)
  g_NoThinning : mg "NoThinning" = some (.ref t.a_NoThinning)
  g_NoTie : mg "NoTie" = some (.ref t.a_NoTie)
  g_NoValue : mg "NoValue" = some (.ref t.a_NoValue)
  g_NoWorld : mg "NoWorld" = some (.ref t.a_NoWorld)
  x_DoingError : XCls K t.a_DoingError
  x_NoBow : XCls K t.a_NoBow
  x_NoCount : XCls K t.a_NoCount
  x_NoTie : XCls K t.a_NoTie
  s_NoCount : PySem.W.mroIn K t.a_NoCount (.ref t.a_DoingError) = some true
  k_NoCount_ValueError : PySem.W.kitOne K (.ref t.a_NoCount) (.type "ValueError") = some true
  k_NoCount_NoText : PySem.W.kitOne K (.ref t.a_NoCount) (.ref t.a_NoText) = some false
  k_NoCount_BadStep : PySem.W.kitOne K (.ref t.a_NoCount) (.ref t.a_BadStep) = some false
  k_NoCount_NoFormula : PySem.W.kitOne K (.ref t.a_NoCount) (.ref t.a_NoFormula) = some false
  k_NoCount_NoQuestion : PySem.W.kitOne K (.ref t.a_NoCount) (.ref t.a_NoQuestion) = some false
  k_NoCount_NoAnswer : PySem.W.kitOne K (.ref t.a_NoCount) (.ref t.a_NoAnswer) = some false
  k_NoCount_NoThinning : PySem.W.kitOne K (.ref t.a_NoCount) (.ref t.a_NoThinning) = some false
  k_NoCount_NoDoor : PySem.W.kitOne K (.ref t.a_NoCount) (.ref t.a_NoDoor) = some false
  k_NoCount_NoNest : PySem.W.kitOne K (.ref t.a_NoCount) (.ref t.a_NoNest) = some false
  k_NoCount_BadPaper : PySem.W.kitOne K (.ref t.a_NoCount) (.ref t.a_BadPaper) = some false
  k_NoCount_NoRule : PySem.W.kitOne K (.ref t.a_NoCount) (.ref t.a_NoRule) = some false
  k_NoCount_NoRoad : PySem.W.kitOne K (.ref t.a_NoCount) (.ref t.a_NoRoad) = some false
  k_NoCount_NoShare : PySem.W.kitOne K (.ref t.a_NoCount) (.ref t.a_NoShare) = some false
  k_NoCount_NoValue : PySem.W.kitOne K (.ref t.a_NoCount) (.ref t.a_NoValue) = some false
  k_NoCount_NoWorld : PySem.W.kitOne K (.ref t.a_NoCount) (.ref t.a_NoWorld) = some false
  k_NoCount_NoSets : PySem.W.kitOne K (.ref t.a_NoCount) (.ref t.a_NoSets) = some false
  k_NoCount_NoName : PySem.W.kitOne K (.ref t.a_NoCount) (.ref t.a_NoName) = some false
  k_NoCount_NoBow : PySem.W.kitOne K (.ref t.a_NoCount) (.ref t.a_NoBow) = some false
  k_NoCount_NoTie : PySem.W.kitOne K (.ref t.a_NoCount) (.ref t.a_NoTie) = some false
  k_NoCount_NoCount : PySem.W.kitOne K (.ref t.a_NoCount) (.ref t.a_NoCount) = some true
  k_NoCount_NoFraction : PySem.W.kitOne K (.ref t.a_NoCount) (.ref t.a_NoFraction) = some false
  s_NoTie : PySem.W.mroIn K t.a_NoTie (.ref t.a_DoingError) = some true
  k_NoTie_ValueError : PySem.W.kitOne K (.ref t.a_NoTie) (.type "ValueError") = some true
  k_NoTie_NoText : PySem.W.kitOne K (.ref t.a_NoTie) (.ref t.a_NoText) = some false
  k_NoTie_BadStep : PySem.W.kitOne K (.ref t.a_NoTie) (.ref t.a_BadStep) = some false
  k_NoTie_NoFormula : PySem.W.kitOne K (.ref t.a_NoTie) (.ref t.a_NoFormula) = some false
  k_NoTie_NoQuestion : PySem.W.kitOne K (.ref t.a_NoTie) (.ref t.a_NoQuestion) = some false
  k_NoTie_NoAnswer : PySem.W.kitOne K (.ref t.a_NoTie) (.ref t.a_NoAnswer) = some false
  k_NoTie_NoThinning : PySem.W.kitOne K (.ref t.a_NoTie) (.ref t.a_NoThinning) = some false
  k_NoTie_NoDoor : PySem.W.kitOne K (.ref t.a_NoTie) (.ref t.a_NoDoor) = some false
  k_NoTie_NoNest : PySem.W.kitOne K (.ref t.a_NoTie) (.ref t.a_NoNest) = some false
  k_NoTie_BadPaper : PySem.W.kitOne K (.ref t.a_NoTie) (.ref t.a_BadPaper) = some false
  k_NoTie_NoRule : PySem.W.kitOne K (.ref t.a_NoTie) (.ref t.a_NoRule) = some false
  k_NoTie_NoRoad : PySem.W.kitOne K (.ref t.a_NoTie) (.ref t.a_NoRoad) = some false
  k_NoTie_NoShare : PySem.W.kitOne K (.ref t.a_NoTie) (.ref t.a_NoShare) = some false
  k_NoTie_NoValue : PySem.W.kitOne K (.ref t.a_NoTie) (.ref t.a_NoValue) = some false
  k_NoTie_NoWorld : PySem.W.kitOne K (.ref t.a_NoTie) (.ref t.a_NoWorld) = some false
  k_NoTie_NoSets : PySem.W.kitOne K (.ref t.a_NoTie) (.ref t.a_NoSets) = some false
  k_NoTie_NoName : PySem.W.kitOne K (.ref t.a_NoTie) (.ref t.a_NoName) = some false
  k_NoTie_NoBow : PySem.W.kitOne K (.ref t.a_NoTie) (.ref t.a_NoBow) = some false
  k_NoTie_NoTie : PySem.W.kitOne K (.ref t.a_NoTie) (.ref t.a_NoTie) = some true
  k_NoTie_NoCount : PySem.W.kitOne K (.ref t.a_NoTie) (.ref t.a_NoCount) = some false
  k_NoTie_NoFraction : PySem.W.kitOne K (.ref t.a_NoTie) (.ref t.a_NoFraction) = some false
  s_NoBow : PySem.W.mroIn K t.a_NoBow (.ref t.a_DoingError) = some true
  k_NoBow_ValueError : PySem.W.kitOne K (.ref t.a_NoBow) (.type "ValueError") = some true
  k_NoBow_NoText : PySem.W.kitOne K (.ref t.a_NoBow) (.ref t.a_NoText) = some false
  k_NoBow_BadStep : PySem.W.kitOne K (.ref t.a_NoBow) (.ref t.a_BadStep) = some false
  k_NoBow_NoFormula : PySem.W.kitOne K (.ref t.a_NoBow) (.ref t.a_NoFormula) = some false
  k_NoBow_NoQuestion : PySem.W.kitOne K (.ref t.a_NoBow) (.ref t.a_NoQuestion) = some false
  k_NoBow_NoAnswer : PySem.W.kitOne K (.ref t.a_NoBow) (.ref t.a_NoAnswer) = some false
  k_NoBow_NoThinning : PySem.W.kitOne K (.ref t.a_NoBow) (.ref t.a_NoThinning) = some false
  k_NoBow_NoDoor : PySem.W.kitOne K (.ref t.a_NoBow) (.ref t.a_NoDoor) = some false
  k_NoBow_NoNest : PySem.W.kitOne K (.ref t.a_NoBow) (.ref t.a_NoNest) = some false
  k_NoBow_BadPaper : PySem.W.kitOne K (.ref t.a_NoBow) (.ref t.a_BadPaper) = some false
  k_NoBow_NoRule : PySem.W.kitOne K (.ref t.a_NoBow) (.ref t.a_NoRule) = some false
  k_NoBow_NoRoad : PySem.W.kitOne K (.ref t.a_NoBow) (.ref t.a_NoRoad) = some false
  k_NoBow_NoShare : PySem.W.kitOne K (.ref t.a_NoBow) (.ref t.a_NoShare) = some false
  k_NoBow_NoValue : PySem.W.kitOne K (.ref t.a_NoBow) (.ref t.a_NoValue) = some false
  k_NoBow_NoWorld : PySem.W.kitOne K (.ref t.a_NoBow) (.ref t.a_NoWorld) = some false
  k_NoBow_NoSets : PySem.W.kitOne K (.ref t.a_NoBow) (.ref t.a_NoSets) = some false
  k_NoBow_NoName : PySem.W.kitOne K (.ref t.a_NoBow) (.ref t.a_NoName) = some false
  k_NoBow_NoBow : PySem.W.kitOne K (.ref t.a_NoBow) (.ref t.a_NoBow) = some true
  k_NoBow_NoTie : PySem.W.kitOne K (.ref t.a_NoBow) (.ref t.a_NoTie) = some false
  k_NoBow_NoCount : PySem.W.kitOne K (.ref t.a_NoBow) (.ref t.a_NoCount) = some false
  k_NoBow_NoFraction : PySem.W.kitOne K (.ref t.a_NoBow) (.ref t.a_NoFraction) = some false
  s_NoText : PySem.W.mroIn K t.a_NoText (.ref t.a_DoingError) = some true
  k_NoText_ValueError : PySem.W.kitOne K (.ref t.a_NoText) (.type "ValueError") = some true
  k_NoText_NoText : PySem.W.kitOne K (.ref t.a_NoText) (.ref t.a_NoText) = some true
  k_NoText_BadStep : PySem.W.kitOne K (.ref t.a_NoText) (.ref t.a_BadStep) = some false
  k_NoText_NoFormula : PySem.W.kitOne K (.ref t.a_NoText) (.ref t.a_NoFormula) = some false
  k_NoText_NoQuestion : PySem.W.kitOne K (.ref t.a_NoText) (.ref t.a_NoQuestion) = some false
  k_NoText_NoAnswer : PySem.W.kitOne K (.ref t.a_NoText) (.ref t.a_NoAnswer) = some false
  k_NoText_NoThinning : PySem.W.kitOne K (.ref t.a_NoText) (.ref t.a_NoThinning) = some false
  k_NoText_NoDoor : PySem.W.kitOne K (.ref t.a_NoText) (.ref t.a_NoDoor) = some false
  k_NoText_NoNest : PySem.W.kitOne K (.ref t.a_NoText) (.ref t.a_NoNest) = some false
  k_NoText_BadPaper : PySem.W.kitOne K (.ref t.a_NoText) (.ref t.a_BadPaper) = some false
  k_NoText_NoRule : PySem.W.kitOne K (.ref t.a_NoText) (.ref t.a_NoRule) = some false
  k_NoText_NoRoad : PySem.W.kitOne K (.ref t.a_NoText) (.ref t.a_NoRoad) = some false
  k_NoText_NoShare : PySem.W.kitOne K (.ref t.a_NoText) (.ref t.a_NoShare) = some false
  k_NoText_NoValue : PySem.W.kitOne K (.ref t.a_NoText) (.ref t.a_NoValue) = some false
  k_NoText_NoWorld : PySem.W.kitOne K (.ref t.a_NoText) (.ref t.a_NoWorld) = some false
  k_NoText_NoSets : PySem.W.kitOne K (.ref t.a_NoText) (.ref t.a_NoSets) = some false
  k_NoText_NoName : PySem.W.kitOne K (.ref t.a_NoText) (.ref t.a_NoName) = some false
  k_NoText_NoBow : PySem.W.kitOne K (.ref t.a_NoText) (.ref t.a_NoBow) = some false
  k_NoText_NoTie : PySem.W.kitOne K (.ref t.a_NoText) (.ref t.a_NoTie) = some false
  k_NoText_NoCount : PySem.W.kitOne K (.ref t.a_NoText) (.ref t.a_NoCount) = some false
  k_NoText_NoFraction : PySem.W.kitOne K (.ref t.a_NoText) (.ref t.a_NoFraction) = some false
  b_ValueError : mg "ValueError" = none
  b_all : mg "all" = none
  b_bool : mg "bool" = none
  b_int : mg "int" = none
  b_isinstance : mg "isinstance" = none
  b_len : mg "len" = none
  b_list : mg "list" = none
  b_range : mg "range" = none
  b_set : mg "set" = none
  b_sorted : mg "sorted" = none
  b_str : mg "str" = none
  b_tuple : mg "tuple" = none
  c_MOST_BOWS : ∃ u, mg "MOST_BOWS" = some u ∧ RelV (.int 6) u
  c_MOST_NAMES : ∃ u, mg "MOST_NAMES" = some u ∧ RelV (.int 6) u
  nf_Drawing_bows : NoAttr K t.a_Drawing "bows"
  nf_Drawing_count : NoAttr K t.a_Drawing "count"
  nf_Drawing_ties : NoAttr K t.a_Drawing "ties"
  c_COUNTS : ∃ u, mg "COUNTS" = some u ∧ RelV (.str "0123456") u
  c_LETTERS : ∃ u, mg "LETTERS" = some u ∧ RelV (.str "abcdef") u
  xi_NoText : XI K t.a_NoText t.a_NoText_init
  xd_DoingError : XD K t.a_DoingError
section
variable {P : Program} {w : World} {K : PySem.W.Frag} {mg : Str → Option Value} {base : Heap} {t : Ad}

open DM (P2 Good)
def DF (c : Int) (ts bs : List P2) : List (Str × PV) := [("count", .int c), ("ties", .tup (ts.map prV)), ("bows", .tup (bs.map prV))]
def Srt (l : List P2) : Prop := l.Pairwise (fun x y => ST.pk x < ST.pk y)
def Row (H : PHp) (y : PV) (p : P2) : Prop := y = prV p ∨ ∃ r, y = .ref r ∧ H r = some (.lst [.int p.1, .int p.2])
abbrev Rows (H : PHp) : List PV → List P2 → Prop := Paired (Row H)
def sp_shape (t : Ad) : Sp' := fun vs H Q _ => match vs with
  | [.ref x] => ∃ dx c ts bs, H x = some (.ins t.a_Drawing dx (DF c ts bs)) ∧ Q (.tup [.int c, .tup (ts.map prV), .tup (bs.map prV)]) H
  | _ => False
theorem e_shape {x : Addr} {H : PHp} {Q : VK'} {E : XK'} : sp_shape t [.ref x] H Q E = ∃ dx c ts bs, H x = some (.ins t.a_Drawing dx (DF c ts bs)) ∧ Q (.tup [.int c, .tup (ts.map prV), .tup (bs.map prV)]) H := rfl
def sp_cell : Sp' := fun vs H Q _ => match vs with
  | [.fls l, .int k] => (0 ≤ k ∧ k < 100) ∧ ∃ ns : List Int, l = ns.map PV.int ∧ Q (.int (ns.getD k.toNat 0)) H
  | _ => False
theorem e_cell {l : List PV} {k : Int} {H : PHp} {Q : VK'} {E : XK'} : sp_cell [.fls l, .int k] H Q E = ((0 ≤ k ∧ k < 100) ∧ ∃ ns : List Int, l = ns.map PV.int ∧ Q (.int (ns.getD k.toNat 0)) H) := rfl
def sp_mixed : Sp' := fun vs H Q _ => match vs with
  | [.int c, .int m] => (0 ≤ m ∧ m ≤ 64) ∧ ∀ p (xs : List Int), H p = none → xs.length = m.toNat → Q (.ref p) (put H p (.lst (xs.map PV.int)))
  | _ => False
theorem e_mixed {c m : Int} {H : PHp} {Q : VK'} {E : XK'} : sp_mixed [.int c, .int m] H Q E = ((0 ≤ m ∧ m ≤ 64) ∧ ∀ p (xs : List Int), H p = none → xs.length = m.toNat → Q (.ref p) (put H p (.lst (xs.map PV.int)))) := rfl
def sp_pairs : Sp' := fun vs H Q _ => match vs with
  | [.fls l, .int k] => (0 ≤ k ∧ k < 60) ∧ ∃ ns : List Int, l = ns.map PV.int ∧ ∀ c ts bs p q, (1 ≤ c ∧ c ≤ 6) → Good c ts → Good c bs → bs.length ≤ 6 → H p = none → H q = none → p ≠ q → Q (.tup [.int c, .ref p, .ref q]) (put (put H p (.lst (ts.map prV))) q (.lst (bs.map prV)))
  | _ => False
theorem e_pairs {l : List PV} {k : Int} {H : PHp} {Q : VK'} {E : XK'} : sp_pairs [.fls l, .int k] H Q E = ((0 ≤ k ∧ k < 60) ∧ ∃ ns : List Int, l = ns.map PV.int ∧ ∀ c ts bs p q, (1 ≤ c ∧ c ≤ 6) → Good c ts → Good c bs → bs.length ≤ 6 → H p = none → H q = none → p ≠ q → Q (.tup [.int c, .ref p, .ref q]) (put (put H p (.lst (ts.map prV))) q (.lst (bs.map prV)))) := rfl
theorem atI_at {l : List PV} {i : Nat} (h : i < l.length) : atI l ((i : Nat) : Int) = some l[i] := by
  unfold atI ixN
  rw [if_pos (by omega), if_pos (by omega)]
  show l[((i : Nat) : Int).toNat]? = _
  rw [Int.toNat_natCast, List.getElem?_eq_getElem h]
theorem pd_mem {α β : Type} {R : α → β → Prop} {x : α} {l : List α} {m : List β} (h : Paired R l m) (hx : x ∈ l) : ∃ y ∈ m, R x y := by
  induction h with
  | nil => cases hx
  | cons h t ih =>
    rcases List.mem_cons.mp hx with rfl | hx
    · exact ⟨_, List.mem_cons_self, h⟩
    · obtain ⟨y, hy, r⟩ := ih hx
      exact ⟨y, List.mem_cons_of_mem _ hy, r⟩
theorem fm {a b : Int} (h : 0 < b) : 0 ≤ a.fmod b ∧ a.fmod b < b := by
  rw [Int.fmod_eq_emod_of_nonneg _ (by omega)]
  exact ⟨Int.emod_nonneg _ (by omega), Int.emod_lt_of_pos _ h⟩
theorem sub_put {A B : PHp} {x : Addr} {o : PO} (s : U.Sub A B) (h : B x = some o) : U.Sub (put A x o) B := fun a u e => by
  by_cases q : a = x
  · subst q; rw [put_same] at e; cases e; exact h
  · rw [put_ne q] at e; exact s a u e
theorem sub_putx {A B : PHp} {x : Addr} {o : PO} (s : ∀ a u, a ≠ x → A a = some u → B a = some u) (h : B x = some o) : U.Sub (put A x o) B := fun a u e => by
  by_cases q : a = x
  · subst q; rw [put_same] at e; cases e; exact h
  · rw [put_ne q] at e; exact s a u q e
theorem putU_len {f : Str} {v : PV} : ∀ {fs : List (Str × PV)}, (putU f v fs).length ≤ fs.length + 1
  | [] => by simp [putU]
  | (g, y) :: r => by
    unfold putU
    split
    · simp
    · have := putU_len (f := f) (v := v) (fs := r); simp only [List.length_cons]; omega
theorem cdvB {i j : Int} (h : j ≠ 0) (f : j.natAbs < 2 ^ 64) : CDivB i j := ⟨h, (show My.BN 64 j from f).fit (by decide)⟩
theorem fit64 {i : Int} (f : i.natAbs < 2 ^ 64) : Fit i := (show My.BN 64 i from f).fit (by decide)
def rowT (H : PHp) (y : PV) : PV := match y with
  | .ref r => (match H r with | some (.lst l) => .tup l | _ => .non)
  | y => y
theorem rowT_ref {H : PHp} {r : Addr} {l : List PV} (h : H r = some (.lst l)) : rowT H (.ref r) = .tup l := by
  unfold rowT; dsimp only; rw [h]
theorem Rows.up {H H1 : PHp} {ys : List PV} {ps : List P2} (h : Rows H ys ps) (s : U.Sub H H1) : Rows H1 ys ps := Paired.mapP h fun y p r => r.elim .inl fun ⟨q, e, hq⟩ => .inr ⟨q, e, s _ _ hq⟩
def g1 (y : PV) : PV := match y with | .tup [_, v] => v | _ => .non
structure GJ (v j : Int) (l : List P2) : Prop where
  nd : l.Nodup
  lo : ∀ p ∈ l, 0 ≤ p.1 ∧ p.1 < p.2 ∧ (p.2 < v ∨ (p.2 = v ∧ p.1 < j))
theorem GJ.app {v j : Int} {l : List P2} (h : GJ v j l) (h0 : 0 ≤ j) (hj : j < v) : GJ v (j + 1) (l ++ [(j, v)]) := by
  refine ⟨List.nodup_append.mpr ⟨h.nd, by simp, ?_⟩, fun p hp => ?_⟩
  · intro a ha b hb e
    rw [List.mem_singleton] at hb
    subst hb; subst e
    have := h.lo _ ha
    simp only at this
    omega
  · rcases List.mem_append.mp hp with hp | hp
    · have := h.lo p hp; omega
    · rw [List.mem_singleton] at hp; subst hp; exact ⟨h0, hj, .inr ⟨rfl, Int.lt_succ j⟩⟩
theorem GJ.up {v j : Int} {l : List P2} (h : GJ v j l) : GJ v (j + 1) l := ⟨h.nd, fun p hp => by have := h.lo p hp; omega⟩
theorem GJ.of {v : Int} {l : List P2} (h : Good v l) : GJ v 0 l := ⟨h.nd, fun p hp => by have := h.lo p hp; omega⟩
theorem GJ.good {v : Int} {l : List P2} (h : GJ v v l) : Good (v + 1) l := ⟨h.nd, fun p hp => by have := h.lo p hp; omega⟩
theorem ix4a {d : Int} (h0 : 0 ≤ d) (h : d < 4) : ∃ e, atI [PV.int 2, PV.int 3, PV.int 2, PV.int 4] d = some (.int e) ∧ e ≠ 0 := by
  have : d = 0 ∨ d = 1 ∨ d = 2 ∨ d = 3 := by omega
  rcases this with rfl | rfl | rfl | rfl
  · exact ⟨2, rfl, by decide⟩
  · exact ⟨3, rfl, by decide⟩
  · exact ⟨2, rfl, by decide⟩
  · exact ⟨4, rfl, by decide⟩
theorem ix4b {d : Int} (h0 : 0 ≤ d) (h : d < 4) : ∃ e, atI [PV.int 2, PV.int 3, PV.int 5, PV.int 2] d = some (.int e) ∧ e ≠ 0 := by
  have : d = 0 ∨ d = 1 ∨ d = 2 ∨ d = 3 := by omega
  rcases this with rfl | rfl | rfl | rfl
  · exact ⟨2, rfl, by decide⟩
  · exact ⟨3, rfl, by decide⟩
  · exact ⟨5, rfl, by decide⟩
  · exact ⟨2, rfl, by decide⟩
def p2l (p : P2) : List Int := [p.1, p.2]
def tI (l : List Int) : PV := .tup (l.map PV.int)
def isP (c : Int) (l : List Int) : Bool := match l with
  | [u, v] => decide (0 ≤ u) && (decide (u < v) && decide (v < c))
  | _ => false
def areP (c : Int) (ls : List (List Int)) : Bool := ls.all (isP c) && decide ls.Nodup
def RowL (H : PHp) (y : PV) (l : List Int) : Prop := y = tI l ∨ ∃ r, y = .ref r ∧ H r = some (.lst (l.map PV.int))
abbrev RowsL (H : PHp) : List PV → List (List Int) → Prop := Paired (RowL H)
theorem RowsL.up {H H1 : PHp} {ys : List PV} {ls : List (List Int)} (h : RowsL H ys ls) (s : U.Sub H H1) : RowsL H1 ys ls := Paired.mapP h fun y p r => r.elim .inl fun ⟨q, e, hq⟩ => .inr ⟨q, e, s _ _ hq⟩
theorem rowsL_map {H : PHp} : ∀ {ys : List PV} {ls : List (List Int)}, RowsL H ys ls → ys.map (rowT H) = ls.map tI
  | [], [], .nil => rfl
  | y :: ys, p :: ps, .cons h t => by
    rw [List.map_cons, List.map_cons, rowsL_map t]
    congr 1
    rcases h with rfl | ⟨r, rfl, hr⟩
    · rfl
    · exact rowT_ref hr
def verd (c : Int) (as bs : List (List Int)) : Option Nat := if c < 1 ∨ 6 < c then some 0 else if areP c as = false then some 1 else if areP c bs = false then some 2 else if 6 < bs.length then some 2 else none
def clsV (t : Ad) (k : Nat) : Addr := match k with | 0 => t.a_NoCount | 1 => t.a_NoTie | _ => t.a_NoBow
def sp_ispair : Sp' := fun vs H Q _ => match vs with
  | [.int c, .tup l] => ∃ L : List Int, l = L.map PV.int ∧ Q (.bl (isP c L)) H
  | _ => False
theorem e_ispair {c : Int} {l : List PV} {H : PHp} {Q : VK'} {E : XK'} : sp_ispair [.int c, .tup l] H Q E = ∃ L : List Int, l = L.map PV.int ∧ Q (.bl (isP c L)) H := rfl
def sp_arep : Sp' := fun vs H Q _ => match vs with
  | [.int c, .ref a] => ∃ ls : List (List Int), H a = some (.lst (ls.map tI)) ∧ c ≤ 6 ∧ ls.length ≤ 500 ∧ Q (.bl (areP c ls)) H
  | _ => False
theorem e_arep {c : Int} {a : Addr} {H : PHp} {Q : VK'} {E : XK'} : sp_arep [.int c, .ref a] H Q E = ∃ ls : List (List Int), H a = some (.lst (ls.map tI)) ∧ c ≤ 6 ∧ ls.length ≤ 500 ∧ Q (.bl (areP c ls)) H := rfl
def sp_init (t : Ad) : Sp' := fun vs H Q E => match vs with
  | [.ref x, .int c, .ref a, .ref b] => ∃ dx ys zs as bs, H x = some (.ins t.a_Drawing dx []) ∧ H a = some (.lst ys) ∧ H b = some (.lst zs) ∧ RowsL H ys as ∧ RowsL H zs bs ∧ (as.length ≤ 500 ∧ bs.length ≤ 500) ∧
    (∀ k, verd c as bs = some k → ∀ H1, Sub H H1 → E (.ref (clsV t k)) none H1) ∧ (verd c as bs = none → ∀ ps qs ts us, as = ps.map p2l → bs = qs.map p2l → Good c ps → Good c qs → ts.Perm ps → Srt ts → us.Perm qs → Srt us → Q .non (put H x (.ins t.a_Drawing dx (DF c ts us))))
  | _ => False
theorem e_init {x a b : Addr} {c : Int} {H : PHp} {Q : VK'} {E : XK'} : sp_init t [.ref x, .int c, .ref a, .ref b] H Q E = ∃ dx ys zs as bs, H x = some (.ins t.a_Drawing dx []) ∧ H a = some (.lst ys) ∧ H b = some (.lst zs) ∧ RowsL H ys as ∧ RowsL H zs bs ∧ (as.length ≤ 500 ∧ bs.length ≤ 500) ∧
    (∀ k, verd c as bs = some k → ∀ H1, Sub H H1 → E (.ref (clsV t k)) none H1) ∧ (verd c as bs = none → ∀ ps qs ts us, as = ps.map p2l → bs = qs.map p2l → Good c ps → Good c qs → ts.Perm ps → Srt ts → us.Perm qs → Srt us → Q .non (put H x (.ins t.a_Drawing dx (DF c ts us)))) := rfl
theorem map_p2l {ps : List P2} : (ps.map p2l).map tI = ps.map prV := by rw [List.map_map]; rfl
def unI (y : PV) : Int := match y with | .int i => i | _ => 0
def bP (c : Int) (y : PV) : PV := match y with | .tup l => .bl (isP c (l.map unI)) | _ => .non
theorem un_map {l : List Int} : (l.map PV.int).map unI = l := by
  rw [List.map_map]; exact List.map_id'' (fun _ => rfl) l
theorem bP_tI {c : Int} {l : List Int} : bP c (tI l) = .bl (isP c l) := by
  show PV.bl (isP c ((l.map PV.int).map unI)) = _
  rw [un_map]
theorem isP_pair {c : Int} {l : List Int} (h : isP c l = true) : ∃ u v, l = [u, v] ∧ 0 ≤ u ∧ u < v ∧ v < c := by
  unfold isP at h
  split at h
  · simp only [Bool.and_eq_true, decide_eq_true_eq] at h
    exact ⟨_, _, rfl, h.1, h.2.1, h.2.2⟩
  · cases h
theorem good_of {c : Int} : ∀ {ls : List (List Int)}, ls.all (isP c) = true → ∃ ps : List P2, ls = ps.map p2l ∧ ∀ p ∈ ps, 0 ≤ p.1 ∧ p.1 < p.2 ∧ p.2 < c
  | [], _ => ⟨[], rfl, fun p hp => nomatch hp⟩
  | l :: ls, h => by
    rw [List.all_cons, Bool.and_eq_true] at h
    obtain ⟨ps, e, q⟩ := good_of h.2
    obtain ⟨u, v, rfl, b⟩ := isP_pair h.1
    refine ⟨(u, v) :: ps, by rw [e]; rfl, fun p hp => ?_⟩
    rcases List.mem_cons.mp hp with rfl | hp
    · exact b
    · exact q p hp
theorem p2l_inj {p q : P2} (h : p2l p = p2l q) : p = q := by
  unfold p2l at h
  simp only [List.cons.injEq, and_true] at h
  exact Prod.ext h.1 h.2
theorem nodup_p2l : ∀ {ps : List P2}, (ps.map p2l).Nodup ↔ ps.Nodup
  | [] => by simp
  | p :: ps => by
    rw [List.map_cons, List.nodup_cons, List.nodup_cons, nodup_p2l (ps := ps)]
    have : p2l p ∈ ps.map p2l ↔ p ∈ ps := by
      constructor
      · intro h
        obtain ⟨q, hq, e⟩ := List.mem_map.mp h
        rw [← p2l_inj e]; exact hq
      · exact fun h => List.mem_map.mpr ⟨p, h, rfl⟩
    rw [this]
theorem areP_good {c : Int} {ls : List (List Int)} (h : areP c ls = true) : ∃ ps : List P2, ls = ps.map p2l ∧ Good c ps := by
  unfold areP at h
  rw [Bool.and_eq_true] at h
  obtain ⟨ps, rfl, q⟩ := good_of h.1
  exact ⟨ps, rfl, nodup_p2l.mp (of_decide_eq_true h.2), q⟩
theorem good_areP {c : Int} {ps : List P2} (g : Good c ps) : areP c (ps.map p2l) = true := by
  unfold areP
  rw [Bool.and_eq_true]
  refine ⟨?_, decide_eq_true (nodup_p2l.mpr g.nd)⟩
  rw [List.all_eq_true]
  intro l hl
  obtain ⟨p, hp, rfl⟩ := List.mem_map.mp hl
  have := g.lo p hp
  unfold p2l isP
  simp only [Bool.and_eq_true, decide_eq_true_eq]
  exact this
def ltr (n : Int) : Nat := 97 + n.toNat
theorem ofS_gt : (Str.ofString ">") = sT [62] := by decide +kernel
theorem ofS_ti : (Str.ofString "~") = sT [126] := by decide +kernel
theorem ofS_co : (Str.ofString ":") = sT [58] := by decide +kernel
theorem ofS_num : (Str.ofString "0123456") = sT [48, 49, 50, 51, 52, 53, 54] := by decide +kernel
theorem ofS_bl : (Str.ofString " ") = sT [32] := by decide +kernel
theorem ofS_abc : (Str.ofString "abcdef") = sT [97, 98, 99, 100, 101, 102] := by decide +kernel
theorem sT_one (c : Nat) : (⟨#[c]⟩ : Str) = sT [c] := rfl
theorem sT_beq (a b : List Nat) : (sT a == sT b) = decide (a = b) := by
  rw [Bool.eq_iff_iff, beq_iff_eq, decide_eq_true_eq]
  constructor
  · intro h; have := congrArg (fun z : Str => z.cps.toList) h; simpa [sT] using this
  · rintro rfl; rfl
theorem line_ge {n : Nat} (h : n ≤ 100000) : n ≤ sizeLine := by rw [sizeLine_eq]; omega
theorem abc_at {n : Int} (h0 : 0 ≤ n) (h : n < 6) : atI (sT [97, 98, 99, 100, 101, 102]).cps.toList n = some (ltr n) := by
  rw [sT_cps]
  have : n = 0 ∨ n = 1 ∨ n = 2 ∨ n = 3 ∨ n = 4 ∨ n = 5 := by omega
  rcases this with rfl | rfl | rfl | rfl | rfl | rfl <;> rfl
theorem abc_find {n : Int} (h0 : 0 ≤ n) (h : n < 6) : Txt.find (sT [97, 98, 99, 100, 101, 102]) (sT [ltr n]) = n := by
  have : n = 0 ∨ n = 1 ∨ n = 2 ∨ n = 3 ∨ n = 4 ∨ n = 5 := by omega
  rcases this with rfl | rfl | rfl | rfl | rfl | rfl <;> decide +kernel
def Plain : Nat → PV → Prop
  | _ + 1, .int _ => True
  | _ + 1, .str _ => True
  | n + 1, .tup l => l.length ≤ 1000 ∧ ∀ x ∈ l, Plain n x
  | _, _ => False
def sp_same (n : Nat) : Sp' := fun vs H Q _ => match vs with
  | [x, y] => x = y ∧ Plain n y ∧ Q (.bl true) H
  | _ => False
theorem e_same {n : Nat} {x y : PV} {H : PHp} {Q : VK'} {E : XK'} : sp_same n [x, y] H Q E = (x = y ∧ Plain n y ∧ Q (.bl true) H) := rfl
theorem for_atD {ok : PHp → Prop} {g : TG'} {tb : TS'} {D : Ends'} {xs : List PV} (Pv : Nat → St' → PHp → Prop) (hd : ∀ σ H, Pv xs.length σ H → ok H ∧ D.nx σ H)
    (hs : ∀ (D' : Ends') i x σ H, xs[i]? = some x → Pv i σ H → (∀ σ' H', Pv (i + 1) σ' H' → D'.nx σ' H') → ok H ∧ g x σ H fun σ2 H2 => tb D' σ2 H2)
    {σ : St'} {H : PHp} (h0 : Pv 0 σ H) : uForL ok g tb D xs σ H := for_at Pv hd (fun G i x σ H hx p k => hs _ i x σ H hx p k) h0
def ptx (c : Nat) (p : P2) : List Nat := [ltr p.1, c, ltr p.2]
def wtx (c : Int) (ts bs : List P2) : List Nat := (48 + c.toNat) :: 58 :: (ts.flatMap (fun p => 32 :: ptx 62 p) ++ bs.flatMap (fun p => 32 :: ptx 126 p))
def In6 (ps : List P2) : Prop := ∀ p ∈ ps, (0 ≤ p.1 ∧ p.1 < 6) ∧ (0 ≤ p.2 ∧ p.2 < 6)
theorem good6 {c : Int} {ps : List P2} (g : Good c ps) (h : c ≤ 6) : In6 ps := fun p hp => by have := g.lo p hp; omega
def sp_pt : Sp' := fun vs H Q _ => match vs with
  | [.tup [.int u, .int v], .str z] => ((0 ≤ u ∧ u < 6) ∧ (0 ≤ v ∧ v < 6)) ∧ ∃ c, z = sT [c] ∧ Q (tx [ltr u, c, ltr v]) H
  | _ => False
theorem e_pt {u v : Int} {z : Str} {H : PHp} {Q : VK'} {E : XK'} : sp_pt [.tup [.int u, .int v], .str z] H Q E = (((0 ≤ u ∧ u < 6) ∧ (0 ≤ v ∧ v < 6)) ∧ ∃ c, z = sT [c] ∧ Q (tx [ltr u, c, ltr v]) H) := rfl
def sp_wr (t : Ad) : Sp' := fun vs H Q _ => match vs with
  | [.ref x] => ∃ dx c ts bs, H x = some (.ins t.a_Drawing dx (DF c ts bs)) ∧ (1 ≤ c ∧ c ≤ 6) ∧ In6 ts ∧ In6 bs ∧ ts.length ≤ 15 ∧ bs.length ≤ 15 ∧ Q (tx (wtx c ts bs)) H
  | _ => False
theorem e_wr {x : Addr} {H : PHp} {Q : VK'} {E : XK'} : sp_wr t [.ref x] H Q E = ∃ dx c ts bs, H x = some (.ins t.a_Drawing dx (DF c ts bs)) ∧ (1 ≤ c ∧ c ≤ 6) ∧ In6 ts ∧ In6 bs ∧ ts.length ≤ 15 ∧ bs.length ≤ 15 ∧ Q (tx (wtx c ts bs)) H := rfl
def pts (ts bs : List P2) : List Str := ts.map (fun p => sT (ptx 62 p)) ++ bs.map (fun p => sT (ptx 126 p))
def Two (c : Int) (ts bs : List P2) : Prop := (1 ≤ c ∧ c ≤ 6) ∧ Good c ts ∧ Good c bs ∧ bs.length ≤ 6 ∧ Srt ts ∧ Srt bs
def sp_lw : Sp' := fun vs H Q _ => match vs with
  | [.int c, .ref a, .ref b] => ∃ ps qs, H a = some (.lst (ps.map prV)) ∧ H b = some (.lst (qs.map prV)) ∧ (1 ≤ c ∧ c ≤ 6) ∧ Good c ps ∧ Good c qs ∧ ∀ ts bs, ts.Perm ps → Srt ts → bs.Perm qs → Srt bs → Q (tx (wtx c ts bs)) H
  | _ => False
theorem e_lw {c : Int} {a b : Addr} {H : PHp} {Q : VK'} {E : XK'} : sp_lw [.int c, .ref a, .ref b] H Q E = ∃ ps qs, H a = some (.lst (ps.map prV)) ∧ H b = some (.lst (qs.map prV)) ∧ (1 ≤ c ∧ c ≤ 6) ∧ Good c ps ∧ Good c qs ∧ ∀ ts bs, ts.Perm ps → Srt ts → bs.Perm qs → Srt bs → Q (tx (wtx c ts bs)) H := rfl
theorem len_pts {c : Nat} {ps : List P2} : (ps.flatMap (fun p => 32 :: ptx c p)).length = 4 * ps.length := by
  induction ps with
  | nil => rfl
  | cons p ps ih => rw [List.flatMap_cons, List.length_append, ih, List.length_cons]; simp [ptx]; omega
theorem len_wtx {c : Int} {ts bs : List P2} : (wtx c ts bs).length = 2 + 4 * ts.length + 4 * bs.length := by
  unfold wtx
  rw [List.length_cons, List.length_cons, List.length_append, len_pts, len_pts]; omega
theorem join_cons {a : List Nat} : ∀ {ys : List (List Nat)}, Str.join (sT [32]) ((a :: ys).map sT) = sT (a ++ ys.flatMap (fun y => 32 :: y))
  | [] => by simp [Str.join]
  | y :: ys => by
    have ih := join_cons (a := y) (ys := ys)
    show sT a ++ sT [32] ++ Str.join (sT [32]) (List.map sT (y :: ys)) = _
    rw [ih, sT_add, sT_add]
    congr 1
    simp
def wps (c : Int) (ts bs : List P2) : List (List Nat) := [48 + c.toNat, 58] :: (ts.map (ptx 62) ++ bs.map (ptx 126))
theorem wps_join {c : Int} {ts bs : List P2} : Str.join (sT [32]) ((wps c ts bs).map sT) = sT (wtx c ts bs) := by
  unfold wps
  rw [join_cons, List.flatMap_append, List.flatMap_map, List.flatMap_map]
  rfl
theorem hd_one : ∀ {a b R S : List Nat}, 32 ∉ a → 32 ∉ b → (R = [] ∨ ∃ r, R = 32 :: r) → (S = [] ∨ ∃ r, S = 32 :: r) → a ++ R = b ++ S → a = b ∧ R = S
  | [], [], R, S, _, _, _, _, h => ⟨rfl, h⟩
  | [], d :: b, R, S, _, hb, hR, _, h => by
    rcases hR with rfl | ⟨r, rfl⟩
    · simp at h
    · simp only [List.nil_append, List.cons_append, List.cons.injEq] at h
      exact absurd (by rw [← h.1]; exact List.mem_cons_self) hb
  | c :: a, [], R, S, ha, _, _, hS, h => by
    rcases hS with rfl | ⟨r, rfl⟩
    · simp at h
    · simp only [List.nil_append, List.cons_append, List.cons.injEq] at h
      exact absurd (by rw [h.1]; exact List.mem_cons_self) ha
  | c :: a, d :: b, R, S, ha, hb, hR, hS, h => by
    simp only [List.cons_append, List.cons.injEq] at h
    obtain ⟨e, h⟩ := h
    obtain ⟨e2, h2⟩ := hd_one (fun q => ha (List.mem_cons_of_mem _ q)) (fun q => hb (List.mem_cons_of_mem _ q)) hR hS h
    rw [e, e2]
    exact ⟨rfl, h2⟩
def bf (ys : List (List Nat)) : List Nat := ys.flatMap (fun y => 32 :: y)
theorem bf_or (ys : List (List Nat)) : bf ys = [] ∨ ∃ r, bf ys = 32 :: r := by
  cases ys with
  | nil => exact .inl rfl
  | cons y ys => exact .inr ⟨_, rfl⟩
theorem free_one : ∀ {ys zs : List (List Nat)} {a b : List Nat}, 32 ∉ a → 32 ∉ b → (∀ y ∈ ys, 32 ∉ y) → (∀ z ∈ zs, 32 ∉ z) → a ++ bf ys = b ++ bf zs → a = b ∧ ys = zs
  | [], [], a, b, ha, hb, _, _, h => ⟨(hd_one ha hb (bf_or _) (bf_or _) h).1, rfl⟩
  | [], z :: zs, a, b, ha, hb, _, _, h => absurd (hd_one ha hb (bf_or _) (bf_or _) h).2 (by simp [bf])
  | y :: ys, [], a, b, ha, hb, _, _, h => absurd (hd_one ha hb (bf_or _) (bf_or _) h).2 (by simp [bf])
  | y :: ys, z :: zs, a, b, ha, hb, hy, hz, h => by
    obtain ⟨e, h2⟩ := hd_one ha hb (bf_or _) (bf_or _) h
    have h3 : y ++ bf ys = z ++ bf zs := by simpa [bf] using h2
    obtain ⟨e2, e3⟩ := free_one (hy y List.mem_cons_self) (hz z List.mem_cons_self) (fun q hq => hy q (List.mem_cons_of_mem _ hq)) (fun q hq => hz q (List.mem_cons_of_mem _ hq)) h3
    exact ⟨e, by rw [e2, e3]⟩
theorem str_back (l : List Str) : (l.map fun p => p.cps.toList).map sT = l := by
  rw [List.map_map]
  conv => rhs; rw [← List.map_id l]
  refine List.map_congr_left fun p _ => ?_
  show (⟨p.cps.toList.toArray⟩ : Str) = p
  simp
theorem no32 {c : Nat} {p : P2} (h : c ≠ 32) : 32 ∉ ptx c p := by
  unfold ptx ltr
  simp
  omega
theorem str_num {c : Int} (h : 1 ≤ c ∧ c ≤ 6) : (toString c : Str) = sT [48 + c.toNat] := by
  have : c = 1 ∨ c = 2 ∨ c = 3 ∨ c = 4 ∨ c = 5 ∨ c = 6 := by omega
  rcases this with rfl | rfl | rfl | rfl | rfl | rfl <;> decide +kernel
theorem num_find {c : Int} (h : 1 ≤ c ∧ c ≤ 6) : Txt.find (sT [48, 49, 50, 51, 52, 53, 54]) (sT [48 + c.toNat]) = c := by
  have : c = 1 ∨ c = 2 ∨ c = 3 ∨ c = 4 ∨ c = 5 ∨ c = 6 := by omega
  rcases this with rfl | rfl | rfl | rfl | rfl | rfl <;> decide +kernel
def pOf (y : PV) : P2 := match y with | .tup [.int u, .int v] => (u, v) | _ => (0, 0)
theorem pt_map {c : Nat} {ps : List P2} : ((ps.map prV).filter fun _ => true).map (fun y => PV.str (sT (ptx c (pOf y)))) = (ps.map fun p => sT (ptx c p)).map PV.str := by
  rw [List.filter_eq_self.mpr (fun _ _ => rfl), List.map_map, List.map_map]; rfl
theorem wps_map {c : Int} {ts bs : List P2} : (wps c ts bs).map sT = sT [48 + c.toNat, 58] :: pts ts bs := by
  unfold wps pts
  rw [List.map_cons, List.map_append, List.map_map, List.map_map]; rfl
theorem wps_len {c : Int} {ts bs : List P2} : (((wps c ts bs).map sT).map (·.length)).sum + ((wps c ts bs).map sT).length = 3 + 4 * ts.length + 4 * bs.length := by
  have key : ∀ (c : Nat) (ps : List P2), ((ps.map fun p => sT (ptx c p)).map (·.length)).sum = 3 * ps.length := fun c ps => by
    induction ps with
    | nil => rfl
    | cons p ps ih => rw [List.map_cons, List.map_cons, List.sum_cons, ih, sT_len, List.length_cons]; simp [ptx]; omega
  rw [wps_map]
  unfold pts
  rw [List.map_cons, List.sum_cons, List.map_append, List.sum_append, key, key, sT_len]
  simp only [List.length_cons, List.length_append, List.length_map, List.length_nil]
  omega
theorem lg6 {c : Int} (h : 1 ≤ c ∧ c ≤ 6) : c.natAbs.log2 < 1920 := by
  have : c = 1 ∨ c = 2 ∨ c = 3 ∨ c = 4 ∨ c = 5 ∨ c = 6 := by omega
  rcases this with rfl | rfl | rfl | rfl | rfl | rfl <;> decide
theorem pl_prs {n : Nat} {ps : List P2} (h : ps.length ≤ 15) : Plain (n + 3) (.tup (ps.map prV)) := by
  unfold Plain
  refine ⟨by rw [List.length_map]; omega, fun x hx => ?_⟩
  obtain ⟨p, _, rfl⟩ := List.mem_map.mp hx
  unfold prV Plain
  refine ⟨by simp, fun x hx => ?_⟩
  rcases List.mem_cons.mp hx with rfl | hx
  · unfold Plain; trivial
  · rw [List.mem_singleton.mp hx]; unfold Plain; trivial
theorem pl_D {c : Int} {ts bs : List P2} (h1 : ts.length ≤ 15) (h2 : bs.length ≤ 15) : Plain 4 (.tup [.int c, .tup (ts.map prV), .tup (bs.map prV)]) := by
  unfold Plain
  refine ⟨by simp, fun x hx => ?_⟩
  rcases List.mem_cons.mp hx with rfl | hx
  · unfold Plain; trivial
  · rcases List.mem_cons.mp hx with rfl | hx
    · exact pl_prs h1
    · rw [List.mem_singleton.mp hx]; exact pl_prs h2

theorem clip_lo (u : Option Int) {j : Int} {n : Nat} (h : (n : Int) ≤ j) : Builtin.Str.strSliceIndices (some j) u 1 n = Builtin.Str.strSliceIndices (some (n : Int)) u 1 n := by
  have a : ¬ j < 0 := by omega
  have b : ¬ ((n : Int) < 0) := by omega
  have e : min j (n : Int) = (n : Int) := by omega
  simp [Builtin.Str.strSliceIndices, a, b, e]
theorem sl_to {L : List Nat} {j : Int} (h0 : 0 ≤ j) (h : j ≤ L.length) : Txt.slice (sT L) none (some j) = sT (L.take j.toNat) := by
  show StrLaws.sliceText _ _ _ = _
  rw [StrLaws.sliceText_to (by rw [sT_cps]; exact ⟨h0, h⟩), sT_cps, List.drop_zero, Int.sub_zero]
  rfl
theorem sl_from {L : List Nat} {i : Int} (h0 : 0 ≤ i) : Txt.slice (sT L) (some i) none = sT (L.drop i.toNat) := by
  have key : ∀ j : Int, 0 ≤ j → j ≤ L.length → Txt.slice (sT L) (some j) none = sT (L.drop j.toNat) := fun j j0 jl => by
    show StrLaws.sliceText _ _ _ = _
    rw [StrLaws.sliceText_from (by rw [sT_cps]; exact ⟨j0, jl⟩), sT_cps, List.take_of_length_le (by rw [List.length_drop]; omega)]
    rfl
  by_cases h : i ≤ L.length
  · exact key i h0 h
  · have e : Txt.slice (sT L) (some i) none = Txt.slice (sT L) (some (L.length : Int)) none := by
      show StrLaws.sliceText _ _ _ = StrLaws.sliceText _ _ _
      unfold StrLaws.sliceText
      have q := clip_lo none (j := i) (n := (sT L).length) (by rw [sT_len]; omega)
      have q2 : ((sT L).length : Int) = (L.length : Int) := by rw [sT_len]
      rw [q2] at q
      rw [q]
    rw [e, key _ (by omega) (Int.le_refl _), Int.toNat_natCast, List.drop_length, List.drop_of_length_le (by omega)]
theorem len_take {n : Nat} {L : List Nat} : (L.take n).length ≤ L.length := by rw [List.length_take]; omega
theorem len_drop {n : Nat} {L : List Nat} : (L.drop n).length ≤ L.length := by rw [List.length_drop]; omega
theorem atI_ex {α : Type} {l : List α} {i : Int} (h0 : 0 ≤ i) (h : i < l.length) : ∃ c, atI l i = some c := by
  unfold atI ixN
  rw [if_pos (by omega), if_pos (by omega)]
  exact ⟨_, List.getElem?_eq_getElem (by omega)⟩
theorem sg_len : 0 < (Str.ofString " !\"#$&'()*+,-./0123456789:;<=>?@ABCDEFGHIJKLMNOPQRSTUVWXYZ[\\]^_`abcdefghijklmnopqrstuvwxyz{|}~").length ∧ (Str.ofString " !\"#$&'()*+,-./0123456789:;<=>?@ABCDEFGHIJKLMNOPQRSTUVWXYZ[\\]^_`abcdefghijklmnopqrstuvwxyz{|}~").length ≤ 1000 := by decide +kernel
theorem cut_map {α : Type} (f : α → PV) (l : List α) (lo hi : Option Int) : ∃ m : List α, cutP (l.map f) lo hi = m.map f ∧ m.length ≤ l.length ∧ ∀ x ∈ m, x ∈ l := by
  refine ⟨(l.drop (HT.sIx (l.map f).length 0 lo)).take (HT.sIx (l.map f).length (l.map f).length hi - HT.sIx (l.map f).length 0 lo), ?_, ?_, fun x hx => List.mem_of_mem_drop (List.mem_of_mem_take hx)⟩
  · unfold cutP; rw [List.map_take, List.map_drop]
  · rw [List.length_take, List.length_drop]; omega
def IsW (L : List Nat) : Prop := ∃ c ts bs, Two c ts bs ∧ L = wtx c ts bs
def fd (y : List Nat) : Int := Txt.find (sT [97, 98, 99, 100, 101, 102]) (sT y)
def cn (y : List Nat) : Int := Txt.find (sT [48, 49, 50, 51, 52, 53, 54]) (sT y)
def tS (ys : List (List Nat)) : List PV := (ys.map sT).map PV.str
def lst (y : List Nat) : List Nat := match y.getLast? with | some c => [c] | none => []
def pw (c : Nat) (ys : List (List Nat)) : List P2 := (ys.filter fun y => decide (c ∈ y)).map fun y => (fd (y.take 1), fd (lst y))
def sp_pw : Sp' := fun vs H Q _ => match vs with
  | [.ref a, .str z] => ∃ ys c, H a = some (.lst (tS ys)) ∧ z = sT [c] ∧ ys.length ≤ 500 ∧ (∀ y ∈ ys, y.length ≤ 500) ∧ ∀ p, H p = none → Q (.ref p) (put H p (.lst ((pw c ys).map prV)))
  | _ => False
theorem e_pw {a : Addr} {z : Str} {H : PHp} {Q : VK'} {E : XK'} : sp_pw [.ref a, .str z] H Q E = ∃ ys c, H a = some (.lst (tS ys)) ∧ z = sT [c] ∧ ys.length ≤ 500 ∧ (∀ y ∈ ys, y.length ≤ 500) ∧ ∀ p, H p = none → Q (.ref p) (put H p (.lst ((pw c ys).map prV))) := rfl
def sp_rd (t : Ad) : Sp' := fun vs H Q E => match vs with
  | [.str z] => ∃ L, z = sT L ∧ L.length ≤ 400 ∧ (∀ c ts bs, Two c ts bs → L = wtx c ts bs → ∀ x dx H1, Sub H H1 → H1 x = some (.ins t.a_Drawing dx (DF c ts bs)) → Q (.ref x) H1) ∧ (¬ IsW L → ∀ H1, Sub H H1 → E (.ref t.a_NoText) (some 0) H1)
  | _ => False
theorem e_rd {z : Str} {H : PHp} {Q : VK'} {E : XK'} : sp_rd t [.str z] H Q E = ∃ L, z = sT L ∧ L.length ≤ 400 ∧ (∀ c ts bs, Two c ts bs → L = wtx c ts bs → ∀ x dx H1, Sub H H1 → H1 x = some (.ins t.a_Drawing dx (DF c ts bs)) → Q (.ref x) H1) ∧ (¬ IsW L → ∀ H1, Sub H H1 → E (.ref t.a_NoText) (some 0) H1) := rfl
def sp_ldo : Sp' := fun vs H Q _ => match vs with
  | [.str z] => ∃ L, z = sT L ∧ L.length ≤ 400 ∧ (∀ c ts bs, Two c ts bs → L = wtx c ts bs → Q (.tup [.int c, .tup (ts.map prV), .tup (bs.map prV)]) H) ∧ (¬ IsW L → Q .non H)
  | _ => False
theorem e_ldo {z : Str} {H : PHp} {Q : VK'} {E : XK'} : sp_ldo [.str z] H Q E = ∃ L, z = sT L ∧ L.length ≤ 400 ∧ (∀ c ts bs, Two c ts bs → L = wtx c ts bs → Q (.tup [.int c, .tup (ts.map prV), .tup (bs.map prV)]) H) ∧ (¬ IsW L → Q .non H) := rfl
def sp_right : Sp' := fun vs H Q _ => match vs with
  | [.str z] => ∃ L, z = sT L ∧ L.length ≤ 400 ∧ Q (.bl true) H
  | _ => False
theorem e_right {z : Str} {H : PHp} {Q : VK'} {E : XK'} : sp_right [.str z] H Q E = ∃ L, z = sT L ∧ L.length ≤ 400 ∧ Q (.bl true) H := rfl
def sp_bent : Sp' := fun vs H Q _ => match vs with
  | [.str z, .int c, .int m] => ∃ L, z = sT L ∧ L.length ≤ 100 ∧ ∀ M : List Nat, M.length ≤ 400 → Q (tx M) H
  | _ => False
theorem e_bent {z : Str} {c m : Int} {H : PHp} {Q : VK'} {E : XK'} : sp_bent [.str z, .int c, .int m] H Q E = ∃ L, z = sT L ∧ L.length ≤ 100 ∧ ∀ M : List Nat, M.length ≤ 400 → Q (tx M) H := rfl
def sp_whole : Sp' := fun vs H Q _ => match vs with
  | [.int _] => Q (.bl true) H
  | _ => False
theorem e_whole {i : Int} {H : PHp} {Q : VK'} {E : XK'} : sp_whole [.int i] H Q E = Q (.bl true) H := rfl
theorem split_ex (L : List Nat) : ∃ a ys, Txt.split (sT L) (sT [32]) = (a :: ys).map sT ∧ L = a ++ bf ys ∧ 32 ∉ a ∧ ∀ y ∈ ys, 32 ∉ y := by
  have hj := StrLaws.join_split (sT L) (sT [32])
  have hf : ∀ p ∈ Txt.split (sT L) (sT [32]), 32 ∉ p.cps.toList := StrLaws.split_free (sT L) 32
  have hp := split_pos (sT L) (sT [32])
  generalize Txt.split (sT L) (sT [32]) = ps at *
  rw [← str_back ps] at hj ⊢
  cases ps with
  | nil => simp at hp
  | cons p ps =>
    rw [List.map_cons, join_cons] at hj
    refine ⟨p.cps.toList, ps.map fun p => p.cps.toList, rfl, ?_, hf p List.mem_cons_self, fun y hy => ?_⟩
    · have := congrArg (fun z : Str => z.cps.toList) hj
      simpa [sT, bf] using this.symm
    · obtain ⟨q, hq, rfl⟩ := List.mem_map.mp hy
      exact hf q (List.mem_cons_of_mem _ hq)
theorem bf_len : ∀ {ys : List (List Nat)}, ys.length ≤ (bf ys).length ∧ ∀ y ∈ ys, y.length ≤ (bf ys).length
  | [] => ⟨Nat.le_refl _, fun y hy => by cases hy⟩
  | y :: ys => by
    obtain ⟨h1, h2⟩ := bf_len (ys := ys)
    have e : (bf (y :: ys)).length = 1 + y.length + (bf ys).length := by
      show ((32 :: y) ++ bf ys).length = _
      rw [List.length_append, List.length_cons]; omega
    refine ⟨by rw [List.length_cons]; omega, fun z hz => ?_⟩
    rcases List.mem_cons.mp hz with rfl | hz
    · omega
    · have := h2 z hz; omega
def wys (ts bs : List P2) : List (List Nat) := ts.map (ptx 62) ++ bs.map (ptx 126)
theorem wys_no {ts bs : List P2} : ∀ y ∈ wys ts bs, 32 ∉ y := fun y hy => by
  rcases List.mem_append.mp hy with h | h
  · obtain ⟨p, _, rfl⟩ := List.mem_map.mp h; exact no32 (by decide)
  · obtain ⟨p, _, rfl⟩ := List.mem_map.mp h; exact no32 (by decide)
theorem wtx_bf {c : Int} {ts bs : List P2} : wtx c ts bs = [48 + c.toNat, 58] ++ bf (wys ts bs) := by
  unfold bf wys
  rw [List.flatMap_append, List.flatMap_map, List.flatMap_map]
  rfl
theorem part_w {c : Int} {ts bs : List P2} {a : List Nat} {ys : List (List Nat)} (h : wtx c ts bs = a ++ bf ys) (ha : 32 ∉ a) (hy : ∀ y ∈ ys, 32 ∉ y) : ys = wys ts bs := by
  rw [wtx_bf] at h
  exact (free_one (by simp; omega) ha wys_no hy h).2.symm
theorem fd_ltr {n : Int} (h0 : 0 ≤ n) (h : n < 6) : fd [ltr n] = n := abc_find h0 h
theorem pw_ptx {c d : Nat} {ps : List P2} (hc : c = 62 ∨ c = 126) (h6 : In6 ps) : pw c (ps.map (ptx d)) = if c = d then ps else [] := by
  induction ps with
  | nil => split <;> rfl
  | cons p ps ih =>
    have ih := ih fun q hq => h6 q (List.mem_cons_of_mem _ hq)
    have p6 := h6 p List.mem_cons_self
    have hm : decide (c ∈ ptx d p) = decide (c = d) := by
      unfold ptx ltr
      rw [Bool.eq_iff_iff, decide_eq_true_eq, decide_eq_true_eq]
      simp only [List.mem_cons, List.not_mem_nil, or_false]
      omega
    have hv : (fd ((ptx d p).take 1), fd (lst (ptx d p))) = p := by
      show (fd [ltr p.1], fd [ltr p.2]) = p
      rw [fd_ltr p6.1.1 p6.1.2, fd_ltr p6.2.1 p6.2.2]
    unfold pw at *
    rw [List.map_cons, List.filter_cons, hm]
    by_cases e : c = d
    · rw [if_pos e] at ih ⊢
      rw [if_pos (decide_eq_true e), List.map_cons, ih, hv]
    · rw [if_neg e] at ih ⊢
      rw [if_neg (by simpa using e), ih]
theorem pw_wys {ts bs : List P2} (h1 : In6 ts) (h2 : In6 bs) : pw 62 (wys ts bs) = ts ∧ pw 126 (wys ts bs) = bs := by
  have ap : ∀ (c : Nat) (a b : List (List Nat)), pw c (a ++ b) = pw c a ++ pw c b := fun c a b => by
    unfold pw; rw [List.filter_append, List.map_append]
  unfold wys
  rw [ap, ap, pw_ptx (.inl rfl) h1, pw_ptx (.inl rfl) h2, pw_ptx (.inr rfl) h1, pw_ptx (.inr rfl) h2]
  simp
def isT (y : List Nat) : Bool := decide ((y.drop 1).take 1 = [62])
def prT (y : List Nat) : P2 := (fd (y.take 1), fd ((y.drop 2).take 1))
def tL (ys : List (List Nat)) : List P2 := (ys.filter isT).map prT
def bL (ys : List (List Nat)) : List P2 := (ys.filter fun y => !isT y).map prT
theorem prT_ptx {d : Nat} {p : P2} (p6 : (0 ≤ p.1 ∧ p.1 < 6) ∧ (0 ≤ p.2 ∧ p.2 < 6)) : prT (ptx d p) = p := by
  show (fd [ltr p.1], fd [ltr p.2]) = p
  rw [fd_ltr p6.1.1 p6.1.2, fd_ltr p6.2.1 p6.2.2]
theorem tb_ptx {d : Nat} {ps : List P2} (h6 : In6 ps) : tL (ps.map (ptx d)) = (if d = 62 then ps else []) ∧ bL (ps.map (ptx d)) = if d = 62 then [] else ps := by
  induction ps with
  | nil => constructor <;> split <;> rfl
  | cons p ps ih =>
    obtain ⟨i1, i2⟩ := ih fun q hq => h6 q (List.mem_cons_of_mem _ hq)
    have p6 := h6 p List.mem_cons_self
    have hm : isT (ptx d p) = decide (d = 62) := by
      show decide ([d] = [62]) = _
      simp
    unfold tL bL at *
    rw [List.map_cons, List.filter_cons, List.filter_cons, hm]
    by_cases e : d = 62
    · rw [if_pos e] at i1 i2 ⊢
      rw [if_pos e, if_pos (decide_eq_true e), if_neg (by simp [e]), List.map_cons, i1, i2, prT_ptx p6]
      exact ⟨rfl, rfl⟩
    · rw [if_neg e] at i1 i2 ⊢
      rw [if_neg e, if_neg (by simpa using e), if_pos (by simp [e]), List.map_cons, i1, i2, prT_ptx p6]
      exact ⟨rfl, rfl⟩
theorem tb_wys {ts bs : List P2} (h1 : In6 ts) (h2 : In6 bs) : tL (wys ts bs) = ts ∧ bL (wys ts bs) = bs := by
  have a1 : ∀ (a b : List (List Nat)), tL (a ++ b) = tL a ++ tL b := fun a b => by
    unfold tL; rw [List.filter_append, List.map_append]
  have a2 : ∀ (a b : List (List Nat)), bL (a ++ b) = bL a ++ bL b := fun a b => by
    unfold bL; rw [List.filter_append, List.map_append]
  unfold wys
  rw [a1, a2, (tb_ptx h1).1, (tb_ptx h1).2, (tb_ptx h2).1, (tb_ptx h2).2]
  simp
theorem part_w2 {c : Int} {ts bs : List P2} {a : List Nat} {ys : List (List Nat)} (h : (wtx c ts bs).drop 2 = a ++ bf ys) (ha : 32 ∉ a) (hy : ∀ y ∈ ys, 32 ∉ y) : ys = wys ts bs := by
  rw [wtx_bf] at h
  have h' : [] ++ bf (wys ts bs) = a ++ bf ys := h
  exact (free_one (by simp) ha wys_no hy h').2.symm
theorem slice_nat (L : List Nat) (a b : Nat) (h : a ≤ b) : Txt.slice (sT L) (some (a : Int)) (some (b : Int)) = sT ((L.drop a).take (b - a)) := by
  have hl : (sT L).length = L.length := sT_len _
  have ei : Builtin.Str.strSliceIndices (some (a : Int)) (some (b : Int)) 1 L.length = Builtin.Str.strSliceIndices (some ((min a L.length : Nat) : Int)) (some ((min b L.length : Nat) : Int)) 1 L.length := by
    have n1 : ¬ ((a : Int) < 0) := by omega
    have n2 : ¬ ((b : Int) < 0) := by omega
    have n3 : ¬ (((min a L.length : Nat) : Int) < 0) := by omega
    have n4 : ¬ (((min b L.length : Nat) : Int) < 0) := by omega
    have m1 : min (a : Int) (L.length : Int) = ((min a L.length : Nat) : Int) := by omega
    have m2 : min (b : Int) (L.length : Int) = ((min b L.length : Nat) : Int) := by omega
    have m3 : min ((min a L.length : Nat) : Int) (L.length : Int) = ((min a L.length : Nat) : Int) := by omega
    have m4 : min ((min b L.length : Nat) : Int) (L.length : Int) = ((min b L.length : Nat) : Int) := by omega
    unfold Builtin.Str.strSliceIndices
    simp only [show (1 : Int) > 0 from by decide, if_true, n1, n2, n3, n4, if_false, m1, m2, m3, m4]
  have et : Txt.slice (sT L) (some (a : Int)) (some (b : Int)) = StrLaws.sliceText (sT L) (some ((min a L.length : Nat) : Int)) (some ((min b L.length : Nat) : Int)) := by
    show StrLaws.sliceText _ _ _ = _
    unfold StrLaws.sliceText
    rw [hl, ei]
  rw [et, StrLaws.sliceText_nat (sT L) (by omega) (by rw [hl]; omega), sT_cps]
  show sT _ = sT _
  congr 1
  apply List.ext_getElem?
  intro i
  rw [List.getElem?_take, List.getElem?_take, List.getElem?_drop, List.getElem?_drop]
  by_cases h1 : a ≤ L.length
  · rw [Nat.min_eq_left h1]
    by_cases h2 : i < min b L.length - a
    · rw [if_pos h2, if_pos (by omega)]
    · rw [if_neg h2]
      split
      · rw [List.getElem?_eq_none (by omega)]
      · rfl
  · rw [if_neg (by omega)]
    split
    · rw [List.getElem?_eq_none (by omega)]
    · rfl
theorem slice_hd (L : List Nat) : Txt.slice (sT L) none (some 1) = sT (L.take 1) := by
  have e : Txt.slice (sT L) none (some 1) = Txt.slice (sT L) (some ((0 : Nat) : Int)) (some ((1 : Nat) : Int)) := by
    show StrLaws.sliceText _ _ _ = StrLaws.sliceText _ _ _
    unfold StrLaws.sliceText
    rw [StrLaws.sliceIdx_none_lo]
    rfl
  rw [e, slice_nat L 0 1 (by decide)]
  rfl
theorem slice_fr (L : List Nat) (a : Nat) : Txt.slice (sT L) (some (a : Int)) none = sT (L.drop a) := by
  have e : Txt.slice (sT L) (some (a : Int)) none = Txt.slice (sT L) (some (a : Int)) (some ((max a L.length : Nat) : Int)) := by
    show StrLaws.sliceText _ _ _ = StrLaws.sliceText _ _ _
    unfold StrLaws.sliceText
    rw [StrLaws.sliceIdx_none_hi, sT_len]
    have n2 : ¬ (((L.length : Nat) : Int) < 0) := by omega
    have n3 : ¬ (((max a L.length : Nat) : Int) < 0) := by omega
    have m1 : min ((L.length : Nat) : Int) (L.length : Int) = (L.length : Int) := by omega
    have m2 : min ((max a L.length : Nat) : Int) (L.length : Int) = (L.length : Int) := by omega
    have : Builtin.Str.strSliceIndices (some (a : Int)) (some ((L.length : Nat) : Int)) 1 L.length = Builtin.Str.strSliceIndices (some (a : Int)) (some ((max a L.length : Nat) : Int)) 1 L.length := by
      unfold Builtin.Str.strSliceIndices
      simp only [show (1 : Int) > 0 from by decide, if_true, n2, n3, if_false, m1, m2]
    rw [this]
  rw [e, slice_nat L a _ (by omega)]
  congr 1
  exact List.take_of_length_le (by rw [List.length_drop]; omega)
theorem atI_last {α : Type} {l : List α} : atI l (-1) = l.getLast? := by
  unfold atI ixN
  cases l with
  | nil => rfl
  | cons x l =>
    rw [if_neg (by decide), if_pos (by simp only [List.length_cons]; omega), List.getLast?_eq_getElem?]
    show (x :: l)[((-1 : Int) + ((x :: l).length : Nat)).toNat]? = _
    congr 1
    simp only [List.length_cons]; omega
def fQ (y : PV) : PV := match y with | .str z => prV (fd (z.cps.toList.take 1), fd (lst z.cps.toList)) | _ => .non
def hasC (c : Nat) (y : PV) : Bool := match y with | .str z => decide (c ∈ z.cps.toList) | _ => false
theorem fQ_s {y : List Nat} : fQ (.str (sT y)) = prV (fd (y.take 1), fd (lst y)) := by
  show prV (fd ((sT y).cps.toList.take 1), fd (lst (sT y).cps.toList)) = _
  rw [sT_cps]
theorem hasC_s {c : Nat} {y : List Nat} : hasC c (.str (sT y)) = decide (c ∈ y) := by
  show decide (c ∈ (sT y).cps.toList) = _
  rw [sT_cps]
theorem pw_tS {c : Nat} {ys : List (List Nat)} : ((tS ys).filter (hasC c)).map fQ = (pw c ys).map prV := by
  unfold tS pw
  induction ys with
  | nil => rfl
  | cons y ys ih =>
    rw [List.map_cons, List.map_cons, List.filter_cons, List.filter_cons, hasC_s]
    split
    · rw [List.map_cons, List.map_cons, List.map_cons, ih, fQ_s]
    · exact ih
theorem rowsL_p2 {H : PHp} : ∀ {ps : List P2}, RowsL H (ps.map prV) (ps.map p2l)
  | [] => .nil
  | p :: ps => .cons (.inl rfl) rowsL_p2
theorem pw_len {c : Nat} {ys : List (List Nat)} : (pw c ys).length ≤ ys.length := by
  unfold pw; rw [List.length_map]; exact List.length_filter_le _ _
theorem two_verd {c : Int} {ts bs : List P2} (h : Two c ts bs) : verd c (ts.map p2l) (bs.map p2l) = none := by
  obtain ⟨hc, g1, g2, l6, _, _⟩ := h
  unfold verd
  rw [if_neg (by omega), good_areP g1, good_areP g2, if_neg (by decide), if_neg (by decide), if_neg (by rw [List.length_map]; omega)]
theorem verd_two {c : Int} {P0 Q0 ts us : List P2} (h : verd c (P0.map p2l) (Q0.map p2l) = none) (gp : Good c P0) (gq : Good c Q0) (pt : ts.Perm P0) (st : Srt ts) (pu : us.Perm Q0) (su : Srt us) : Two c ts us := by
  unfold verd at h
  split at h
  · cases h
  split at h
  · cases h
  split at h
  · cases h
  split at h
  · cases h
  rename_i h1 h2 h3 h4
  rw [List.length_map] at h4
  exact ⟨by omega, gp.perm pt, gq.perm pu, by rw [pu.length_eq]; omega, st, su⟩
theorem cn_w {c : Int} {ts bs : List P2} (h : 1 ≤ c ∧ c ≤ 6) : cn ((wtx c ts bs).take 1) = c := num_find h
theorem p2l_map_inj : ∀ {a b : List P2}, a.map p2l = b.map p2l → a = b
  | [], [], _ => rfl
  | [], _ :: _, h => by cases h
  | _ :: _, [], h => by cases h
  | x :: a, y :: b, h => by
    rw [List.map_cons, List.map_cons, List.cons.injEq] at h
    rw [p2l_inj h.1, p2l_map_inj h.2]
theorem find_one_le {x : List Nat} {ch : Nat} (h : ch ∉ x) : Txt.find (sT x) (sT [ch]) = -1 := by
  have q := StrLaws.found_one (sT x) ch
  rw [sT_cps, decide_eq_false h] at q
  have e : Builtin.Str.occurrences (sT x) (sT [ch]) 0 (sT x).length 1 = [] := by
    have q2 : (Builtin.Str.occurrences (sT x) ⟨#[ch]⟩ 0 (sT x).length 1).isEmpty = true := by simpa using q
    exact List.isEmpty_iff.mp q2
  show (match Builtin.Str.occurrences (sT x) (sT [ch]) 0 (sT x).length 1 with | i :: _ => (i : Int) | [] => -1) = -1
  rw [e]
theorem cn_le (L : List Nat) : cn (L.take 1) ≤ 6 := by
  cases L with
  | nil => exact (by decide +kernel : cn [] ≤ 6)
  | cons ch r =>
    show Txt.find (sT [48, 49, 50, 51, 52, 53, 54]) (sT [ch]) ≤ 6
    by_cases hm : ch ∈ [48, 49, 50, 51, 52, 53, 54]
    · simp only [List.mem_cons, List.not_mem_nil, or_false] at hm
      rcases hm with rfl | rfl | rfl | rfl | rfl | rfl | rfl <;> decide +kernel
    · rw [find_one_le hm]; decide
theorem tL_len {ys : List (List Nat)} : (tL ys).length ≤ ys.length := by unfold tL; rw [List.length_map]; exact List.length_filter_le _ _
theorem bL_len {ys : List (List Nat)} : (bL ys).length ≤ ys.length := by unfold bL; rw [List.length_map]; exact List.length_filter_le _ _
theorem tL_snoc {a : List (List Nat)} {y : List Nat} : tL (a ++ [y]) = if isT y then tL a ++ [prT y] else tL a := by
  unfold tL; rw [List.filter_append, List.map_append, List.filter_cons, List.filter_nil]
  split
  · rfl
  · rw [List.map_nil, List.append_nil]
theorem bL_snoc {a : List (List Nat)} {y : List Nat} : bL (a ++ [y]) = if isT y then bL a else bL a ++ [prT y] := by
  unfold bL; rw [List.filter_append, List.map_append, List.filter_cons, List.filter_nil]
  cases isT y
  · rfl
  · rw [if_neg (by decide), if_pos rfl, List.map_nil, List.append_nil]
def InR (c : Int) (p : P2) : Prop := 0 ≤ p.1 ∧ p.1 < p.2 ∧ p.2 < c
theorem w_uniq {L : List Nat} {c c' : Int} {ts ts' bs bs' : List P2} (t1 : Two c ts bs) (e1 : L = wtx c ts bs) (t2 : Two c' ts' bs') (e2 : L = wtx c' ts' bs') : c' = c ∧ ts' = ts ∧ bs' = bs := by
  have h0 : c' = c := by
    have a1 : cn (L.take 1) = c := by rw [e1]; exact cn_w t1.1
    have a2 : cn (L.take 1) = c' := by rw [e2]; exact cn_w t2.1
    rw [← a1, ← a2]
  have h1 : wys ts' bs' = wys ts bs := part_w (e1.symm.trans (e2.trans wtx_bf)) (by simp; omega) wys_no
  have p1 := pw_wys (good6 t1.2.1 t1.1.2) (good6 t1.2.2.1 t1.1.2)
  have p2 := pw_wys (good6 t2.2.1 t2.1.2) (good6 t2.2.2.1 t2.1.2)
  rw [h1] at p2
  exact ⟨h0, p2.1.symm.trans p1.1, p2.2.symm.trans p1.2⟩
theorem ofS_7 : (Str.ofString "7:") = sT [55, 58] := by decide +kernel
theorem ofS_e : (Str.ofString "") = sT [] := by decide +kernel
theorem ofS_gti : (Str.ofString ">~") = sT [62, 126] := by decide +kernel
theorem ofS_18 : (Str.ofString " abcdefg>~:0123456") = sT [32, 97, 98, 99, 100, 101, 102, 103, 62, 126, 58, 48, 49, 50, 51, 52, 53, 54] := by decide +kernel
def sm (ws : List (List Nat)) : Nat := (ws.map (·.length)).sum + ws.length
theorem sm_sub {m l : List (List Nat)} (h : m.Sublist l) : sm m ≤ sm l := by
  unfold sm
  have h1 := h.length_le
  have h2 : (m.map (·.length)).sum ≤ (l.map (·.length)).sum := by
    clear h1
    induction h with
    | slnil => exact Nat.le_refl _
    | cons a _ ih => rw [List.map_cons, List.sum_cons]; omega
    | cons_cons a _ ih => rw [List.map_cons, List.map_cons, List.sum_cons, List.sum_cons]; omega
  omega
theorem sm_app {a b : List (List Nat)} : sm (a ++ b) = sm a + sm b := by
  unfold sm; rw [List.map_append, List.sum_append, List.length_append]; omega
theorem sm_rev {a : List (List Nat)} : sm a.reverse = sm a := by
  induction a with
  | nil => rfl
  | cons x a ih =>
    rw [List.reverse_cons, sm_app, ih]
    have : x :: a = [x] ++ a := rfl
    rw [this, sm_app]; omega
theorem sm_bf {a : List Nat} {ys : List (List Nat)} : sm (a :: ys) = (a ++ bf ys).length + 1 := by
  have key : ∀ ys : List (List Nat), sm ys = (bf ys).length := fun ys => by
    induction ys with
    | nil => rfl
    | cons y ys ih =>
      have e1 : y :: ys = [y] ++ ys := rfl
      rw [e1, sm_app, ih]
      show _ = ((32 :: y) ++ bf ys).length
      rw [List.length_append, List.length_cons]
      simp [sm]
  have e1 : a :: ys = [a] ++ ys := rfl
  rw [e1, sm_app, key ys, List.length_append]
  simp [sm]; omega
theorem sm_le {w : List Nat} {ws : List (List Nat)} (h : w ∈ ws) : w.length + 1 ≤ sm ws := by
  have := sm_sub (List.singleton_sublist.mpr h)
  simpa [sm] using this
theorem cut_sub {α : Type} (f : α → PV) (l : List α) (lo hi : Option Int) : ∃ m : List α, cutP (l.map f) lo hi = m.map f ∧ m.Sublist l := by
  refine ⟨(l.drop (HT.sIx (l.map f).length 0 lo)).take (HT.sIx (l.map f).length (l.map f).length hi - HT.sIx (l.map f).length 0 lo), ?_, (List.take_sublist _ _).trans (List.drop_sublist _ _)⟩
  unfold cutP; rw [List.map_take, List.map_drop]
abbrev sv (y : List Nat) : PV := .str (sT y)
theorem join_ex (ws : List (List Nat)) : ∃ M, Txt.join (sT [32]) (ws.map sT) = sT M ∧ M.length ≤ sm ws := by
  cases ws with
  | nil => exact ⟨[], rfl, Nat.zero_le _⟩
  | cons a ys =>
    refine ⟨a ++ bf ys, ?_, by rw [sm_bf]; omega⟩
    have e : Txt.join (sT [32]) ((a :: ys).map sT) = Str.join (sT [32]) ((a :: ys).map sT) := StrLaws.glued_eq_join _ _
    rw [e, join_cons]; rfl
theorem sm_sum (ws : List (List Nat)) : ((ws.map sT).map (·.length)).sum + (ws.map sT).length = sm ws := by
  unfold sm
  rw [List.length_map, List.map_map]
  congr 2
theorem str_ex (z : Str) : ∃ M, z = sT M ∧ M.length = z.length := ⟨z.cps.toList, by show z = ⟨z.cps.toList.toArray⟩; simp, by show z.cps.toList.length = z.cps.size; simp⟩
theorem cut_z (xs : List PV) : cutP xs none (some 0) = [] := by
  unfold cutP
  have e : (some (0 : Int)) = some ((0 : Nat) : Int) := rfl
  rw [e, HT.sIx_nat, HT.sIx_none]
  simp
def sev : List P2 := [(0, 1), (0, 2), (0, 3), (0, 4), (1, 2), (1, 3), (1, 4)]
theorem sev_good : Good 6 sev := ⟨by decide, by unfold sev; decide⟩
def fS (y : PV) : PV := match y with | .int k => prV (k.fdiv 4, 1 + k.fdiv 4 + k.fmod 4) | _ => .non
def sp_kinds (t : Ad) : Sp' := fun vs H Q _ => match vs with
  | [.ref a] => ∃ n, H a = some (.excA t.a_NoText n) ∧ ∀ r, H r = none → Q (.ref r) (put H r (.lst [.str "NoText"]))
  | _ => False
theorem e_kinds {a : Addr} {H : PHp} {Q : VK'} {E : XK'} : sp_kinds t [.ref a] H Q E = ∃ n, H a = some (.excA t.a_NoText n) ∧ ∀ r, H r = none → Q (.ref r) (put H r (.lst [.str "NoText"])) := rfl

end
section
variable {P : Program} {w : World} {K : PySem.W.Frag} {mg : Str → Option Value} {base : Heap} {t : Ad}
local macro_rules | `(tactic| walk_at "rd") => `(tactic| simp only [uRet, uRetN, uOp, uI, uI0, uIx, uVar, uC, uSeq, uAsg, vName, uIfS, uNext, uDrop, uTest, uChain, uAnd, uOr, uNot, uAndV, uOrV, uNotV, uIf, uUn, uNil, uCons, uTup, uLst, uCB, uLen, uAbs, uInt, uList, uTuple, uSlice, uNoPart, uPart,
  uCall, uComp, uYes, uChain3, uFld, w_fl, uStFld, w_sf, uMeth, w_ii, uMake, w_al, w_ls, w_sp, uLenSet, w_rv, w_cl, w_in,uShr, uBand, uCat, w_ca, w_aS, w_iS, w_lS, w_LS, w_iT, uBMS, w_fd, w_jn, uSliceS, w_sS, w_r1x, uRev1, w_spl, w_nS, w_sti, w_mx, w_mi, w_tS, uRaise, uRaiseI, w_ri, uAt, w_at, xCall, xSet, xDrop, xSeq, xIf, xMake, xMethO, uTry, uTryR, uLenSet2, w_l2, uRevS, w_rvS, sT_one, sT_add, sT_len, sT_beq,  uFor, uSeqI, uEqG, uInG, BT.sub, BT.nm, w_bm, w_il, uBM0, ends, uBreak, uCont, start', flat, deq, deqs, w_V, w_B, w_I, w_O, w_St, w_Sf, w_Sr, w_Dr, w_Dn, w_Db, w_Di, w_Ds, w_Dt, w_Df, w_Tn, w_Tb, w_Ti, w_Ts, w_Tt, w_Tf, w_Tr, w_Ni, w_Nb, w_Lf, w_Lr, w_Lt, w_Xt, w_Xf, w_Xr, w_1, w_isi, w_n0, w_n1, w_n2, w_n3, w_n4, w_vt, w_vc, w_vn, w_r1, w_r1', w_r2, w_r2', w_ap, w_ex, w_po, cif_t, cif_f,
  List.map_cons, List.map_nil, List.length_cons, List.length_nil, Nat.reduceAdd, Nat.reduceSub, Nat.add_sub_cancel, Nat.sub_self, Nat.zero_add, List.replicate_succ, List.replicate_zero, List.cons_append, List.nil_append, List.append_nil, List.getElem?_cons_zero, List.getElem?_cons_succ, List.set_cons_zero, List.set_cons_succ,
  atI2_0, atI2_1, List.all_cons, List.all_nil, Bool.and_self, Bool.and_true, Bool.true_and, Bool.not_true, Bool.not_false, true_and, and_true, put_same, Option.some.injEq, PO.lst.injEq, exists_eq_left', Int.zero_add , e_shape, e_cell, e_mixed, e_pairs, e_ispair, e_arep, e_init, ofS_gt, ofS_ti, ofS_co, ofS_num, ofS_bl, ofS_abc, e_same, e_pt, e_wr, e_lw, e_pw, e_rd, e_ldo, e_right, e_bent, e_whole, ofS_7, ofS_e, ofS_gti, ofS_18, e_kinds])
theorem G_is_pair (T : Tx K mg t) : FnOk' P w K mg base CX0 1 t.a_is_pair t.d_is_pair ["count", "pair"] sp_ispair := by
  refine okU (k := 0) T.F_is_pair sc_is_pair (fun vs H Q E h => by
    unfold sp_ispair at h
    split at h
    · rfl
    · exact h.elim) (fun cdv A outer s H E B hr => ⟨_, (qss_one (qs_ret (qe_and (qe_cmp (op_eqU hr.units) vr_eq (qe_callB call_len_seq vc_len rfl T.b_len PySem.boot_len (qa_cons (qv 1) qa_nil)) qe_int (nomark _)) (qe_one (qe_chain3 op_le vr_le op_lt vr_lt op_lt vr_lt qe_int (qe_ix (qv 1) qe_int (fun _ _ => rfl)) (qe_ix (qv 1) qe_int (fun _ _ => rfl)) (qv 0)))))), ?_⟩)
  intro vs H Q E h
  unfold sp_ispair at h
  split at h
  · rename_i c l
    obtain ⟨L, rfl, h⟩ := h
    rcases L with _ | ⟨u, _ | ⟨v, _ | ⟨z, r⟩⟩⟩
    · walk_at "rd"
      exact cif_neg rfl ⟨H, Sub.refl _, h⟩
    · walk_at "rd"
      exact cif_neg rfl ⟨H, Sub.refl _, h⟩
    · walk_at "rd"
      have h' : Q (.bl (decide (0 ≤ u) && (decide (u < v) && decide (v < c)))) H := h
      refine cif_pos rfl ?_
      by_cases h0 : 0 ≤ u
      · refine cif_pos (by simpa using h0) ?_
        rw [decide_eq_true h0, Bool.true_and] at h'
        by_cases h1 : u < v
        · refine cif_pos (by simpa using h1) ⟨H, Sub.refl _, ?_⟩
          rw [decide_eq_true h1, Bool.true_and] at h'
          exact h'
        · refine cif_neg (by simpa using h1) ⟨H, Sub.refl _, ?_⟩
          rw [decide_eq_false h1, Bool.false_and] at h'
          exact h'
      · refine cif_neg (by simpa using h0) ⟨H, Sub.refl _, ?_⟩
        rw [decide_eq_false h0, Bool.false_and] at h'
        exact h'
    · walk_at "rd"
      exact cif_neg (by simp; omega) ⟨H, Sub.refl _, h⟩
  · exact h.elim

theorem G_are_pairs (T : Tx K mg t) : FnOk' P w K mg base CX0 2 t.a_are_pairs t.d_are_pairs ["count", "pairs"] sp_arep := by
  refine okU (k := 1) T.F_are_pairs sc_are_pairs (fun vs H Q E h => by
    unfold sp_arep at h
    split at h
    · rfl
    · exact h.elim) (fun cdv A outer s H E B hr => ⟨_, (qss_one (qs_ret (qe_and (qe_callB (call_all rfl) vc_all rfl T.b_all boot_all (qa_cons (qe_comp (N2 := ["pair", "count"]) (nt := 1) (js := [0]) (cok (sc := defScope s_are_pairs) (by exact rfl) (by repeat (first | exact trivial | refine ⟨rfl, ?_⟩)) rfl (by rfl) (by decide +kernel) (by decide +kernel) (by rfl) (by decide +kernel) (by rfl) (by rfl)) rfl (qi_seq (qv 1)) (fun s0 H0 fp ps => ⟨(qg_name (i := 0) (show List.Nodup (["pair", "count"] : List Str) by decide +kernel) rfl (by first | exact Or.inl rfl | exact Or.inr rfl)), qif_nil, (qe_call (G_is_pair T) (hr.mono (by decide)) rfl T.g_is_pair T.F_is_pair.kp T.B_is_pair (qa_cons (qv 1) (qa_cons (qv 0) qa_nil)))⟩)) qa_nil)) (qe_one (qe_cmp (op_eqU hr.units) vr_eq (qe_len_set2 rfl hr.units rfl T.b_len rfl T.b_set boot_set (qv 1)) (qe_callB call_len_seq vc_len rfl T.b_len PySem.boot_len (qa_cons (qv 1) qa_nil)) (nomark _)))))), ?_⟩)
  intro vs H Q E h
  unfold sp_arep at h
  split at h
  · rename_i c a
    obtain ⟨ls, ha, hc, hl, h⟩ := h
    walk_at "rd"
    refine ⟨_, ha, fun acc hacc => ?_⟩
    have hna := ne_none ha hacc
    refine comp_pure (bP c) (fun _ => true) (fun σ => ∃ x, σ = [x, some (.int c)]) (by rw [List.length_map]; omega) (fun l => (put_ne hna).trans ha) ?step ?fin ⟨_, rfl⟩
    case step =>
      rintro y hy l σ R ⟨x, rfl⟩ hl kT kF
      obtain ⟨p, hp, rfl⟩ := List.mem_map.mp hy
      rw [bP_tI] at kT
      unfold tI
      walk_at "rd"
      exact ⟨p, rfl, hl, by rw [put_put]; exact kT rfl _ ⟨_, rfl⟩⟩
    case fin =>
      have em : ((ls.map tI).filter (fun _ => true)).map (bP c) = (ls.map (isP c)).map PV.bl := by
        rw [List.filter_eq_self.mpr (fun _ _ => rfl), List.map_map, List.map_map]
        exact List.map_congr_left fun l _ => bP_tI
      rw [em]
      walk_at "rd"
      refine ⟨ls.map (isP c), rfl, ?_⟩
      have ea : (ls.map (isP c)).all id = ls.all (isP c) := by rw [List.all_map]; rfl
      rw [ea]
      have s1 : U.Sub H (put H acc (.lst ((ls.map (isP c)).map PV.bl))) := Sub.put (Sub.refl _) hacc
      by_cases ga : ls.all (isP c) = true
      · obtain ⟨ps, rfl, gp⟩ := good_of ga
        rw [map_p2l] at ha
        refine cif_pos ga ⟨ps, (put_ne hna).trans ha, fun p hp => ?_, _, (put_ne hna).trans ha, H, s1, ?_⟩
        · obtain ⟨q1, q2, q3⟩ := gp p hp
          exact SP.mem_prs q1 q2 (by omega)
        · have e2 := SP.once_eq (l := ps) (d := [])
          unfold areP at h
          rw [ga, Bool.true_and] at h
          have e3 : ((((SP.once [] ps).length : Nat) : Int) == (((ps.map prV).length : Nat) : Int)) = decide ((ps.map p2l).Nodup) := by
            rw [Bool.eq_iff_iff, decide_eq_true_eq, nodup_p2l, List.length_map, beq_iff_eq]
            rw [List.length_nil, Nat.zero_add] at e2
            constructor
            · intro k; exact (e2.mp (by omega)).1
            · intro k; have := e2.mpr ⟨k, fun _ _ z => nomatch z⟩; omega
          rw [← e3] at h
          exact h
      · rw [Bool.not_eq_true] at ga
        rw [ga]
        unfold areP at h
        rw [ga, Bool.false_and] at h
        exact cif_neg rfl ⟨H, s1, h⟩
  · exact h.elim

theorem G_Drawing_init (T : Tx K mg t) : FnOk' P w K mg base (CXU P w) 3 t.a_Drawing_init t.d_Drawing_init ["self", "count", "ties", "bows"] (sp_init t) := by
  refine okX (k := 2) T.F_Drawing_init sc_Drawing_init (fun vs H Q E h => by
    unfold sp_init at h
    split at h
    · rfl
    · exact h.elim) (fun cdv A outer s H0 E0 vs H Q E hr hE h => ⟨_, (qss_cons (qs_if (qt_bool (qw_or (qt_cmp op_lt vr_lt (qv 1) qe_int (nomark _)) (qw_or1 (qt_cmp op_gt vr_gt (qv 1) (qe_globE (v' := .int 6) rfl T.c_MOST_NAMES (fun _ => by simp [RP])) (nomark _)))))
    (qss_one (qs_raise rfl plain_cx hE rfl T.x_NoCount rfl T.g_NoCount))
    qss_nil)
    (qss_cons (qs_setC (i := 4) sc_Drawing_init.nd rfl (by first | exact Or.inl rfl | exact Or.inr rfl) (N2 := ["tie"]) (nt := 1) (js := []) (cok (sc := defScope s_Drawing_init) (by exact rfl) (by repeat (first | exact trivial | refine ⟨rfl, ?_⟩)) rfl (by rfl) (by decide +kernel) (by decide +kernel) (by rfl) (by decide +kernel) (by rfl) (by rfl)) rfl (qi_seq (qv 2)) (fun s0 H0 fp ps => ⟨(qg_name (i := 0) (show List.Nodup (["tie"] : List Str) by decide +kernel) rfl (by first | exact Or.inl rfl | exact Or.inr rfl)), qif_nil, (qe_callTy call_tuple_of vc_tuple rfl T.b_tuple boot_tuple (qa_cons (qv 0) qa_nil))⟩))
    (qss_cons (qs_if (qt_not (qt_val (qe_call (G_are_pairs T) (hr.mono (by decide)) rfl T.g_are_pairs T.F_are_pairs.kp T.B_are_pairs (qa_cons (qv 1) (qa_cons (qv 4) qa_nil)))))
    (qss_one (qs_raise rfl plain_cx hE rfl T.x_NoTie rfl T.g_NoTie))
    qss_nil)
    (qss_cons (qs_setC (i := 5) sc_Drawing_init.nd rfl (by first | exact Or.inl rfl | exact Or.inr rfl) (N2 := ["bow"]) (nt := 1) (js := []) (cok (sc := defScope s_Drawing_init) (by exact rfl) (by repeat (first | exact trivial | refine ⟨rfl, ?_⟩)) rfl (by rfl) (by decide +kernel) (by decide +kernel) (by rfl) (by decide +kernel) (by rfl) (by rfl)) rfl (qi_seq (qv 3)) (fun s0 H0 fp ps => ⟨(qg_name (i := 0) (show List.Nodup (["bow"] : List Str) by decide +kernel) rfl (by first | exact Or.inl rfl | exact Or.inr rfl)), qif_nil, (qe_callTy call_tuple_of vc_tuple rfl T.b_tuple boot_tuple (qa_cons (qv 0) qa_nil))⟩))
    (qss_cons (qs_if (qt_not (qt_val (qe_call (G_are_pairs T) (hr.mono (by decide)) rfl T.g_are_pairs T.F_are_pairs.kp T.B_are_pairs (qa_cons (qv 1) (qa_cons (qv 5) qa_nil)))))
    (qss_one (qs_raise rfl plain_cx hE rfl T.x_NoBow rfl T.g_NoBow))
    qss_nil)
    (qss_cons (qs_if (qt_cmp op_gt vr_gt (qe_callB call_len_seq vc_len rfl T.b_len PySem.boot_len (qa_cons (qv 5) qa_nil)) (qe_globE (v' := .int 6) rfl T.c_MOST_BOWS (fun _ => by simp [RP])) (nomark _))
    (qss_one (qs_raise rfl plain_cx hE rfl T.x_NoBow rfl T.g_NoBow))
    qss_nil)
    (qss_cons (qs_fld (qv 0) (qv 1) T.cl_Drawing T.nf_Drawing_count rfl)
    (qss_cons (qs_fld (qv 0) (qe_callTy call_tuple_of vc_tuple rfl T.b_tuple boot_tuple (qa_cons (qe_callB call_sortP vc_sortP rfl T.b_sorted boot_sorted (qa_cons (qv 4) qa_nil)) qa_nil)) T.cl_Drawing T.nf_Drawing_ties rfl)
    (qss_one (qs_fld (qv 0) (qe_callTy call_tuple_of vc_tuple rfl T.b_tuple boot_tuple (qa_cons (qe_callB call_sortP vc_sortP rfl T.b_sorted boot_sorted (qa_cons (qv 5) qa_nil)) qa_nil)) T.cl_Drawing T.nf_Drawing_bows rfl)))))))))), ?_⟩)
  unfold sp_init at h
  split at h
  · rename_i x c a b
    obtain ⟨dx, ys, zs, as, bs, hx, ha, hb, ry, rz, ⟨la, lb⟩, hX, hQ⟩ := h
    refine seq_abs fun R hR => ?_
    walk_at "rd"
    by_cases hc : c < 1 ∨ 6 < c
    · have e := hX 0 (by unfold verd; rw [if_pos hc]) H (Sub.refl _)
      by_cases c1 : c < 1
      · exact cif_pos (by simp; omega) e
      · exact cif_neg (by simp; omega) (cif_pos (by simp; omega) e)
    refine cif_neg (by simp; omega) (cif_neg (by simp; omega) ?_)
    have hv : verd c as bs = if areP c as = false then some 1 else if areP c bs = false then some 2 else if 6 < bs.length then some 2 else none := by unfold verd; rw [if_neg hc]
    rw [hv] at hX hQ
    subst hR
    refine seq_abs fun R hR => ?_
    walk_at "rd"
    refine ⟨_, ha, fun p1 hp1 => ?_⟩
    refine comp_pure (rowT H) (fun _ => true) (fun σ => ∃ z, σ = [z]) (by rw [ry.length]; omega) (fun l => (put_ne (ne_none ha hp1)).trans ha) ?_ ?_ ⟨_, rfl⟩
    · rintro y hy l σ R' ⟨z, rfl⟩ hl kT kF
      obtain ⟨p, hp, row⟩ := pd_mem ry hy
      rcases row with rfl | ⟨r, rfl, hr⟩
      · unfold tI
        walk_at "rd"
        exact ⟨hl, by rw [put_put]; exact kT rfl _ ⟨_, rfl⟩⟩
      · rw [rowT_ref hr] at kT
        walk_at "rd"
        exact ⟨_, (put_ne (ne_none hr hp1)).trans hr, hl, by rw [put_put]; exact kT rfl _ ⟨_, rfl⟩⟩
    rw [List.filter_eq_self.mpr (fun _ _ => rfl), rowsL_map ry]
    subst hR
    have sb1 : U.Sub H (put H p1 (.lst (as.map tI))) := Sub.put (Sub.refl _) hp1
    have hp1s : put H p1 (.lst (as.map tI)) p1 = some (.lst (as.map tI)) := put_same
    have hx1 := sb1 _ _ hx
    have hb1 := sb1 _ _ hb
    have rz1 := rz.up sb1
    generalize put H p1 (.lst (as.map tI)) = H1 at *
    refine seq_abs fun R hR => ?_
    walk_at "rd"
    refine ⟨as, hp1s, by omega, la, ?_⟩
    by_cases ga : areP c as = false
    · rw [ga]
      exact cif_pos rfl (hX 1 (by rw [if_pos ga]) _ sb1)
    rw [if_neg ga] at hX hQ
    rw [Bool.not_eq_false] at ga
    rw [ga]
    refine cif_neg rfl ?_
    subst hR
    refine seq_abs fun R hR => ?_
    walk_at "rd"
    refine ⟨_, hb1, fun p2 hp2 => ?_⟩
    refine comp_pure (rowT H1) (fun _ => true) (fun σ => ∃ z, σ = [z]) (by rw [rz1.length]; omega) (fun l => (put_ne (ne_none hb1 hp2)).trans hb1) ?_ ?_ ⟨_, rfl⟩
    · rintro y hy l σ R' ⟨z, rfl⟩ hl kT kF
      obtain ⟨p, hp, row⟩ := pd_mem rz1 hy
      rcases row with rfl | ⟨r, rfl, hr⟩
      · unfold tI
        walk_at "rd"
        exact ⟨hl, by rw [put_put]; exact kT rfl _ ⟨_, rfl⟩⟩
      · rw [rowT_ref hr] at kT
        walk_at "rd"
        exact ⟨_, (put_ne (ne_none hr hp2)).trans hr, hl, by rw [put_put]; exact kT rfl _ ⟨_, rfl⟩⟩
    rw [List.filter_eq_self.mpr (fun _ _ => rfl), rowsL_map rz1]
    subst hR
    have sb2 : U.Sub H1 (put H1 p2 (.lst (bs.map tI))) := Sub.put (Sub.refl _) hp2
    have hp1t := sb2 _ _ hp1s
    have hx2 := sb2 _ _ hx1
    have hp2s : put H1 p2 (.lst (bs.map tI)) p2 = some (.lst (bs.map tI)) := put_same
    have sb3 := sb1.trans sb2
    generalize put H1 p2 (.lst (bs.map tI)) = H2 at *
    refine seq_abs fun R hR => ?_
    walk_at "rd"
    refine ⟨bs, hp2s, by omega, lb, ?_⟩
    by_cases gb : areP c bs = false
    · rw [gb]
      exact cif_pos rfl (hX 2 (by rw [if_pos gb]) _ sb3)
    rw [if_neg gb] at hX hQ
    rw [Bool.not_eq_false] at gb
    rw [gb]
    refine cif_neg rfl ?_
    subst hR
    refine seq_abs fun R hR => ?_
    walk_at "rd"
    refine ⟨_, hp2s, ?_⟩
    by_cases b6 : 6 < bs.length
    · exact cif_pos (by rw [List.length_map]; simp; omega) (hX 2 (by rw [if_pos b6]) _ sb3)
    rw [if_neg b6] at hX hQ
    refine cif_neg (by rw [List.length_map]; simp; omega) ?_
    subst hR
    obtain ⟨ps, rfl, gp⟩ := areP_good ga
    obtain ⟨qs, rfl, gq⟩ := areP_good gb
    rw [map_p2l] at hp1t hp2s
    have c6 : c ≤ 6 := by omega
    have hp15 := gp.len c6
    have hq15 := gq.len c6
    refine seq_abs fun R hR => ?_
    walk_at "rd"
    refine ⟨_, _, hx2, by simp, ?_⟩
    subst hR
    have n1 : p1 ≠ x := fun e => by subst e; rw [hx2] at hp1t; cases hp1t
    have n2 : p2 ≠ x := fun e => by subst e; rw [hx2] at hp2s; cases hp2s
    refine seq_abs fun R hR => ?_
    walk_at "rd"
    refine ⟨ps, (put_ne n1).trans hp1t, gp.nd, fun p hp => ?_, by omega, fun r1 ts hr1 pt st => ?_⟩
    · have := gp.lo p hp; omega
    try walk_at "rd"
    have nx1 : x ≠ r1 := fun e => by subst e; rw [put_same] at hr1; cases hr1
    refine ⟨_, _, (put_ne nx1).trans put_same, Nat.lt_of_le_of_lt putU_len (by decide), ?_⟩
    subst hR
    have n3 : p2 ≠ r1 := fun e => by subst e; rw [put_ne n2, hp2s] at hr1; cases hr1
    walk_at "rd"
    refine ⟨qs, (put_ne n2).trans ((put_ne n3).trans ((put_ne n2).trans hp2s)), gq.nd, fun p hp => ?_, by omega, fun r2 bs hr2 pb sb => ?_⟩
    · have := gq.lo p hp; omega
    try walk_at "rd"
    have nx2 : x ≠ r2 := fun e => by subst e; rw [put_same] at hr2; cases hr2
    have ul := fun f v fs => @putU_len f v fs
    refine ⟨_, _, (put_ne nx2).trans put_same, ?_, put H x (.ins t.a_Drawing dx _), sub_putx ?_ put_same, hQ rfl ps qs ts bs rfl rfl gp gq pt st pb sb⟩
    · have l1 := ul "ties" (.tup (ts.map prV)) (putU "count" (.int c) [])
      have l2 := ul "count" (.int c) []
      simp only [List.length_nil] at l2
      omega
    · intro z o hzx hz
      have hz2 := sb3 _ _ hz
      have z1 : z ≠ r1 := fun e => by subst e; rw [put_ne hzx, hz2] at hr1; cases hr1
      have z2 : z ≠ r2 := fun e => by subst e; rw [put_ne hzx, put_ne z1, put_ne hzx, hz2] at hr2; cases hr2
      rw [put_ne hzx, put_ne z2, put_ne hzx, put_ne z1, put_ne hzx]
      exact hz2
  · exact h.elim

theorem G_NoText_init (T : Tx K mg t) : FnH P w K mg base CX0 1 t.a_NoText_init t.d_NoText_init ["self", "at"] (spI t.a_NoText) := by
  refine fnH_of (k := 0) T.F_NoText_init sc_NoText_init (fun vs H Q E h => by obtain ⟨a, n, rfl, _⟩ := h; rfl) (fun cdv A outer s H vs Q E h => ⟨_, pss_cons (ps_I1 T.xi_NoText T.xd_DoingError rfl T.g_DoingError rfl (Or.inl rfl) (pe_j2 rfl (Or.inl rfl) (by decide))) (pss_one (ps_I2 T.xi_NoText rfl (Or.inl rfl) rfl (Or.inl rfl))), ?_⟩)
  obtain ⟨a, n, rfl, hn, ha, q⟩ := h
  refine ⟨a, n, rfl, rfl, by omega, ha, a, n, rfl, rfl, upd_same, fun dx o hd ne at_ => ?_⟩
  rw [upd_ne ne] at hd
  rw [upd_upd ne]
  exact q dx o hd ne at_

theorem G_Drawing_shape (T : Tx K mg t) : FnOk' P w K mg base CX0 1 t.a_Drawing_shape t.d_Drawing_shape ["self"] (sp_shape t) := by
  refine okU (k := 0) T.F_Drawing_shape sc_Drawing_shape (fun vs H Q E h => by
    unfold sp_shape at h
    split at h
    · rfl
    · exact h.elim) (fun cdv A outer s H E B hr => ⟨_, (qss_one (qs_ret (qe_tup (qa_cons (qe_fld (qv 0) T.cl_Drawing T.nf_Drawing_count rfl) (qa_cons (qe_fld (qv 0) T.cl_Drawing T.nf_Drawing_ties rfl) (qa_cons (qe_fld (qv 0) T.cl_Drawing T.nf_Drawing_bows rfl) qa_nil)))))), ?_⟩)
  intro vs H Q E h
  unfold sp_shape at h
  split at h
  · rename_i x
    obtain ⟨dx, c, ts, bs, hx, h⟩ := h
    walk_at "rd"
    exact ⟨_, _, _, hx, rfl, _, _, _, hx, rfl, _, _, _, hx, rfl, small_size (by decide), H, Sub.refl _, h⟩
  · exact h.elim

theorem G_law_cell_at (T : Tx K mg t) : FnOk' P w K mg base CX0 1 t.a_law_cell_at t.d_law_cell_at ["_law_script", "_law_k"] sp_cell := by
  refine okU (k := 0) T.F_law_cell_at sc_law_cell_at (fun vs H Q E h => by
    unfold sp_cell at h
    split at h
    · rfl
    · exact h.elim) (fun cdv A outer s H E B hr => ⟨_, (qss_cons (qs_if (qt_cmp op_lt vr_lt (qv 1) (qe_callB call_len_seq vc_len rfl T.b_len PySem.boot_len (qa_cons (qv 0) qa_nil)) (nomark _))
    (qss_one (qs_ret (qe_ix (qv 0) (qv 1) (fun _ _ => rfl))))
    qss_nil)
    (qss_one (qs_ret qe_int))), ?_⟩)
  intro vs H Q E h
  unfold sp_cell at h
  split at h
  · rename_i l k
    obtain ⟨⟨h0, h1⟩, ns, rfl, h⟩ := h
    walk_at "rd"
    by_cases hk : k < ns.length
    · refine cif_pos (by rw [List.length_map]; simpa using hk) ?_
      rw [atI_int h0 hk]
      exact ⟨H, Sub.refl _, h⟩
    · refine cif_neg (by rw [List.length_map]; simpa using hk) ⟨H, Sub.refl _, ?_⟩
      rw [List.getD_eq_getElem?_getD, List.getElem?_eq_none (by omega)] at h
      exact h
  · exact h.elim

theorem G_law_mixed (T : Tx K mg t) : FnOk' P w K mg base CX0 1 t.a_law_mixed t.d_law_mixed ["_law_cell", "_law_many"] sp_mixed := by
  refine okU (k := 0) T.F_law_mixed sc_law_mixed (fun vs H Q E h => by
    unfold sp_mixed at h
    split at h
    · rfl
    · exact h.elim) (fun cdv A outer s H E B hr => ⟨_, (qss_cons (qs_set (i := 2) sc_law_mixed.nd rfl (by first | exact Or.inl rfl | exact Or.inr rfl) (qe_lst qa_nil))
    (qss_cons (qs_set (i := 3) sc_law_mixed.nd rfl (by first | exact Or.inl rfl | exact Or.inr rfl) (qe_fdiv (qv 0) qe_int))
    (qss_cons (qs_if (qt_cmp (op_eqU hr.units) vr_eq (qe_mod (qv 0) qe_int) qe_int (nomark _))
    (qss_cons (qs_for PassesOwn.never rfl (qi_range1 rfl T.b_range (qa_cons (qv 1) qa_nil)) (qg_name (i := 4) sc_law_mixed.nd rfl (by first | exact Or.inl rfl | exact Or.inr rfl))
      (qss_cons (qs_expr (qe_bm PySem.F.slot_list_append PySem.F.type_list_append mt_append vm_append (qv 2) (qa_cons (qe_mod (qv 3) qe_int) qa_nil)))
        (qss_one (qs_set (i := 3) sc_law_mixed.nd rfl (by first | exact Or.inl rfl | exact Or.inr rfl) (qe_fdiv (qv 3) qe_int)))))
      (qss_one (qs_ret (qv 2))))
    qss_nil)
    (qss_cons (qs_set (i := 3) sc_law_mixed.nd rfl (by first | exact Or.inl rfl | exact Or.inr rfl) (qe_mod (qe_add (qe_mul (qe_mod (qv 3) qe_int) qe_int) qe_int) qe_int))
    (qss_cons (qs_for PassesOwn.never rfl (qi_range1 rfl T.b_range (qa_cons (qv 1) qa_nil)) (qg_name (i := 4) sc_law_mixed.nd rfl (by first | exact Or.inl rfl | exact Or.inr rfl))
    (qss_cons (qs_set (i := 3) sc_law_mixed.nd rfl (by first | exact Or.inl rfl | exact Or.inr rfl) (qe_mod (qe_add (qe_add (qe_add (qe_mul (qv 3) (qv 3)) (qe_mul qe_int (qv 3))) (qv 4)) qe_int) qe_int))
      (qss_one (qs_expr (qe_bm PySem.F.slot_list_append PySem.F.type_list_append mt_append vm_append (qv 2) (qa_cons (qv 3) qa_nil))))))
    (qss_one (qs_ret (qv 2)))))))), ?_⟩)
  intro vs H Q E h
  unfold sp_mixed at h
  split at h
  · rename_i c m
    obtain ⟨⟨h0, h1⟩, h⟩ := h
    walk_at "rd"
    refine ⟨small_size (by decide), fun p hp => ⟨cdvB (by decide) (by decide), by decide, ?_⟩⟩
    have hs : ∀ (xs : List Int) (i : Nat), xs.length = i → i < m.toNat → (xs.map PV.int).length < sizeLine := fun xs i h1 h2 => by
      rw [List.length_map]; exact small1000 (by omega)
    refine cif_by (fun _ => ⟨⟨by omega, by omega⟩, ?_⟩) (fun _ => ⟨by decide, .inr ⟨?f1, ?f2⟩, by decide, ⟨by omega, by omega⟩, ?_⟩)
    · refine for_rng (fun i σ H2 => ∃ num k xs, σ = [some (.int c), some (.int m), some (.ref p), some (.int num), k] ∧ H2 = put H p (.lst (xs.map PV.int)) ∧ xs.length = i) ?_ ?_ ⟨_, _, [], rfl, rfl, rfl⟩
      · rintro σ H2 ⟨num, k, xs, rfl, rfl, hl⟩
        exact ⟨trivial, _, Sub.refl _, h p xs hp hl⟩
      · rintro G i σ H2 hi ⟨num, k, xs, rfl, rfl, hl⟩ kk
        refine ⟨trivial, ?_⟩
        walk_at "rd"
        exact ⟨⟨_, rfl⟩, by decide, hs xs i hl hi, cdvB (by decide) (by decide), kk _ _ ⟨_, _, xs ++ [num.fmod 5040], rfl, by rw [put_put, List.map_append]; rfl, by rw [List.length_append, hl]; rfl⟩⟩
    case f1 => have := fm (a := c.fdiv 2) (b := 2147483647) (by decide); exact fit64 (by omega)
    case f2 => exact fit64 (by decide)
    · have b0 := fm (a := (c.fdiv 2).fmod 2147483647 * 16807 + 11) (b := 2147483647) (by decide)
      generalize ((c.fdiv 2).fmod 2147483647 * 16807 + 11).fmod 2147483647 = num at *
      refine for_rng (fun i σ H2 => ∃ num k xs, (0 ≤ num ∧ num < 2147483647) ∧ σ = [some (.int c), some (.int m), some (.ref p), some (.int num), k] ∧ H2 = put H p (.lst (xs.map PV.int)) ∧ xs.length = i) ?_ ?_ ⟨_, _, [], b0, rfl, rfl, rfl⟩
      · rintro σ H2 ⟨num, k, xs, _, rfl, rfl, hl⟩
        exact ⟨trivial, _, Sub.refl _, h p xs hp hl⟩
      · rintro G i σ H2 hi ⟨num, k, xs, ⟨b1, b2⟩, rfl, rfl, hl⟩ kk
        refine ⟨trivial, ?_⟩
        walk_at "rd"
        exact ⟨.inr ⟨fit64 (by omega), fit64 (by omega)⟩, .inr ⟨fit64 (by decide), fit64 (by omega)⟩, by decide, ⟨_, rfl⟩, hs xs i hl hi, kk _ _ ⟨_, _, xs ++ [_], fm (by decide), rfl, by rw [put_put, List.map_append]; rfl, by rw [List.length_append, hl]; rfl⟩⟩
  · exact h.elim

theorem G_law_pairs (T : Tx K mg t) : FnOk' P w K mg base CX0 2 t.a_law_pairs t.d_law_pairs ["_law_script", "_law_at"] sp_pairs := by
  refine okU (k := 1) T.F_law_pairs sc_law_pairs (fun vs H Q E h => by
    unfold sp_pairs at h
    split at h
    · rfl
    · exact h.elim) (fun cdv A outer s H E B hr => ⟨_, (qss_cons (qs_set (i := 2) sc_law_pairs.nd rfl (by first | exact Or.inl rfl | exact Or.inr rfl) (qe_call (G_law_cell_at T) (hr.mono (by decide)) rfl T.g_law_cell_at T.F_law_cell_at.kp T.B_law_cell_at (qa_cons (qv 0) (qa_cons (qv 1) qa_nil))))
    (qss_cons (qs_set (i := 3) sc_law_pairs.nd rfl (by first | exact Or.inl rfl | exact Or.inr rfl) (qe_add qe_int (qe_mod (qv 2) qe_int)))
    (qss_cons (qs_set (i := 4) sc_law_pairs.nd rfl (by first | exact Or.inl rfl | exact Or.inr rfl) (qe_mod (qe_fdiv (qv 2) qe_int) qe_int))
    (qss_cons (qs_set (i := 5) sc_law_pairs.nd rfl (by first | exact Or.inl rfl | exact Or.inr rfl) (qe_call (G_law_mixed T) (hr.mono (by decide)) rfl T.g_law_mixed T.F_law_mixed.kp T.B_law_mixed (qa_cons (qe_call (G_law_cell_at T) (hr.mono (by decide)) rfl T.g_law_cell_at T.F_law_cell_at.kp T.B_law_cell_at (qa_cons (qv 0) (qa_cons (qe_add (qv 1) qe_int) qa_nil))) (qa_cons qe_int qa_nil))))
    (qss_cons (qs_set (i := 6) sc_law_pairs.nd rfl (by first | exact Or.inl rfl | exact Or.inr rfl) (qe_lst qa_nil))
    (qss_cons (qs_set (i := 7) sc_law_pairs.nd rfl (by first | exact Or.inl rfl | exact Or.inr rfl) (qe_lst qa_nil))
    (qss_cons (qs_set (i := 8) sc_law_pairs.nd rfl (by first | exact Or.inl rfl | exact Or.inr rfl) qe_int)
    (qss_cons (qs_for PassesOwn.never rfl (qi_range1 rfl T.b_range (qa_cons (qv 3) qa_nil)) (qg_name (i := 9) sc_law_pairs.nd rfl (by first | exact Or.inl rfl | exact Or.inr rfl))
    (qss_one (qs_for PassesOwn.never rfl (qi_range1 rfl T.b_range (qa_cons (qv 9) qa_nil)) (qg_name (i := 10) sc_law_pairs.nd rfl (by first | exact Or.inl rfl | exact Or.inr rfl))
      (qss_cons (qs_if (qt_cmp (op_eqU hr.units) vr_eq (qe_mod (qe_ix (qv 5) (qv 8) (fun _ _ => rfl)) (qe_ix (qe_lst (qa_cons qe_int (qa_cons qe_int (qa_cons qe_int (qa_cons qe_int qa_nil))))) (qv 4) (fun _ _ => rfl))) qe_int (nomark _))
        (qss_one (qs_expr (qe_bm PySem.F.slot_list_append PySem.F.type_list_append mt_append vm_append (qv 6) (qa_cons (qe_tup (qa_cons (qv 10) (qa_cons (qv 9) qa_nil))) qa_nil))))
        qss_nil)
        (qss_cons (qs_if (qt_bool (qw_and (qt_cmp (op_eqU hr.units) vr_eq (qe_mod (qe_fdiv (qe_ix (qv 5) (qv 8) (fun _ _ => rfl)) qe_int) (qe_ix (qe_lst (qa_cons qe_int (qa_cons qe_int (qa_cons qe_int (qa_cons qe_int qa_nil))))) (qv 4) (fun _ _ => rfl))) qe_int (nomark _)) (qw_and1 (qt_cmp op_lt vr_lt (qe_callB call_len_seq vc_len rfl T.b_len PySem.boot_len (qa_cons (qv 7) qa_nil)) qe_int (nomark _)))))
        (qss_one (qs_expr (qe_bm PySem.F.slot_list_append PySem.F.type_list_append mt_append vm_append (qv 7) (qa_cons (qe_tup (qa_cons (qv 10) (qa_cons (qv 9) qa_nil))) qa_nil))))
        qss_nil)
        (qss_one (qs_set (i := 8) sc_law_pairs.nd rfl (by first | exact Or.inl rfl | exact Or.inr rfl) (qe_add (qv 8) qe_int))))))))
    (qss_one (qs_ret (qe_tup (qa_cons (qv 3) (qa_cons (qv 6) (qa_cons (qv 7) qa_nil)))))))))))))), ?_⟩)
  intro vs H Q E h
  unfold sp_pairs at h
  split at h
  · rename_i l k
    obtain ⟨⟨h0, h1⟩, ns, rfl, h⟩ := h
    walk_at "rd"
    refine ⟨⟨h0, by omega⟩, ns, rfl, by decide, cdvB (by decide) (by decide), by decide, ⟨by omega, by omega⟩, ns, rfl, ⟨by decide, by decide⟩, fun p xs hp hxs => ⟨small_size (by decide), fun p1 hp1 => ⟨small_size (by decide), fun p2 hp2 => ?_⟩⟩⟩
    have hc := fm (a := ns.getD k.toNat 0) (b := 6) (by decide)
    have hd := fm (a := (ns.getD k.toNat 0).fdiv 6) (b := 4) (by decide)
    generalize ((ns.getD k.toNat 0).fdiv 6).fmod 4 = d at *
    generalize hcc : 1 + (ns.getD k.toNat 0).fmod 6 = c at *
    have hc1 : 1 ≤ c ∧ c ≤ 6 := by omega
    refine ⟨⟨by omega, by omega⟩, ?_⟩
    have q1 : H p1 = none := (Sub.put (Sub.refl H) hp).free hp1
    have n12 : p1 ≠ p2 := fun e => by subst e; rw [put_same] at hp2; cases hp2
    have q2 : H p2 = none := ((Sub.put (Sub.refl H) hp).put (o := .lst []) q1).free hp2
    refine for_rng (fun i σ H2 => ∃ v u ts bs, σ = [some (.fls (ns.map PV.int)), some (.int k), some (.int (ns.getD k.toNat 0)), some (.int c), some (.int d), some (.ref p), some (.ref p1), some (.ref p2), some (.int (DM.tri i : Nat)), v, u] ∧ (U.Sub H H2 ∧ H2 p = some (.lst (xs.map PV.int)) ∧ H2 p1 = some (.lst (ts.map prV)) ∧ H2 p2 = some (.lst (bs.map prV))) ∧ DM.Good (i : Nat) ts ∧ DM.Good (i : Nat) bs ∧ bs.length ≤ 6) ?_ ?_ ?_
    · rintro σ H2 ⟨v, u, ts, bs, rfl, ⟨s1, s2, s3, s4⟩, g1, g2, l6⟩
      refine ⟨trivial, ?_⟩
      walk_at "rd"
      have ec : ((c.toNat : Nat) : Int) = c := by omega
      rw [ec] at g1 g2
      exact ⟨small_size (by decide), _, sub_put (sub_put s1 s3) s4, h c ts bs p1 p2 hc1 g1 g2 l6 q1 q2 n12⟩
    · rintro G i σ H2 hi ⟨v, u, ts, bs, rfl, hH, g1, g2, l6⟩ kk
      refine ⟨trivial, ?_⟩
      walk_at "rd"
      obtain ⟨s1, s2, s3, s4⟩ := hH
      obtain ⟨da, hda, da0⟩ := ix4a hd.1 hd.2
      obtain ⟨db, hdb, db0⟩ := ix4b hd.1 hd.2
      have ht := DM.tri_le i (by omega)
      refine ⟨⟨by omega, by omega⟩, ?_⟩
      rw [Int.toNat_natCast]
      refine for_rng (fun j σ H3 => ∃ u ts bs, σ = [some (.fls (ns.map PV.int)), some (.int k), some (.int (ns.getD k.toNat 0)), some (.int c), some (.int d), some (.ref p), some (.ref p1), some (.ref p2), some (.int (DM.tri i + j : Nat)), some (.int (i : Nat)), u] ∧ (U.Sub H H3 ∧ H3 p = some (.lst (xs.map PV.int)) ∧ H3 p1 = some (.lst (ts.map prV)) ∧ H3 p2 = some (.lst (bs.map prV))) ∧ GJ (i : Nat) (j : Nat) ts ∧ GJ (i : Nat) (j : Nat) bs ∧ bs.length ≤ 6) ?_ ?_ ⟨_, ts, bs, rfl, ⟨s1, s2, s3, s4⟩, GJ.of g1, GJ.of g2, l6⟩
      · rintro σ H3 ⟨u, ts, bs, rfl, hH, a1, a2, l6⟩
        exact ⟨trivial, kk _ _ ⟨_, _, ts, bs, rfl, hH, a1.good, a2.good, l6⟩⟩
      · rintro G' j σ H3 hj ⟨u, ts, bs, rfl, ⟨s1, s2, s3, s4⟩, a1, a2, l6⟩ kk'
        refine ⟨trivial, ?_⟩
        have hx : atI (xs.map PV.int) ((DM.tri i + j : Nat) : Int) = some (.int (xs.getD ((DM.tri i + j : Nat) : Int).toNat 0)) := atI_int (by omega) (by rw [hxs]; omega)
        generalize xs.getD ((DM.tri i + j : Nat) : Int).toNat 0 = xv at hx
        have last : ∀ ts' bs' H4, (U.Sub H H4 ∧ H4 p = some (.lst (xs.map PV.int)) ∧ H4 p1 = some (.lst (ts'.map prV)) ∧ H4 p2 = some (.lst (bs'.map prV))) → GJ (i : Nat) ((j : Nat) + 1 : Int) ts' → GJ (i : Nat) ((j : Nat) + 1 : Int) bs' → bs'.length ≤ 6 →
            G' [some (.fls (ns.map PV.int)), some (.int k), some (.int (ns.getD k.toNat 0)), some (.int c), some (.int d), some (.ref p), some (.ref p1), some (.ref p2), some (.int (((DM.tri i + j : Nat) : Int) + 1)), some (.int (i : Nat)), some (.int (j : Nat))] H4 := fun ts' bs' H4 x1 x2 x3 x4 => kk' _ _ ⟨_, ts', bs', rfl, x1, x2, x3, x4⟩
        refine seq_abs fun R hR => ?_
        have second : ∀ (ts' : List DM.P2) (H4 : PHp), (U.Sub H H4 ∧ H4 p = some (.lst (xs.map PV.int)) ∧ H4 p1 = some (.lst (ts'.map prV)) ∧ H4 p2 = some (.lst (bs.map prV))) → GJ (i : Nat) ((j : Nat) + 1 : Int) ts' →
            R { nx := G', rt := fun v H => ∃ H3, U.Sub H3 H ∧ Q v H3, bk := G, ct := G' } [some (.fls (ns.map PV.int)), some (.int k), some (.int (ns.getD k.toNat 0)), some (.int c), some (.int d), some (.ref p), some (.ref p1), some (.ref p2), some (.int ((DM.tri i + j : Nat) : Int)), some (.int (i : Nat)), some (.int (j : Nat))] H4 := by
          rintro ts' H4 ⟨u1, u2, u3, u4⟩ b1
          subst hR
          refine seq_abs fun R hR => ?_
          walk_at "rd"
          refine ⟨_, u2, ?_⟩
          rw [hx]
          walk_at "rd"
          refine ⟨cdvB (by decide) (by decide), small_size (by decide), fun p4 hp4 => ?_⟩
          try walk_at "rd"
          rw [hdb]
          try walk_at "rd"
          have m1 := ne_none u2 hp4
          have m2 := ne_none u3 hp4
          have m3 := ne_none u4 hp4
          have sb4 := u1.put (o := .lst [.int 2, .int 3, .int 5, .int 2]) (u1.free hp4)
          have w2 := (put_ne (o := .lst [.int 2, .int 3, .int 5, .int 2]) m1).trans u2
          have w3 := (put_ne (o := .lst [.int 2, .int 3, .int 5, .int 2]) m2).trans u3
          have w4 := (put_ne (o := .lst [.int 2, .int 3, .int 5, .int 2]) m3).trans u4
          generalize put H4 p4 (.lst [.int 2, .int 3, .int 5, .int 2]) = H5 at *
          refine ⟨db0, ?_⟩
          have nxt : R { nx := G', rt := fun v H => ∃ H3, U.Sub H3 H ∧ Q v H3, bk := G, ct := G' } [some (.fls (ns.map PV.int)), some (.int k), some (.int (ns.getD k.toNat 0)), some (.int c), some (.int d), some (.ref p), some (.ref p1), some (.ref p2), some (.int ((DM.tri i + j : Nat) : Int)), some (.int (i : Nat)), some (.int (j : Nat))] H5 := by
            subst hR
            walk_at "rd"
            exact last ts' bs H5 ⟨sb4, w2, w3, w4⟩ b1 a2.up l6
          refine cif_by (fun _ => ?_) (fun _ => ?_)
          · refine ⟨_, w4, ?_⟩
            by_cases h6 : bs.length < 6
            · refine cif_pos (by rw [List.length_map]; simp; omega) ?_
              refine ⟨⟨_, w4⟩, small_size (by decide), _, w4, by rw [List.length_map]; exact small1000 (by omega), ?_⟩
              subst hR
              walk_at "rd"
              have n12' : p1 ≠ p2 := n12
              have np2 : p ≠ p2 := fun e => by
                subst e
                rw [put_ne (fun e => by subst e; rw [put_same] at hp1; cases hp1), put_same] at hp2; cases hp2
              refine last ts' (bs ++ [(((j : Nat) : Int), ((i : Nat) : Int))]) _ ⟨sb4.put q2, (put_ne np2).trans w2, (put_ne n12).trans w3, ?_⟩ b1 (a2.app (by omega) (by omega)) (by rw [List.length_append]; simp; omega)
              rw [put_same, List.map_append]; rfl
            · refine cif_neg (by rw [List.length_map]; simp; omega) nxt
          · exact nxt
        walk_at "rd"
        refine ⟨_, s2, ?_⟩
        rw [hx]
        walk_at "rd"
        refine ⟨small_size (by decide), fun p3 hp3 => ?_⟩
        try walk_at "rd"
        rw [hda]
        try walk_at "rd"
        have m1 := ne_none s2 hp3
        have m2 := ne_none s3 hp3
        have m3 := ne_none s4 hp3
        have sb3 := s1.put (o := .lst [.int 2, .int 3, .int 2, .int 4]) (s1.free hp3)
        have w2 := (put_ne (o := .lst [.int 2, .int 3, .int 2, .int 4]) m1).trans s2
        have w3 := (put_ne (o := .lst [.int 2, .int 3, .int 2, .int 4]) m2).trans s3
        have w4 := (put_ne (o := .lst [.int 2, .int 3, .int 2, .int 4]) m3).trans s4
        generalize put H3 p3 (.lst [.int 2, .int 3, .int 2, .int 4]) = H5 at *
        have t15 : ts.length ≤ 15 := (show DM.Good ((i : Nat) + 1 : Int) ts from ⟨a1.nd, fun p hp => by have := a1.lo p hp; omega⟩).len (by omega)
        refine ⟨da0, cif_by (fun _ => ?_) (fun _ => second ts H5 ⟨sb3, w2, w3, w4⟩ a1.up)⟩
        refine ⟨⟨_, w3⟩, small_size (by decide), _, w3, by rw [List.length_map]; exact small1000 (by omega), ?_⟩
        have np1 : p ≠ p1 := fun e => by subst e; rw [put_same] at hp1; cases hp1
        refine second (ts ++ [(((j : Nat) : Int), ((i : Nat) : Int))]) _ ⟨sb3.put q1, (put_ne np1).trans w2, ?_, (put_ne n12.symm).trans w4⟩ (a1.app (by omega) (by omega))
        rw [put_same, List.map_append]; rfl
    · have np1 : p ≠ p1 := fun e => by subst e; rw [put_same] at hp1; cases hp1
      have np2 : p ≠ p2 := fun e => by subst e; rw [put_ne np1, put_same] at hp2; cases hp2
      refine ⟨_, _, [], [], rfl, ⟨?_, ?_, ?_, put_same⟩, ⟨List.nodup_nil, by simp⟩, ⟨List.nodup_nil, by simp⟩, by simp⟩
      · exact (((Sub.refl H).put hp).put q1).put q2
      · rw [put_ne np2, put_ne np1, put_same]
      · rw [put_ne n12, put_same]; rfl
  · exact h.elim

theorem G_pair_text (T : Tx K mg t) : FnOk' P w K mg base CX0 1 t.a_pair_text t.d_pair_text ["pair", "sign"] sp_pt := by
  refine okU (k := 0) T.F_pair_text sc_pair_text (fun vs H Q E h => by
    unfold sp_pt at h
    split at h
    · rfl
    · exact h.elim) (fun cdv A outer s H E B hr => ⟨_, (qss_one (qs_ret (qe_addS (qe_addS (qe_ixS (qe_globE (v' := .str "abcdef") rfl T.c_LETTERS (fun _ => by simp [RP])) (qe_ix (qv 0) qe_int (fun _ _ => rfl)) (fun _ _ => rfl)) (qv 1)) (qe_ixS (qe_globE (v' := .str "abcdef") rfl T.c_LETTERS (fun _ => by simp [RP])) (qe_ix (qv 0) qe_int (fun _ _ => rfl)) (fun _ _ => rfl))))), ?_⟩)
  intro vs H Q E h
  unfold sp_pt at h
  split at h
  · rename_i u v z
    obtain ⟨⟨⟨u0, u1⟩, v0, v1⟩, c, rfl, h⟩ := h
    walk_at "rd"
    refine ⟨line_ge (by decide), _, abc_at u0 u1, ?_⟩
    try walk_at "rd"
    refine ⟨line_ge (by first | omega | (simp only [List.length_append, List.length_cons, List.length_nil]; omega)), line_ge (by decide), _, abc_at v0 v1, ?_⟩
    try walk_at "rd"
    exact ⟨line_ge (by first | omega | (simp only [List.length_append, List.length_cons, List.length_nil]; omega)), H, Sub.refl _, h⟩
  · exact h.elim

theorem G_written (T : Tx K mg t) : FnOk' P w K mg base CX0 2 t.a_written t.d_written ["drawing"] (sp_wr t) := by
  refine okU (k := 1) T.F_written sc_written (fun vs H Q E h => by
    unfold sp_wr at h
    split at h
    · rfl
    · exact h.elim) (fun cdv A outer s H E B hr => ⟨_, (qss_cons (qs_setC (i := 1) sc_written.nd rfl (by first | exact Or.inl rfl | exact Or.inr rfl) (N2 := ["tie"]) (nt := 1) (js := []) (cok (sc := defScope s_written) (by exact rfl) (by repeat (first | exact trivial | refine ⟨rfl, ?_⟩)) rfl (by rfl) (by decide +kernel) (by decide +kernel) (by rfl) (by decide +kernel) (by rfl) (by rfl)) rfl (qi_seq (qe_fld (qv 0) T.cl_Drawing T.nf_Drawing_ties rfl)) (fun s0 H0 fp ps => ⟨(qg_name (i := 0) (show List.Nodup (["tie"] : List Str) by decide +kernel) rfl (by first | exact Or.inl rfl | exact Or.inr rfl)), qif_nil, (qe_call (G_pair_text T) (hr.mono (by decide)) rfl T.g_pair_text T.F_pair_text.kp T.B_pair_text (qa_cons (qv 0) (qa_cons qe_str qa_nil)))⟩))
    (qss_cons (qs_setC (i := 2) sc_written.nd rfl (by first | exact Or.inl rfl | exact Or.inr rfl) (N2 := ["bow"]) (nt := 1) (js := []) (cok (sc := defScope s_written) (by exact rfl) (by repeat (first | exact trivial | refine ⟨rfl, ?_⟩)) rfl (by rfl) (by decide +kernel) (by decide +kernel) (by rfl) (by decide +kernel) (by rfl) (by rfl)) rfl (qi_seq (qe_fld (qv 0) T.cl_Drawing T.nf_Drawing_bows rfl)) (fun s0 H0 fp ps => ⟨(qg_name (i := 0) (show List.Nodup (["bow"] : List Str) by decide +kernel) rfl (by first | exact Or.inl rfl | exact Or.inr rfl)), qif_nil, (qe_call (G_pair_text T) (hr.mono (by decide)) rfl T.g_pair_text T.F_pair_text.kp T.B_pair_text (qa_cons (qv 0) (qa_cons qe_str qa_nil)))⟩))
    (qss_one (qs_ret (qe_bmS PySem.F.plainAttrs_str PySem.F.slot_str_join PySem.F.type_str_join mt_join vm_join qe_str (qa_cons (qe_cat (qe_cat (qe_lst (qa_cons (qe_addS (qe_callTy call_str_int vc_strI rfl T.b_str boot_str (qa_cons (qe_fld (qv 0) T.cl_Drawing T.nf_Drawing_count rfl) qa_nil)) qe_str) qa_nil)) (qv 1)) (qv 2)) qa_nil)))))), ?_⟩)
  intro vs H Q E h
  unfold sp_wr at h
  split at h
  · rename_i x
    obtain ⟨dx, c, ts, bs, hx, hc, t6, b6, t15, b15, h⟩ := h
    refine seq_abs fun R hR => ?_
    walk_at "rd"
    refine ⟨_, _, _, hx, rfl, ?_⟩
    show ∀ acc, H acc = none → _
    intro p1 hp1
    refine comp_pure (fun y => PV.str (sT (ptx 62 (pOf y)))) (fun _ => true) (fun σ => ∃ z, σ = [z]) (by rw [List.length_map]; omega) (fun _ => trivial) ?_ ?_ ⟨_, rfl⟩
    · rintro y hy l σ R ⟨z, rfl⟩ hl kT kF
      obtain ⟨q, hq, rfl⟩ := List.mem_map.mp hy
      have q6 := t6 q hq
      unfold prV at *
      walk_at "rd"
      exact ⟨q6, 62, rfl, hl, by rw [put_put]; exact kT rfl _ ⟨_, rfl⟩⟩
    rw [pt_map]
    subst hR
    have s1 := (Sub.refl H).put (o := .lst ((ts.map fun p => sT (ptx 62 p)).map PV.str)) hp1
    have hp1s : put H p1 (.lst ((ts.map fun p => sT (ptx 62 p)).map PV.str)) p1 = some (.lst ((ts.map fun p => sT (ptx 62 p)).map PV.str)) := put_same
    have hx1 := s1 _ _ hx
    generalize put H p1 (.lst ((ts.map fun p => sT (ptx 62 p)).map PV.str)) = H1 at *
    refine seq_abs fun R hR => ?_
    walk_at "rd"
    refine ⟨_, _, _, hx1, rfl, ?_⟩
    show ∀ acc, H1 acc = none → _
    intro p2 hp2
    refine comp_pure (fun y => PV.str (sT (ptx 126 (pOf y)))) (fun _ => true) (fun σ => ∃ z, σ = [z]) (by rw [List.length_map]; omega) (fun _ => trivial) ?_ ?_ ⟨_, rfl⟩
    · rintro y hy l σ R ⟨z, rfl⟩ hl kT kF
      obtain ⟨q, hq, rfl⟩ := List.mem_map.mp hy
      have q6 := b6 q hq
      unfold prV at *
      walk_at "rd"
      exact ⟨q6, 126, rfl, hl, by rw [put_put]; exact kT rfl _ ⟨_, rfl⟩⟩
    rw [pt_map]
    subst hR
    have s2 := s1.put (o := .lst ((bs.map fun p => sT (ptx 126 p)).map PV.str)) (s1.free hp2)
    have hp1t : put H1 p2 (.lst ((bs.map fun p => sT (ptx 126 p)).map PV.str)) p1 = some (.lst ((ts.map fun p => sT (ptx 62 p)).map PV.str)) := (put_ne (ne_none hp1s hp2)).trans hp1s
    have hp2s : put H1 p2 (.lst ((bs.map fun p => sT (ptx 126 p)).map PV.str)) p2 = some (.lst ((bs.map fun p => sT (ptx 126 p)).map PV.str)) := put_same
    have hx2 := s2 _ _ hx
    generalize put H1 p2 (.lst ((bs.map fun p => sT (ptx 126 p)).map PV.str)) = H2 at *
    walk_at "rd"
    refine ⟨_, _, _, hx2, rfl, ?_⟩
    walk_at "rd"
    rw [str_num hc]
    try walk_at "rd"
    refine ⟨lg6 hc, line_ge (by first | omega | (simp only [List.length_append, List.length_cons, List.length_nil]; omega)), small_size (by decide), fun r hr => ?_⟩
    try walk_at "rd"
    have hp1u := (put_ne (o := .lst [tx [48 + c.toNat, 58]]) (ne_none hp1t hr)).trans hp1t
    have hp2u := (put_ne (o := .lst [tx [48 + c.toNat, 58]]) (ne_none hp2s hr)).trans hp2s
    have s3 := s2.put (o := .lst [tx [48 + c.toNat, 58]]) (s2.free hr)
    have hru : put H2 r (.lst [tx [48 + c.toNat, 58]]) r = some (.lst [tx [48 + c.toNat, 58]]) := put_same
    generalize put H2 r (.lst [tx [48 + c.toNat, 58]]) = H3 at *
    refine ⟨[tx [48 + c.toNat, 58]], _, rfl, hp1u, small_size (by simp only [List.length_append, List.length_map, List.length_cons, List.length_nil]; omega), fun q hq => ?_⟩
    try walk_at "rd"
    have hp2v := (put_ne (o := .lst ([tx [48 + c.toNat, 58]] ++ (ts.map fun p => sT (ptx 62 p)).map PV.str)) (ne_none hp2u hq)).trans hp2u
    have s4 := s3.put (o := .lst ([tx [48 + c.toNat, 58]] ++ (ts.map fun p => sT (ptx 62 p)).map PV.str)) (s3.free hq)
    refine ⟨_, _, rfl, hp2v, small_size (by simp only [List.length_append, List.length_map, List.length_cons, List.length_nil]; omega), fun q2 hq2 => ?_⟩
    try walk_at "rd"
    have ey : [tx [48 + c.toNat, 58]] ++ (ts.map fun p => sT (ptx 62 p)).map PV.str ++ (bs.map fun p => sT (ptx 126 p)).map PV.str = ((wps c ts bs).map sT).map PV.str := by
      rw [wps_map]
      unfold pts
      rw [List.map_cons, List.map_append]
      rfl
    have wl := wps_len (c := c) (ts := ts) (bs := bs)
    refine ⟨(wps c ts bs).map sT, ey, by decide, by omega, H, s4.put (s4.free hq2), ?_⟩
    have ej : Txt.join (sT [32]) ((wps c ts bs).map sT) = sT (wtx c ts bs) := (StrLaws.glued_eq_join _ _).trans wps_join
    rw [ej]
    exact h
  · exact h.elim

theorem G_law_same0 (T : Tx K mg t) : FnOk' P w K mg base CX0 (1) t.a_law_same t.d_law_same ["_law_found", "_law_due"] (sp_same 0) := by
  refine okU (k := 0) T.F_law_same sc_law_same (fun vs H Q E h => by
    unfold sp_same at h
    split at h
    · rfl
    · exact h.elim) (fun cdv A outer s H E B hr => ⟨_, qss_never, ?_⟩)
  intro vs H Q E h
  unfold sp_same at h
  split at h
  · rename_i x y
    obtain ⟨_, hp, _⟩ := h
    cases y <;> exact hp.elim
  · exact h.elim
theorem G_law_sameS (T : Tx K mg t) {n : Nat} (ih : FnOk' P w K mg base CX0 (n + 1) t.a_law_same t.d_law_same ["_law_found", "_law_due"] (sp_same n)) : FnOk' P w K mg base CX0 (n + 2) t.a_law_same t.d_law_same ["_law_found", "_law_due"] (sp_same (n + 1)) := by
  refine okU (k := n + 1) T.F_law_same sc_law_same (fun vs H Q E h => by
    unfold sp_same at h
    split at h
    · rfl
    · exact h.elim) (fun cdv A outer s H E B hr => ⟨_, (qss_cons (qs_if (qt_bool (qw_or (qt_val (qe_callB (call_isiB .tuple) (vc_isi .tuple) rfl T.b_isinstance boot_isinstance (qa_cons (qv 1) (qa_cons (qe_bty rfl T.b_tuple boot_tuple) qa_nil)))) (qw_or1 (qt_val (qe_callB (call_isiB .list) (vc_isi .list) rfl T.b_isinstance boot_isinstance (qa_cons (qv 1) (qa_cons (qe_bty rfl T.b_list boot_list) qa_nil)))))))
    (qss_cons (qs_if (qt_bool (qw_or (qt_cmp (op_neU hr.units) vr_eq (qe_callB (call_isiB .tuple) (vc_isi .tuple) rfl T.b_isinstance boot_isinstance (qa_cons (qv 0) (qa_cons (qe_bty rfl T.b_tuple boot_tuple) qa_nil))) (qe_callB (call_isiB .tuple) (vc_isi .tuple) rfl T.b_isinstance boot_isinstance (qa_cons (qv 1) (qa_cons (qe_bty rfl T.b_tuple boot_tuple) qa_nil))) (nomark _)) (qw_or1 (qt_cmp (op_neU hr.units) vr_eq (qe_callB (call_isiB .list) (vc_isi .list) rfl T.b_isinstance boot_isinstance (qa_cons (qv 0) (qa_cons (qe_bty rfl T.b_list boot_list) qa_nil))) (qe_callB (call_isiB .list) (vc_isi .list) rfl T.b_isinstance boot_isinstance (qa_cons (qv 1) (qa_cons (qe_bty rfl T.b_list boot_list) qa_nil))) (nomark _)))))
      (qss_one (qs_ret qe_bl))
      qss_nil)
      (qss_cons (qs_if (qt_cmp (op_neU hr.units) vr_eq (qe_callB call_len_seq vc_len rfl T.b_len PySem.boot_len (qa_cons (qv 0) qa_nil)) (qe_callB call_len_seq vc_len rfl T.b_len PySem.boot_len (qa_cons (qv 1) qa_nil)) (nomark _))
      (qss_one (qs_ret qe_bl))
      qss_nil)
      (qss_cons (qs_for PassesOwn.never rfl (qi_range1 rfl T.b_range (qa_cons (qe_callB call_len_seq vc_len rfl T.b_len PySem.boot_len (qa_cons (qv 1) qa_nil)) qa_nil)) (qg_name (i := 2) sc_law_same.nd rfl (by first | exact Or.inl rfl | exact Or.inr rfl))
      (qss_one (qs_if (qt_not (qt_val (qe_call ih (hr.mono (by omega)) rfl T.g_law_same T.F_law_same.kp T.B_law_same (qa_cons (qe_ix (qv 0) (qv 2) (fun _ _ => rfl)) (qa_cons (qe_ix (qv 1) (qv 2) (fun _ _ => rfl)) qa_nil)))))
        (qss_one (qs_ret qe_bl))
        qss_nil)))
      (qss_one (qs_ret qe_bl)))))
    qss_nil)
    (qss_cons (qs_if (qt_val (qe_callB (call_isiB .bool) (vc_isi .bool) rfl T.b_isinstance boot_isinstance (qa_cons (qv 1) (qa_cons (qe_bty rfl T.b_bool boot_bool) qa_nil))))
    (qss_one (qs_ret (qe_and (qe_callB (call_isiB .bool) (vc_isi .bool) rfl T.b_isinstance boot_isinstance (qa_cons (qv 0) (qa_cons (qe_bty rfl T.b_bool boot_bool) qa_nil))) (qe_one (qe_cmp (op_eqU hr.units) vr_eq (qv 0) (qv 1) (nomark _))))))
    qss_nil)
    (qss_cons (qs_if (qt_val (qe_callB (call_isiB .int) (vc_isi .int) rfl T.b_isinstance boot_isinstance (qa_cons (qv 1) (qa_cons (qe_bty rfl T.b_int boot_int) qa_nil))))
    (qss_one (qs_ret (qe_and (qe_callB (call_isiB .int) (vc_isi .int) rfl T.b_isinstance boot_isinstance (qa_cons (qv 0) (qa_cons (qe_bty rfl T.b_int boot_int) qa_nil))) (qe_and (qe_not (qe_callB (call_isiB .bool) (vc_isi .bool) rfl T.b_isinstance boot_isinstance (qa_cons (qv 0) (qa_cons (qe_bty rfl T.b_bool boot_bool) qa_nil)))) (qe_one (qe_cmp (op_eqU hr.units) vr_eq (qv 0) (qv 1) (nomark _)))))))
    qss_nil)
    (qss_cons (qs_if (qt_val (qe_callB (call_isiB .str) (vc_isi .str) rfl T.b_isinstance boot_isinstance (qa_cons (qv 1) (qa_cons (qe_bty rfl T.b_str boot_str) qa_nil))))
    (qss_one (qs_ret (qe_and (qe_callB (call_isiB .str) (vc_isi .str) rfl T.b_isinstance boot_isinstance (qa_cons (qv 0) (qa_cons (qe_bty rfl T.b_str boot_str) qa_nil))) (qe_one (qe_cmp (op_eqU hr.units) vr_eq (qv 0) (qv 1) (nomark _))))))
    qss_nil)
    (qss_one (qs_ret (qe_and (qe_cmp op_isN vr_isN (qv 1) qe_non (nomark _)) (qe_one (qe_cmp op_isN vr_isN (qv 0) qe_non (nomark _)))))))))), ?_⟩)
  intro vs H Q E h
  unfold sp_same at h
  split at h
  · rename_i x y
    obtain ⟨rfl, hp, h⟩ := h
    cases x with
    | int i =>
      walk_at "rd"
      exact ⟨H, Sub.refl _, by rw [beq_self_eq_true]; exact h⟩
    | str z =>
      walk_at "rd"
      exact ⟨H, Sub.refl _, by rw [beq_self_eq_true]; exact h⟩
    | tup l =>
      unfold Plain at hp
      obtain ⟨hl, hp⟩ := hp
      walk_at "rd"
      refine cif_neg rfl (cif_neg rfl (cif_neg (by simp) ⟨⟨by omega, by omega⟩, ?_⟩))
      rw [Int.toNat_natCast]
      refine for_rng (fun i σ H2 => ∃ k, σ = [some (.tup l), some (.tup l), k] ∧ H2 = H) ?_ ?_ ⟨none, rfl, rfl⟩
      · rintro σ H2 ⟨k, rfl, rfl⟩
        exact ⟨trivial, H2, Sub.refl _, h⟩
      · rintro G i σ H2 hi ⟨k, rfl, rfl⟩ kk
        refine ⟨trivial, ?_⟩
        walk_at "rd"
        rw [atI_at hi]
        walk_at "rd"
        exact ⟨hp _ (List.getElem_mem hi), kk _ _ ⟨_, rfl, rfl⟩⟩
    | _ => exact hp.elim
  · exact h.elim
theorem G_law_same (T : Tx K mg t) : ∀ n, FnOk' P w K mg base CX0 (n + 1) t.a_law_same t.d_law_same ["_law_found", "_law_due"] (sp_same n)
  | 0 => G_law_same0 T
  | n + 1 => G_law_sameS T (G_law_same T n)

theorem G_law_written (T : Tx K mg t) : FnOk' P w K mg base CX0 1 t.a_law_written t.d_law_written ["_law_count", "_law_ties", "_law_bows"] sp_lw := by
  refine okU (k := 0) T.F_law_written sc_law_written (fun vs H Q E h => by
    unfold sp_lw at h
    split at h
    · rfl
    · exact h.elim) (fun cdv A outer s H E B hr => ⟨_, (qss_cons (qs_set (i := 3) sc_law_written.nd rfl (by first | exact Or.inl rfl | exact Or.inr rfl) (qe_addS (qe_callTy call_str_int vc_strI rfl T.b_str boot_str (qa_cons (qv 0) qa_nil)) qe_str))
    (qss_cons (qs_for PassesOwn.never rfl (qi_seq (qe_callB call_sortP vc_sortP rfl T.b_sorted boot_sorted (qa_cons (qv 1) qa_nil))) (qg_tup (n := 2) rfl (qgs_cons (qg_name (i := 4) sc_law_written.nd rfl (by first | exact Or.inl rfl | exact Or.inr rfl)) (qgs_cons (qg_name (i := 5) sc_law_written.nd rfl (by first | exact Or.inl rfl | exact Or.inr rfl)) qgs_nil)))
    (qss_one (qs_set (i := 3) sc_law_written.nd rfl (by first | exact Or.inl rfl | exact Or.inr rfl) (qe_addS (qe_addS (qe_addS (qe_addS (qv 3) qe_str) (qe_ixS qe_str (qv 4) (fun _ _ => rfl))) qe_str) (qe_ixS qe_str (qv 5) (fun _ _ => rfl))))))
    (qss_cons (qs_for PassesOwn.never rfl (qi_seq (qe_callB call_sortP vc_sortP rfl T.b_sorted boot_sorted (qa_cons (qv 2) qa_nil))) (qg_tup (n := 2) rfl (qgs_cons (qg_name (i := 4) sc_law_written.nd rfl (by first | exact Or.inl rfl | exact Or.inr rfl)) (qgs_cons (qg_name (i := 5) sc_law_written.nd rfl (by first | exact Or.inl rfl | exact Or.inr rfl)) qgs_nil)))
    (qss_one (qs_set (i := 3) sc_law_written.nd rfl (by first | exact Or.inl rfl | exact Or.inr rfl) (qe_addS (qe_addS (qe_addS (qe_addS (qv 3) qe_str) (qe_ixS qe_str (qv 4) (fun _ _ => rfl))) qe_str) (qe_ixS qe_str (qv 5) (fun _ _ => rfl))))))
    (qss_one (qs_ret (qv 3)))))), ?_⟩)
  intro vs H Q E h
  unfold sp_lw at h
  split at h
  · rename_i c a b
    obtain ⟨ps, qs, ha, hb, hc, gp, gq, h⟩ := h
    have p15 := gp.len hc.2
    have q15 := gq.len hc.2
    refine seq_abs fun R hR => ?_
    walk_at "rd"
    rw [str_num hc]
    try walk_at "rd"
    refine ⟨lg6 hc, line_ge (by first | omega | (simp only [List.length_append, List.length_cons, List.length_nil]; omega)), ?_⟩
    subst hR
    refine seq_abs fun R hR => ?_
    walk_at "rd"
    refine ⟨ps, ha, gp.nd, fun p hp => by have := gp.lo p hp; omega, by omega, fun r ts hr pT sT' => ?_⟩
    try walk_at "rd"
    have s1 := (Sub.refl H).put (o := .lst (ts.map prV)) hr
    have hb1 := (put_ne (o := .lst (ts.map prV)) (ne_none hb hr)).trans hb
    have hr1 : put H r (.lst (ts.map prV)) r = some (.lst (ts.map prV)) := put_same
    generalize put H r (.lst (ts.map prV)) = H1 at *
    have t6 : In6 ts := fun p hp => good6 gp hc.2 p (pT.mem_iff.mp hp)
    have t15 : ts.length ≤ 15 := by rw [pT.length_eq]; exact p15
    refine for_atD (fun i σ H2 => ∃ z4 z5, σ = [some (.int c), some (.ref a), some (.ref b), some (tx ([48 + c.toNat, 58] ++ (ts.take i).flatMap (fun p => 32 :: ptx 62 p))), z4, z5] ∧ H2 = H1) ?_ ?_ ⟨none, none, by simp, rfl⟩
    rotate_left
    · rintro D i y σ H2 hy ⟨z4, z5, rfl, rfl⟩ kk
      refine ⟨hr1, ?_⟩
      rw [List.getElem?_map] at hy
      cases hg : ts[i]? with
      | none => rw [hg] at hy; cases hy
      | some q =>
        rw [hg] at hy
        cases hy
        have q6 := t6 q (List.mem_of_getElem? hg)
        have hi := (List.getElem?_eq_some_iff.mp hg).1
        have ln : ((ts.take i).flatMap (fun p => 32 :: ptx 62 p)).length = 4 * (ts.take i).length := len_pts
        rw [List.length_take] at ln
        try simp only [Option.map_some]
        unfold prV
        walk_at "rd"
        refine ⟨line_ge (by first | omega | (simp only [List.length_append, List.length_cons, List.length_nil]; omega)), line_ge (by decide), _, abc_at q6.1.1 q6.1.2, ?_⟩
        try walk_at "rd"
        refine ⟨line_ge (by first | omega | (simp only [List.length_append, List.length_cons, List.length_nil]; omega)), line_ge (by first | omega | (simp only [List.length_append, List.length_cons, List.length_nil]; omega)), line_ge (by decide), _, abc_at q6.2.1 q6.2.2, ?_⟩
        try walk_at "rd"
        refine ⟨line_ge (by first | omega | (simp only [List.length_append, List.length_cons, List.length_nil]; omega)), kk _ _ ⟨some (.int q.1), some (.int q.2), ?_, rfl⟩⟩
        rw [List.take_add_one, hg, List.flatMap_append]
        simp [ptx]
    rintro σ H2 ⟨z4, z5, rfl, rfl⟩
    refine ⟨hr1, ?_⟩
    rw [List.length_map, List.take_length]
    have ln1 : (ts.flatMap (fun p => 32 :: ptx 62 p)).length = 4 * ts.length := len_pts
    subst hR
    dsimp only
    refine seq_abs fun R hR => ?_
    walk_at "rd"
    refine ⟨qs, hb1, gq.nd, fun p hp => by have := gq.lo p hp; omega, by omega, fun r2 bs hr2 pB sB' => ?_⟩
    try walk_at "rd"
    have s2 := s1.put (o := .lst (bs.map prV)) (s1.free hr2)
    have hr3 : put H2 r2 (.lst (bs.map prV)) r2 = some (.lst (bs.map prV)) := put_same
    generalize put H2 r2 (.lst (bs.map prV)) = H3 at *
    have b6 : In6 bs := fun p hp => good6 gq hc.2 p (pB.mem_iff.mp hp)
    have b15 : bs.length ≤ 15 := by rw [pB.length_eq]; exact q15
    refine for_atD (fun i σ H2 => ∃ z4 z5, σ = [some (.int c), some (.ref a), some (.ref b), some (tx (([48 + c.toNat, 58] ++ ts.flatMap (fun p => 32 :: ptx 62 p)) ++ (bs.take i).flatMap (fun p => 32 :: ptx 126 p))), z4, z5] ∧ H2 = H3) ?_ ?_ ⟨z4, z5, by simp, rfl⟩
    rotate_left
    · rintro D i y σ H2 hy ⟨z4, z5, rfl, rfl⟩ kk
      refine ⟨hr3, ?_⟩
      rw [List.getElem?_map] at hy
      cases hg : bs[i]? with
      | none => rw [hg] at hy; cases hy
      | some q =>
        rw [hg] at hy
        cases hy
        have q6 := b6 q (List.mem_of_getElem? hg)
        have hi := (List.getElem?_eq_some_iff.mp hg).1
        have ln : ((bs.take i).flatMap (fun p => 32 :: ptx 126 p)).length = 4 * (bs.take i).length := len_pts
        rw [List.length_take] at ln
        try simp only [Option.map_some]
        unfold prV
        walk_at "rd"
        refine ⟨line_ge (by first | omega | (simp only [List.length_append, List.length_cons, List.length_nil]; omega)), line_ge (by decide), _, abc_at q6.1.1 q6.1.2, ?_⟩
        try walk_at "rd"
        refine ⟨line_ge (by first | omega | (simp only [List.length_append, List.length_cons, List.length_nil]; omega)), line_ge (by first | omega | (simp only [List.length_append, List.length_cons, List.length_nil]; omega)), line_ge (by decide), _, abc_at q6.2.1 q6.2.2, ?_⟩
        try walk_at "rd"
        refine ⟨line_ge (by first | omega | (simp only [List.length_append, List.length_cons, List.length_nil]; omega)), kk _ _ ⟨some (.int q.1), some (.int q.2), ?_, rfl⟩⟩
        rw [List.take_add_one, hg, List.flatMap_append]
        simp [ptx]
    rintro σ H4 ⟨z4, z5, rfl, rfl⟩
    refine ⟨hr3, ?_⟩
    rw [List.length_map, List.take_length]
    subst hR
    walk_at "rd"
    refine ⟨H, s2, ?_⟩
    have := h ts bs pT sT' pB sB'
    simpa [wtx] using this
  · exact h.elim

theorem G_law_whole (T : Tx K mg t) : FnOk' P w K mg base CX0 1 t.a_law_whole t.d_law_whole ["_law_found"] sp_whole := by
  refine okU (k := 0) T.F_law_whole sc_law_whole (fun vs H Q E h => by
    unfold sp_whole at h
    split at h
    · rfl
    · exact h.elim) (fun cdv A outer s H E B hr => ⟨_, (qss_one (qs_ret (qe_and (qe_callB (call_isiB .int) (vc_isi .int) rfl T.b_isinstance boot_isinstance (qa_cons (qv 0) (qa_cons (qe_bty rfl T.b_int boot_int) qa_nil))) (qe_one (qe_not (qe_callB (call_isiB .bool) (vc_isi .bool) rfl T.b_isinstance boot_isinstance (qa_cons (qv 0) (qa_cons (qe_bty rfl T.b_bool boot_bool) qa_nil)))))))), ?_⟩)
  intro vs H Q E h
  unfold sp_whole at h
  split at h
  · walk_at "rd"
    exact ⟨H, Sub.refl _, h⟩
  · exact h.elim

theorem G_law_kinds (T : Tx K mg t) : FnOk' P w K mg base CX0 1 t.a_law_kinds t.d_law_kinds ["_law_e"] (sp_kinds t) := by
  refine okU (k := 0) T.F_law_kinds sc_law_kinds (fun vs H Q E h => by
    unfold sp_kinds at h
    split at h
    · rfl
    · exact h.elim) (fun cdv A outer s H E B hr => ⟨_, (qss_cons (qs_set (i := 1) sc_law_kinds.nd rfl (by first | exact Or.inl rfl | exact Or.inr rfl) (qe_lst qa_nil))
    (qss_cons (qs_set (i := 2) sc_law_kinds.nd rfl (by first | exact Or.inl rfl | exact Or.inr rfl) (qe_lst (qa_cons (qe_tup (qa_cons qe_str (qa_cons (qe_isx T.g_NoFraction rfl rfl T.b_isinstance (qv 0)) qa_nil))) (qa_cons (qe_tup (qa_cons qe_str (qa_cons (qe_isx T.g_NoCount rfl rfl T.b_isinstance (qv 0)) qa_nil))) qa_nil))))
    (qss_cons (qs_expr (qe_bm PySem.F.slot_list_extend PySem.F.type_list_extend mt_extend vm_extend (qv 2) (qa_cons (qe_lst (qa_cons (qe_tup (qa_cons qe_str (qa_cons (qe_isx T.g_NoTie rfl rfl T.b_isinstance (qv 0)) qa_nil))) (qa_cons (qe_tup (qa_cons qe_str (qa_cons (qe_isx T.g_NoBow rfl rfl T.b_isinstance (qv 0)) qa_nil))) (qa_cons (qe_tup (qa_cons qe_str (qa_cons (qe_isx T.g_NoName rfl rfl T.b_isinstance (qv 0)) qa_nil))) qa_nil)))) qa_nil)))
    (qss_cons (qs_expr (qe_bm PySem.F.slot_list_extend PySem.F.type_list_extend mt_extend vm_extend (qv 2) (qa_cons (qe_lst (qa_cons (qe_tup (qa_cons qe_str (qa_cons (qe_isx T.g_NoSets rfl rfl T.b_isinstance (qv 0)) qa_nil))) (qa_cons (qe_tup (qa_cons qe_str (qa_cons (qe_isx T.g_NoWorld rfl rfl T.b_isinstance (qv 0)) qa_nil))) qa_nil))) qa_nil)))
    (qss_cons (qs_expr (qe_bm PySem.F.slot_list_extend PySem.F.type_list_extend mt_extend vm_extend (qv 2) (qa_cons (qe_lst (qa_cons (qe_tup (qa_cons qe_str (qa_cons (qe_isx T.g_NoValue rfl rfl T.b_isinstance (qv 0)) qa_nil))) (qa_cons (qe_tup (qa_cons qe_str (qa_cons (qe_isx T.g_NoShare rfl rfl T.b_isinstance (qv 0)) qa_nil))) qa_nil))) qa_nil)))
    (qss_cons (qs_expr (qe_bm PySem.F.slot_list_extend PySem.F.type_list_extend mt_extend vm_extend (qv 2) (qa_cons (qe_lst (qa_cons (qe_tup (qa_cons qe_str (qa_cons (qe_isx T.g_NoRoad rfl rfl T.b_isinstance (qv 0)) qa_nil))) (qa_cons (qe_tup (qa_cons qe_str (qa_cons (qe_isx T.g_NoRule rfl rfl T.b_isinstance (qv 0)) qa_nil))) qa_nil))) qa_nil)))
    (qss_cons (qs_expr (qe_bm PySem.F.slot_list_extend PySem.F.type_list_extend mt_extend vm_extend (qv 2) (qa_cons (qe_lst (qa_cons (qe_tup (qa_cons qe_str (qa_cons (qe_isx T.g_BadPaper rfl rfl T.b_isinstance (qv 0)) qa_nil))) (qa_cons (qe_tup (qa_cons qe_str (qa_cons (qe_isx T.g_NoNest rfl rfl T.b_isinstance (qv 0)) qa_nil))) qa_nil))) qa_nil)))
    (qss_cons (qs_expr (qe_bm PySem.F.slot_list_extend PySem.F.type_list_extend mt_extend vm_extend (qv 2) (qa_cons (qe_lst (qa_cons (qe_tup (qa_cons qe_str (qa_cons (qe_isx T.g_NoDoor rfl rfl T.b_isinstance (qv 0)) qa_nil))) (qa_cons (qe_tup (qa_cons qe_str (qa_cons (qe_isx T.g_NoThinning rfl rfl T.b_isinstance (qv 0)) qa_nil))) qa_nil))) qa_nil)))
    (qss_cons (qs_expr (qe_bm PySem.F.slot_list_extend PySem.F.type_list_extend mt_extend vm_extend (qv 2) (qa_cons (qe_lst (qa_cons (qe_tup (qa_cons qe_str (qa_cons (qe_isx T.g_NoAnswer rfl rfl T.b_isinstance (qv 0)) qa_nil))) (qa_cons (qe_tup (qa_cons qe_str (qa_cons (qe_isx T.g_NoQuestion rfl rfl T.b_isinstance (qv 0)) qa_nil))) qa_nil))) qa_nil)))
    (qss_cons (qs_expr (qe_bm PySem.F.slot_list_extend PySem.F.type_list_extend mt_extend vm_extend (qv 2) (qa_cons (qe_lst (qa_cons (qe_tup (qa_cons qe_str (qa_cons (qe_isx T.g_NoFormula rfl rfl T.b_isinstance (qv 0)) qa_nil))) (qa_cons (qe_tup (qa_cons qe_str (qa_cons (qe_isx T.g_BadStep rfl rfl T.b_isinstance (qv 0)) qa_nil))) qa_nil))) qa_nil)))
    (qss_cons (qs_expr (qe_bm PySem.F.slot_list_extend PySem.F.type_list_extend mt_extend vm_extend (qv 2) (qa_cons (qe_lst (qa_cons (qe_tup (qa_cons qe_str (qa_cons (qe_isx T.g_NoText rfl rfl T.b_isinstance (qv 0)) qa_nil))) (qa_cons (qe_tup (qa_cons qe_str (qa_cons (qe_not (qe_isxT T.b_ValueError boot_ValueError rfl rfl T.b_isinstance (qv 0))) qa_nil))) qa_nil))) qa_nil)))
    (qss_cons (qs_for PassesOwn.never rfl (qi_seq (qv 2)) (qg_tup (n := 2) rfl (qgs_cons (qg_name (i := 3) sc_law_kinds.nd rfl (by first | exact Or.inl rfl | exact Or.inr rfl)) (qgs_cons (qg_name (i := 4) sc_law_kinds.nd rfl (by first | exact Or.inl rfl | exact Or.inr rfl)) qgs_nil)))
    (qss_one (qs_if (qt_val (qv 4))
      (qss_one (qs_expr (qe_bm PySem.F.slot_list_append PySem.F.type_list_append mt_append vm_append (qv 1) (qa_cons (qv 3) qa_nil))))
      qss_nil)))
    (qss_one (qs_ret (qv 1))))))))))))))), ?_⟩)
  intro vs H Q E h
  unfold sp_kinds at h
  split at h
  · rename_i a
    obtain ⟨n, ha, h⟩ := h
    replace ha : H a = some (exo t.a_NoText (some n)) := ha
    refine seq_abs fun R0 hR => ?_
    walk_at "rd"
    refine ⟨small_size (by decide), fun r hr => ?_⟩
    subst hR
    refine k_first (C := t.a_NoText) (d := some n) (l := [("NoFraction", uIsx K (.ref t.a_NoFraction) (uVar 0)), ("NoCount", uIsx K (.ref t.a_NoCount) (uVar 0))]) (bs := [false, false]) ((put_ne (ne_none ha hr)).trans ha) put_same (Sub.put (Sub.refl _) hr) (Nat.le_of_ble_eq_true rfl) ⟨isv_isx ((put_ne (ne_none ha hr)).trans ha) T.xi_NoText.c0 T.k_NoText_NoFraction, ⟨isv_isx ((put_ne (ne_none ha hr)).trans ha) T.xi_NoText.c0 T.k_NoText_NoCount, trivial⟩⟩ fun q H0 i0 => ?_
    refine k_more (l := [("NoTie", uIsx K (.ref t.a_NoTie) (uVar 0)), ("NoBow", uIsx K (.ref t.a_NoBow) (uVar 0)), ("NoName", uIsx K (.ref t.a_NoName) (uVar 0))]) (bs := [false, false, false]) i0 ⟨Nat.le_of_ble_eq_true rfl, Nat.le_of_ble_eq_true rfl⟩ ⟨isv_isx i0.ha T.xi_NoText.c0 T.k_NoText_NoTie, ⟨isv_isx i0.ha T.xi_NoText.c0 T.k_NoText_NoBow, ⟨isv_isx i0.ha T.xi_NoText.c0 T.k_NoText_NoName, trivial⟩⟩⟩ fun H1 i1 => ?_
    refine k_more (l := [("NoSets", uIsx K (.ref t.a_NoSets) (uVar 0)), ("NoWorld", uIsx K (.ref t.a_NoWorld) (uVar 0))]) (bs := [false, false]) i1 ⟨Nat.le_of_ble_eq_true rfl, Nat.le_of_ble_eq_true rfl⟩ ⟨isv_isx i1.ha T.xi_NoText.c0 T.k_NoText_NoSets, ⟨isv_isx i1.ha T.xi_NoText.c0 T.k_NoText_NoWorld, trivial⟩⟩ fun H2 i2 => ?_
    refine k_more (l := [("NoValue", uIsx K (.ref t.a_NoValue) (uVar 0)), ("NoShare", uIsx K (.ref t.a_NoShare) (uVar 0))]) (bs := [false, false]) i2 ⟨Nat.le_of_ble_eq_true rfl, Nat.le_of_ble_eq_true rfl⟩ ⟨isv_isx i2.ha T.xi_NoText.c0 T.k_NoText_NoValue, ⟨isv_isx i2.ha T.xi_NoText.c0 T.k_NoText_NoShare, trivial⟩⟩ fun H3 i3 => ?_
    refine k_more (l := [("NoRoad", uIsx K (.ref t.a_NoRoad) (uVar 0)), ("NoRule", uIsx K (.ref t.a_NoRule) (uVar 0))]) (bs := [false, false]) i3 ⟨Nat.le_of_ble_eq_true rfl, Nat.le_of_ble_eq_true rfl⟩ ⟨isv_isx i3.ha T.xi_NoText.c0 T.k_NoText_NoRoad, ⟨isv_isx i3.ha T.xi_NoText.c0 T.k_NoText_NoRule, trivial⟩⟩ fun H4 i4 => ?_
    refine k_more (l := [("BadPaper", uIsx K (.ref t.a_BadPaper) (uVar 0)), ("NoNest", uIsx K (.ref t.a_NoNest) (uVar 0))]) (bs := [false, false]) i4 ⟨Nat.le_of_ble_eq_true rfl, Nat.le_of_ble_eq_true rfl⟩ ⟨isv_isx i4.ha T.xi_NoText.c0 T.k_NoText_BadPaper, ⟨isv_isx i4.ha T.xi_NoText.c0 T.k_NoText_NoNest, trivial⟩⟩ fun H5 i5 => ?_
    refine k_more (l := [("NoDoor", uIsx K (.ref t.a_NoDoor) (uVar 0)), ("NoThinning", uIsx K (.ref t.a_NoThinning) (uVar 0))]) (bs := [false, false]) i5 ⟨Nat.le_of_ble_eq_true rfl, Nat.le_of_ble_eq_true rfl⟩ ⟨isv_isx i5.ha T.xi_NoText.c0 T.k_NoText_NoDoor, ⟨isv_isx i5.ha T.xi_NoText.c0 T.k_NoText_NoThinning, trivial⟩⟩ fun H6 i6 => ?_
    refine k_more (l := [("NoAnswer", uIsx K (.ref t.a_NoAnswer) (uVar 0)), ("NoQuestion", uIsx K (.ref t.a_NoQuestion) (uVar 0))]) (bs := [false, false]) i6 ⟨Nat.le_of_ble_eq_true rfl, Nat.le_of_ble_eq_true rfl⟩ ⟨isv_isx i6.ha T.xi_NoText.c0 T.k_NoText_NoAnswer, ⟨isv_isx i6.ha T.xi_NoText.c0 T.k_NoText_NoQuestion, trivial⟩⟩ fun H7 i7 => ?_
    refine k_more (l := [("NoFormula", uIsx K (.ref t.a_NoFormula) (uVar 0)), ("BadStep", uIsx K (.ref t.a_BadStep) (uVar 0))]) (bs := [false, false]) i7 ⟨Nat.le_of_ble_eq_true rfl, Nat.le_of_ble_eq_true rfl⟩ ⟨isv_isx i7.ha T.xi_NoText.c0 T.k_NoText_NoFormula, ⟨isv_isx i7.ha T.xi_NoText.c0 T.k_NoText_BadStep, trivial⟩⟩ fun H8 i8 => ?_
    refine k_more (l := [("NoText", uIsx K (.ref t.a_NoText) (uVar 0)), ("other", uNotV (uIsx K (.type "ValueError") (uVar 0)))]) (bs := [true, !true]) i8 ⟨Nat.le_of_ble_eq_true rfl, Nat.le_of_ble_eq_true rfl⟩ ⟨isv_isx i8.ha T.xi_NoText.c0 T.k_NoText_NoText, ⟨isv_not (isv_isx i8.ha T.xi_NoText.c0 T.k_NoText_ValueError), trivial⟩⟩ fun H9 i9 => ?_
    refine k_last (xs := [("NoFraction", false), ("NoCount", false), ("NoTie", false), ("NoBow", false), ("NoName", false), ("NoSets", false), ("NoWorld", false), ("NoValue", false), ("NoShare", false), ("NoRoad", false), ("NoRule", false), ("BadPaper", false), ("NoNest", false), ("NoDoor", false), ("NoThinning", false), ("NoAnswer", false), ("NoQuestion", false), ("NoFormula", false), ("BadStep", false), ("NoText", true), ("other", (!true))]) (nm := "NoText") i9 rfl fun H1 u v sb => ?_
    exact ⟨_, sb, h r hr⟩
  · exact h.elim

theorem G_pairs_with (T : Tx K mg t) : FnOk' P w K mg base CX0 1 t.a_pairs_with t.d_pairs_with ["parts", "sign"] sp_pw := by
  refine okU (k := 0) T.F_pairs_with sc_pairs_with (fun vs H Q E h => by
    unfold sp_pw at h
    split at h
    · rfl
    · exact h.elim) (fun cdv A outer s H E B hr => ⟨_, (qss_one (qs_ret (qe_comp (N2 := ["part", "sign"]) (nt := 1) (js := [1]) (cok (sc := defScope s_pairs_with) (by exact rfl) (by repeat (first | exact trivial | refine ⟨rfl, ?_⟩)) rfl (by rfl) (by decide +kernel) (by decide +kernel) (by rfl) (by decide +kernel) (by rfl) (by rfl)) rfl (qi_seq (qv 0)) (fun s0 H0 fp ps => ⟨(qg_name (i := 0) (show List.Nodup (["part", "sign"] : List Str) by decide +kernel) rfl (by first | exact Or.inl rfl | exact Or.inr rfl)), (qif_one (qt_cmp op_in_str vr_inS (qv 1) (qv 0) (by with_unfolding_all rfl))), (qe_tup (qa_cons (qe_bmS PySem.F.plainAttrs_str PySem.F.slot_str_find PySem.F.type_str_find mt_find vm_find (qe_globE (v' := .str "abcdef") rfl T.c_LETTERS (fun _ => by simp [RP])) (qa_cons (qe_ixS (qv 0) qe_int (fun _ _ => rfl)) qa_nil)) (qa_cons (qe_bmS PySem.F.plainAttrs_str PySem.F.slot_str_find PySem.F.type_str_find mt_find vm_find (qe_globE (v' := .str "abcdef") rfl T.c_LETTERS (fun _ => by simp [RP])) (qa_cons (qe_ixS (qv 0) (qe_neg qe_int) (fun _ _ => rfl)) qa_nil)) qa_nil)))⟩)))), ?_⟩)
  intro vs H Q E h
  unfold sp_pw at h
  split at h
  · rename_i a z
    obtain ⟨ys, c, ha, rfl, l1, l2, h⟩ := h
    walk_at "rd"
    refine ⟨_, ha, fun acc hacc => ?_⟩
    refine comp_pure fQ (hasC c) (fun σ => ∃ z, σ = [z, some (.str (sT [c]))]) (by unfold tS; rw [List.length_map, List.length_map]; omega) (fun l => (put_ne (ne_none ha hacc)).trans ha) ?_ ?_ ⟨_, rfl⟩
    · rintro y hy l σ R ⟨z, rfl⟩ hl kT kF
      obtain ⟨y, hy', rfl⟩ : ∃ q ∈ ys, y = .str (sT q) := by
        obtain ⟨z, hz, rfl⟩ := List.mem_map.mp hy
        obtain ⟨q, hq, rfl⟩ := List.mem_map.mp hz
        exact ⟨q, hq, rfl⟩
      have ly := l2 y hy'
      walk_at "rd"
      have ein : (!(Builtin.Str.occurrences (sT y) (sT [c]) 0 y.length 1).isEmpty) = hasC c (.str (sT y)) := by
        have := StrLaws.found_one (sT y) c
        rw [sT_len] at this
        exact this
      rw [ein]
      rw [fQ_s] at kT
      refine cif_by (fun q => ?_) (fun q => kF q _ ⟨_, rfl⟩)
      have hm : c ∈ y := by rw [hasC_s] at q; exact of_decide_eq_true q
      cases y with
      | nil => cases hm
      | cons h0 r0 =>
        obtain ⟨h1, e1⟩ : ∃ h1, (h0 :: r0).getLast? = some h1 := by
          cases e : (h0 :: r0).getLast? with
          | none => simp at e
          | some x => exact ⟨x, rfl⟩
        have elst : lst (h0 :: r0) = [h1] := by unfold lst; rw [e1]
        rw [elst] at kT
        rw [List.length_cons] at ly
        refine ⟨line_ge (by simp only [List.length_cons]; omega), h0, by rw [sT_cps]; unfold atI ixN; rw [if_pos (by decide), if_pos (by simp only [List.length_cons]; omega)]; rfl, ?_⟩
        try walk_at "rd"
        refine ⟨line_ge (by omega), h1, by rw [sT_cps, atI_last]; exact e1, ?_⟩
        try walk_at "rd"
        exact ⟨small_size (by decide), hl, by rw [put_put]; exact kT q _ ⟨_, rfl⟩⟩
    rw [pw_tS]
    exact ⟨_, Sub.refl _, h acc hacc⟩
  · exact h.elim

theorem xV (T : Tx K mg t) (k : Nat) : XC0 K (clsV t k) ∧ PySem.W.mroIn K (clsV t k) (.ref t.a_DoingError) = some true := match k with
  | 0 => ⟨T.x_NoCount.c0, T.s_NoCount⟩
  | 1 => ⟨T.x_NoTie.c0, T.s_NoTie⟩
  | _ + 2 => ⟨T.x_NoBow.c0, T.s_NoBow⟩

theorem G_read (T : Tx K mg t) : FnOk' P w K mg base (CXU P w) 6 t.a_read t.d_read ["text"] (sp_rd t) := by
  refine okX (k := 5) T.F_read sc_read (fun vs H Q E h => by
    unfold sp_rd at h
    split at h
    · rfl
    · exact h.elim) (fun cdv A outer s H0 E0 vs H Q E hr hE h => ⟨_, (qss_cons (qs_set (i := 1) sc_read.nd rfl (by first | exact Or.inl rfl | exact Or.inr rfl) (qe_bmS PySem.F.plainAttrs_str PySem.F.slot_str_find PySem.F.type_str_find mt_find vm_find (qe_globE (v' := .str "0123456") rfl T.c_COUNTS (fun _ => by simp [RP])) (qa_cons (qe_sliceS (qv 0) qo_none (qo_some qe_int)) qa_nil)))
    (qss_cons (qs_set (i := 2) sc_read.nd rfl (by first | exact Or.inl rfl | exact Or.inr rfl) (qe_slice (qe_bmS PySem.F.plainAttrs_str PySem.F.slot_str_split PySem.F.type_str_split mt_split vm_split (qv 0) (qa_cons qe_str qa_nil)) (qo_some qe_int) qo_none))
    (qss_cons (qs_set (i := 3) sc_read.nd rfl (by first | exact Or.inl rfl | exact Or.inr rfl) (qe_call (G_pairs_with T) (hr.mono (by decide)) rfl T.g_pairs_with T.F_pairs_with.kp T.B_pairs_with (qa_cons (qv 2) (qa_cons qe_str qa_nil))))
    (qss_cons (qs_set (i := 4) sc_read.nd rfl (by first | exact Or.inl rfl | exact Or.inr rfl) (qe_call (G_pairs_with T) (hr.mono (by decide)) rfl T.g_pairs_with T.F_pairs_with.kp T.B_pairs_with (qa_cons (qv 2) (qa_cons qe_str qa_nil))))
    (qss_cons (qs_tryR (n := 0) rfl plain_cx hE T.x_DoingError rfl T.g_DoingError T.xi_NoText (G_NoText_init T) (room_h (hr.mono (by decide))) T.B_NoText_init rfl T.g_NoText (qxs_one (qx_set (i := 5) sc_read.nd rfl (Or.inl rfl) (px_make ⟨rfl, rfl, rfl⟩ T.mk_Drawing (G_Drawing_init T) (hr.mono (by decide)) rfl T.g_Drawing T.B_Drawing_init (qa_cons (qv 1) (qa_cons (qv 3) (qa_cons (qv 4) qa_nil)))))) (fun v => pe_int) (fun _ _ _ h => h))
    (qss_cons (qs_if (qt_cmp (op_neU hr.units) vr_eq (qe_call (G_written T) (hr.mono (by decide)) rfl T.g_written T.F_written.kp T.B_written (qa_cons (qv 5) qa_nil)) (qv 0) (nomark _))
    (qss_one (qs_raiseI rfl plain_cx hE rfl T.xi_NoText (G_NoText_init T).ok (hr.mono (by decide)) T.B_NoText_init rfl T.g_NoText qe_int))
    qss_nil)
    (qss_one (qs_ret (qv 5))))))))), ?_⟩)
  unfold sp_rd at h
  split at h
  · rename_i z
    obtain ⟨L, rfl, hL, hQ, hX⟩ := h
    refine seq_abs fun R hR => ?_
    walk_at "rd"
    refine ⟨line_ge (by omega), ?_⟩
    rw [slice_hd]
    have wc : ∀ c' ts bs, Two c' ts bs → L = wtx c' ts bs → cn (L.take 1) = c' := fun c' ts bs tw e => by rw [e]; exact cn_w tw.1
    generalize hcc : Txt.find (sT [48, 49, 50, 51, 52, 53, 54]) (sT (L.take 1)) = c
    replace hcc : cn (L.take 1) = c := hcc
    rw [hcc] at wc
    subst hR
    obtain ⟨a0, ys, es, eL, na, ny⟩ := split_ex L
    have bl := bf_len (ys := ys)
    have ll : L.length = a0.length + (bf ys).length := by have := congrArg List.length eL; rwa [List.length_append] at this
    have wy : ∀ c' ts bs, Two c' ts bs → L = wtx c' ts bs → pw 62 ys = ts ∧ pw 126 ys = bs := fun c' ts bs tw e => by
      rw [part_w (e.symm.trans eL) na ny]
      exact pw_wys (good6 tw.2.1 tw.1.2) (good6 tw.2.2.1 tw.1.2)
    refine seq_abs fun R hR => ?_
    walk_at "rd"
    refine ⟨rfl, line_ge (by omega), fun r hr => ?_⟩
    rw [es]
    try walk_at "rd"
    intro p hp
    have ec : cutP (PV.str (sT a0) :: (ys.map sT).map PV.str) (some 1) none = tS ys := cut_from _ 1
    rw [ec]
    have s0 := (Sub.refl H).put (o := .lst (PV.str (sT a0) :: (ys.map sT).map PV.str)) hr
    have s1 := s0.put (o := .lst (tS ys)) (s0.free hp)
    have hp1 : put (put H r (.lst (PV.str (sT a0) :: (ys.map sT).map PV.str))) p (.lst (tS ys)) p = some (.lst (tS ys)) := put_same
    generalize put (put H r (.lst (PV.str (sT a0) :: (ys.map sT).map PV.str))) p (.lst (tS ys)) = H1 at *
    subst hR
    have T5 := pw_len (c := 62) (ys := ys)
    have B5 := pw_len (c := 126) (ys := ys)
    refine seq_abs fun R hR => ?_
    walk_at "rd"
    refine ⟨ys, 62, hp1, rfl, by omega, fun y hy => by have := bl.2 y hy; omega, fun a ha => ?_⟩
    have s2 := s1.put (o := .lst ((pw 62 ys).map prV)) (s1.free ha)
    have hp2 := (put_ne (o := .lst ((pw 62 ys).map prV)) (ne_none hp1 ha)).trans hp1
    have ha2 : put H1 a (.lst ((pw 62 ys).map prV)) a = some (.lst ((pw 62 ys).map prV)) := put_same
    generalize put H1 a (.lst ((pw 62 ys).map prV)) = H2 at *
    subst hR
    refine seq_abs fun R hR => ?_
    walk_at "rd"
    refine ⟨ys, 126, hp2, rfl, by omega, fun y hy => by have := bl.2 y hy; omega, fun b hb => ?_⟩
    have s3 := s2.put (o := .lst ((pw 126 ys).map prV)) (s2.free hb)
    have ha3 := (put_ne (o := .lst ((pw 126 ys).map prV)) (ne_none ha2 hb)).trans ha2
    have hb3 : put H2 b (.lst ((pw 126 ys).map prV)) b = some (.lst ((pw 126 ys).map prV)) := put_same
    generalize put H2 b (.lst ((pw 126 ys).map prV)) = H3 at *
    subst hR
    generalize pw 62 ys = TT at *
    generalize pw 126 ys = BB at *
    refine seq_abs fun R hR => ?_
    walk_at "rd"
    intro x dx hx hdx nd
    have sc := (Sub.refl H3).put (o := .ins t.a_Drawing dx []) hx
    refine ⟨dx, _, _, TT.map p2l, BB.map p2l, rfl, sc _ _ ha3, sc _ _ hb3, rowsL_p2, rowsL_p2, ⟨by rw [List.length_map]; omega, by rw [List.length_map]; omega⟩, fun k hv H4 s4 => ⟨_, rfl, xV T k, hX (fun ⟨c', ts, bs, tw, e⟩ => ?_) H4 ((s3.trans sc).trans s4)⟩, fun hv P0 Q0 ts us e1 e2 gp gq pt st pu su => ?_⟩
    · obtain ⟨z1, z2⟩ := wy c' ts bs tw e
      rw [wc c' ts bs tw e, z1, z2, two_verd tw] at hv
      cases hv
    cases p2l_map_inj e1
    cases p2l_map_inj e2
    have tw := verd_two hv gp gq pt st pu su
    have t15 := tw.2.1.len tw.1.2
    have b15 := tw.2.2.1.len tw.1.2
    rw [put_put]
    have s5 := s3.put (o := .ins t.a_Drawing dx (DF c ts us)) (s3.free hx)
    subst hR
    refine seq_abs fun R hR => ?_
    walk_at "rd"
    refine ⟨dx, c, ts, us, rfl, tw.1, good6 tw.2.1 tw.1.2, good6 tw.2.2.1 tw.1.2, t15, b15, ?_⟩
    try walk_at "rd"
    by_cases e : wtx c ts us = L
    · refine cif_neg (by simp [e]) ?_
      subst hR
      walk_at "rd"
      exact ⟨_, Sub.refl _, hQ c ts us tw e.symm x dx _ s5 put_same⟩
    · refine cif_pos (by simp [e]) ⟨by decide, by decide, hX (fun ⟨c', ts', bs', tw', e'⟩ => ?_) _ s5⟩
      obtain ⟨z1, z2⟩ := wy c' ts' bs' tw' e'
      have z0 := wc c' ts' bs' tw' e'
      subst z0
      subst z1
      subst z2
      have q1 : ts = _ := DM.perm_eq pt st (List.Perm.refl _) tw'.2.2.2.2.1
      have q2 : us = _ := DM.perm_eq pu su (List.Perm.refl _) tw'.2.2.2.2.2
      rw [q1, q2] at e
      exact e e'.symm
  · exact h.elim

theorem G_law_drawing_of (T : Tx K mg t) : FnOk' P w K mg base CX0 3 t.a_law_drawing_of t.d_law_drawing_of ["_law_text"] sp_ldo := by
  refine okU (k := 2) T.F_law_drawing_of sc_law_drawing_of (fun vs H Q E h => by
    unfold sp_ldo at h
    split at h
    · rfl
    · exact h.elim) (fun cdv A outer s H E B hr => ⟨_, (qss_cons (qs_set (i := 1) sc_law_drawing_of.nd rfl (by first | exact Or.inl rfl | exact Or.inr rfl) (qe_lst qa_nil))
    (qss_cons (qs_set (i := 2) sc_law_drawing_of.nd rfl (by first | exact Or.inl rfl | exact Or.inr rfl) (qe_lst qa_nil))
    (qss_cons (qs_set (i := 3) sc_law_drawing_of.nd rfl (by first | exact Or.inl rfl | exact Or.inr rfl) (qe_bmS PySem.F.plainAttrs_str PySem.F.slot_str_find PySem.F.type_str_find mt_find vm_find qe_str (qa_cons (qe_sliceS (qv 0) qo_none (qo_some qe_int)) qa_nil)))
    (qss_cons (qs_for PassesOwn.never rfl (qi_seq (qe_slice (qe_bmS PySem.F.plainAttrs_str PySem.F.slot_str_split PySem.F.type_str_split mt_split vm_split (qe_sliceS (qv 0) (qo_some qe_int) qo_none) (qa_cons qe_str qa_nil)) (qo_some qe_int) qo_none)) (qg_name (i := 4) sc_law_drawing_of.nd rfl (by first | exact Or.inl rfl | exact Or.inr rfl))
    (qss_cons (qs_set (i := 5) sc_law_drawing_of.nd rfl (by first | exact Or.inl rfl | exact Or.inr rfl) (qe_bmS PySem.F.plainAttrs_str PySem.F.slot_str_find PySem.F.type_str_find mt_find vm_find qe_str (qa_cons (qe_sliceS (qv 4) qo_none (qo_some qe_int)) qa_nil)))
      (qss_cons (qs_set (i := 6) sc_law_drawing_of.nd rfl (by first | exact Or.inl rfl | exact Or.inr rfl) (qe_bmS PySem.F.plainAttrs_str PySem.F.slot_str_find PySem.F.type_str_find mt_find vm_find qe_str (qa_cons (qe_sliceS (qv 4) (qo_some qe_int) (qo_some qe_int)) qa_nil)))
      (qss_one (qs_if (qt_cmp (op_eqU hr.units) vr_eq (qe_sliceS (qv 4) (qo_some qe_int) (qo_some qe_int)) qe_str (nomark _))
      (qss_one (qs_expr (qe_bm PySem.F.slot_list_append PySem.F.type_list_append mt_append vm_append (qv 1) (qa_cons (qe_tup (qa_cons (qv 5) (qa_cons (qv 6) qa_nil))) qa_nil))))
      (qss_one (qs_expr (qe_bm PySem.F.slot_list_append PySem.F.type_list_append mt_append vm_append (qv 2) (qa_cons (qe_tup (qa_cons (qv 5) (qa_cons (qv 6) qa_nil))) qa_nil)))))))))
    (qss_cons (qs_for PassesOwn.never rfl (qi_seq (qe_cat (qv 1) (qv 2))) (qg_tup (n := 2) rfl (qgs_cons (qg_name (i := 5) sc_law_drawing_of.nd rfl (by first | exact Or.inl rfl | exact Or.inr rfl)) (qgs_cons (qg_name (i := 6) sc_law_drawing_of.nd rfl (by first | exact Or.inl rfl | exact Or.inr rfl)) qgs_nil)))
    (qss_one (qs_if (qt_bool (qw_or (qt_cmp op_lt vr_lt (qv 5) qe_int (nomark _)) (qw_or (qt_cmp op_le vr_le (qv 6) (qv 5) (nomark _)) (qw_or1 (qt_cmp op_ge vr_ge (qv 6) (qv 3) (nomark _))))))
      (qss_one (qs_ret qe_non))
      qss_nil)))
    (qss_cons (qs_if (qt_bool (qw_or (qt_cmp op_lt vr_lt (qe_len_set2 rfl hr.units rfl T.b_len rfl T.b_set boot_set (qv 1)) (qe_callB call_len_seq vc_len rfl T.b_len PySem.boot_len (qa_cons (qv 1) qa_nil)) (nomark _)) (qw_or (qt_cmp op_lt vr_lt (qe_len_set2 rfl hr.units rfl T.b_len rfl T.b_set boot_set (qv 2)) (qe_callB call_len_seq vc_len rfl T.b_len PySem.boot_len (qa_cons (qv 2) qa_nil)) (nomark _)) (qw_or (qt_cmp op_gt vr_gt (qe_callB call_len_seq vc_len rfl T.b_len PySem.boot_len (qa_cons (qv 2) qa_nil)) qe_int (nomark _)) (qw_or1 (qt_cmp op_lt vr_lt (qv 3) qe_int (nomark _)))))))
    (qss_one (qs_ret qe_non))
    qss_nil)
    (qss_cons (qs_if (qt_cmp (op_neU hr.units) vr_eq (qe_call (G_law_written T) (hr.mono (by decide)) rfl T.g_law_written T.F_law_written.kp T.B_law_written (qa_cons (qv 3) (qa_cons (qv 1) (qa_cons (qv 2) qa_nil)))) (qv 0) (nomark _))
    (qss_one (qs_ret qe_non))
    qss_nil)
    (qss_one (qs_ret (qe_tup (qa_cons (qv 3) (qa_cons (qe_callTy call_tuple_of vc_tuple rfl T.b_tuple boot_tuple (qa_cons (qe_callB call_sortP vc_sortP rfl T.b_sorted boot_sorted (qa_cons (qv 1) qa_nil)) qa_nil)) (qa_cons (qe_callTy call_tuple_of vc_tuple rfl T.b_tuple boot_tuple (qa_cons (qe_callB call_sortP vc_sortP rfl T.b_sorted boot_sorted (qa_cons (qv 2) qa_nil)) qa_nil)) qa_nil))))))))))))), ?_⟩)
  intro vs H Q E h
  unfold sp_ldo at h
  split at h
  · rename_i z
    obtain ⟨L, rfl, hL, hQ, hN⟩ := h
    refine seq_abs fun R hR => ?_
    walk_at "rd"
    refine ⟨small_size (by decide), fun p1 hp1 => ?_⟩
    subst hR
    refine seq_abs fun R hR => ?_
    walk_at "rd"
    refine ⟨small_size (by decide), fun p2 hp2 => ?_⟩
    subst hR
    have n12 : p1 ≠ p2 := fun e => by subst e; rw [put_same] at hp2; cases hp2
    have hp2' : H p2 = none := by rw [put_ne n12.symm] at hp2; exact hp2
    have s0 : U.Sub H (put (put H p1 (.lst [])) p2 (.lst [])) := ((Sub.refl H).put hp1).put hp2'
    have e1 : put (put H p1 (.lst [])) p2 (.lst []) p1 = some (.lst []) := (put_ne n12).trans put_same
    have e2 : put (put H p1 (.lst [])) p2 (.lst []) p2 = some (.lst []) := put_same
    generalize put (put H p1 (.lst [])) p2 (.lst []) = H1 at *
    refine seq_abs fun R hR => ?_
    walk_at "rd"
    refine ⟨line_ge (by omega), ?_⟩
    rw [slice_hd]
    have wc : ∀ c' ts bs, Two c' ts bs → L = wtx c' ts bs → cn (L.take 1) = c' := fun c' ts bs tw e => by rw [e]; exact cn_w tw.1
    have c6 := cn_le L
    generalize hcc : Txt.find (sT [48, 49, 50, 51, 52, 53, 54]) (sT (L.take 1)) = c
    replace hcc : cn (L.take 1) = c := hcc
    rw [hcc] at wc c6
    subst hR
    obtain ⟨a0, ys, es, eL, na, ny⟩ := split_ex (L.drop 2)
    have bl := bf_len (ys := ys)
    have ll : (L.drop 2).length = a0.length + (bf ys).length := by have := congrArg List.length eL; rwa [List.length_append] at this
    rw [List.length_drop] at ll
    have wy : ∀ c' ts bs, Two c' ts bs → L = wtx c' ts bs → tL ys = ts ∧ bL ys = bs := fun c' ts bs tw e => by
      rw [e] at eL
      rw [part_w2 eL na ny]
      exact tb_wys (good6 tw.2.1 tw.1.2) (good6 tw.2.2.1 tw.1.2)
    have T5 := tL_len (ys := ys)
    have B5 := bL_len (ys := ys)
    have y5 : ys.length ≤ 400 := by omega
    refine seq_abs fun R hR => ?_
    walk_at "rd"
    refine ⟨line_ge (by omega), ?_⟩
    have esl : Txt.slice (sT L) (some 2) none = sT (L.drop 2) := slice_fr L 2
    rw [esl]
    try walk_at "rd"
    refine ⟨rfl, line_ge (by rw [List.length_drop]; omega), fun r hr => ?_⟩
    rw [es]
    try walk_at "rd"
    intro q hq
    have ec : cutP (PV.str (sT a0) :: (ys.map sT).map PV.str) (some 1) none = tS ys := cut_from _ 1
    rw [ec]
    have s1 := s0.put (o := .lst (PV.str (sT a0) :: (ys.map sT).map PV.str)) (s0.free hr)
    have e1' := (put_ne (o := .lst (PV.str (sT a0) :: (ys.map sT).map PV.str)) (ne_none e1 hr)).trans e1
    have e2' := (put_ne (o := .lst (PV.str (sT a0) :: (ys.map sT).map PV.str)) (ne_none e2 hr)).trans e2
    generalize put H1 r (.lst (PV.str (sT a0) :: (ys.map sT).map PV.str)) = H2 at *
    have s2 := s1.put (o := .lst (tS ys)) (s1.free hq)
    have e1a := (put_ne (o := .lst (tS ys)) (ne_none e1' hq)).trans e1'
    have e2a := (put_ne (o := .lst (tS ys)) (ne_none e2' hq)).trans e2'
    have nq1 : p1 ≠ q := ne_none e1' hq
    have nq2 : p2 ≠ q := ne_none e2' hq
    have eq : put H2 q (.lst (tS ys)) q = some (.lst (tS ys)) := put_same
    generalize put H2 q (.lst (tS ys)) = H3 at *
    refine for_atD (fun i σ H4 => ∃ z4 z5 z6, σ = [some (.str (sT L)), some (.ref p1), some (.ref p2), some (.int c), z4, z5, z6] ∧ U.Sub H H4 ∧ H4 q = some (.lst (tS ys)) ∧ H4 p1 = some (.lst ((tL (ys.take i)).map prV)) ∧ H4 p2 = some (.lst ((bL (ys.take i)).map prV))) ?_ ?_ ⟨none, none, none, rfl, s2, eq, e1a, e2a⟩
    rotate_left
    · rintro D i y σ H4 hy ⟨z4, z5, z6, rfl, s4, hq4, h1, h2⟩ kk
      refine ⟨hq4, ?_⟩
      unfold tS at hy
      rw [List.getElem?_map, List.getElem?_map] at hy
      cases hg : ys[i]? with
      | none => rw [hg] at hy; cases hy
      | some w =>
        rw [hg] at hy
        cases hy
        have lw := bl.2 w (List.mem_of_getElem? hg)
        have tk : ys.take (i + 1) = ys.take i ++ [w] := by rw [List.take_add_one, hg]; rfl
        have lt : (ys.take i).length ≤ ys.length := by rw [List.length_take]; omega
        have l1 := tL_len (ys := ys.take i)
        have l2 := bL_len (ys := ys.take i)
        try simp only [Option.map_some]
        walk_at "rd"
        refine ⟨line_ge (by omega), ?_⟩
        rw [slice_hd]
        try walk_at "rd"
        refine ⟨line_ge (by omega), ?_⟩
        have es2 : Txt.slice (sT w) (some 2) (some 3) = sT ((w.drop 2).take 1) := slice_nat w 2 3 (by decide)
        rw [es2]
        try walk_at "rd"
        refine ⟨line_ge (by omega), ?_⟩
        have es3 : Txt.slice (sT w) (some 1) (some 2) = sT ((w.drop 1).take 1) := slice_nat w 1 2 (by decide)
        rw [es3]
        try walk_at "rd"
        refine cif_by (fun hi => ?_) (fun hi => ?_)
        · have it : isT w = true := by unfold isT; exact hi
          refine ⟨⟨_, h1⟩, small_size (by decide), _, h1, small1000 (by rw [List.length_map]; omega), kk _ _ ⟨_, _, _, rfl, s4.put hp1, (put_ne nq1.symm).trans hq4, ?_, ?_⟩⟩
          · rw [put_same, tk, tL_snoc, it, if_pos rfl, List.map_append]; rfl
          · rw [put_ne n12.symm, tk, bL_snoc, it, if_pos rfl]; exact h2
        · have it : isT w = false := by unfold isT; exact hi
          refine ⟨⟨_, h2⟩, small_size (by decide), _, h2, small1000 (by rw [List.length_map]; omega), kk _ _ ⟨_, _, _, rfl, s4.put hp2', (put_ne nq2.symm).trans hq4, ?_, ?_⟩⟩
          · rw [put_ne n12, tk, tL_snoc, it, if_neg (by decide)]; exact h1
          · rw [put_same, tk, bL_snoc, it, if_neg (by decide), List.map_append]; rfl
    rintro σ H4 ⟨z4, z5, z6, rfl, s4, hq4, h1, h2⟩
    refine ⟨hq4, ?_⟩
    have ety : (tS ys).length = ys.length := by unfold tS; rw [List.length_map, List.length_map]
    rw [ety, List.take_length] at h1 h2
    generalize tL ys = TT at *
    generalize bL ys = BB at *
    subst hR
    dsimp only
    refine seq_abs fun R hR => ?_
    walk_at "rd"
    refine ⟨_, _, h1, h2, line_ge (by rw [List.length_map, List.length_map]; omega), fun q2 hq2 => ?_⟩
    rw [← List.map_append]
    have s5 := s4.put (o := .lst ((TT ++ BB).map prV)) (s4.free hq2)
    have h15 := (put_ne (o := .lst ((TT ++ BB).map prV)) (ne_none h1 hq2)).trans h1
    have h25 := (put_ne (o := .lst ((TT ++ BB).map prV)) (ne_none h2 hq2)).trans h2
    have hq5 : put H4 q2 (.lst ((TT ++ BB).map prV)) q2 = some (.lst ((TT ++ BB).map prV)) := put_same
    generalize put H4 q2 (.lst ((TT ++ BB).map prV)) = H5 at *
    refine for_at (fun i σ H6 => ∃ z5 z6, σ = [some (.str (sT L)), some (.ref p1), some (.ref p2), some (.int c), z4, z5, z6] ∧ H6 = H5 ∧ ∀ p ∈ (TT ++ BB).take i, InR c p) ?_ ?_ ⟨z5, z6, rfl, rfl, fun p hp => by rw [List.take_zero] at hp; cases hp⟩
    rotate_left
    · rintro G i y σ H6 hy ⟨z5, z6, rfl, rfl, hall⟩ kk
      refine ⟨hq5, ?_⟩
      rw [List.getElem?_map] at hy
      cases hg : (TT ++ BB)[i]? with
      | none => rw [hg] at hy; cases hy
      | some w =>
        rw [hg] at hy
        cases hy
        try simp only [Option.map_some]
        unfold prV
        walk_at "rd"
        have bad : ¬ InR c w → ∃ H3, U.Sub H3 H6 ∧ Q .non H3 := fun nr => ⟨H, s5, hN fun ⟨c', ts, bs, tw, e⟩ => nr (by
          obtain ⟨z1, z2⟩ := wy c' ts bs tw e
          have z0 := wc c' ts bs tw e
          have hw := List.mem_of_getElem? hg
          rw [z1, z2] at hw
          rw [z0]
          rcases List.mem_append.mp hw with hw | hw
          · exact tw.2.1.lo w hw
          · exact tw.2.2.1.lo w hw)⟩
        refine cif_by (fun q => bad fun r => ?_) (fun q1 => cif_by (fun q => bad fun r => ?_) (fun q2 => cif_by (fun q => bad fun r => ?_) (fun q3 => ?_)))
        · unfold InR at r; simp at q; omega
        · unfold InR at r; simp at q; omega
        · unfold InR at r; simp at q; omega
        · refine kk _ _ ⟨_, _, rfl, rfl, fun p hp => ?_⟩
          rw [List.take_add_one, hg] at hp
          rcases List.mem_append.mp hp with hp | hp
          · exact hall p hp
          · have : p = w := by simpa using hp
            subst this
            unfold InR
            simp at q1 q2 q3
            omega
    rintro σ H6 ⟨z5, z6, rfl, rfl, hall⟩
    refine ⟨hq5, ?_⟩
    rw [List.length_map, List.take_length] at hall
    subst hR
    dsimp only
    have nw : (¬ (TT.Nodup ∧ BB.Nodup ∧ BB.length ≤ 6 ∧ 1 ≤ c)) → ∃ H3, U.Sub H3 H6 ∧ Q .non H3 := fun nr => ⟨H, s5, hN fun ⟨c', ts, bs, tw, e⟩ => nr (by
      obtain ⟨z1, z2⟩ := wy c' ts bs tw e
      have z0 := wc c' ts bs tw e
      rw [z1, z2, z0]
      exact ⟨tw.2.1.nd, tw.2.2.1.nd, tw.2.2.2.1, tw.1.1⟩)⟩
    have m1 : ∀ p ∈ TT, p ∈ SP.prs := fun p hp => by
      obtain ⟨q1, q2, q3⟩ := hall p (List.mem_append_left _ hp)
      exact SP.mem_prs q1 q2 (by omega)
    have m2 : ∀ p ∈ BB, p ∈ SP.prs := fun p hp => by
      obtain ⟨q1, q2, q3⟩ := hall p (List.mem_append_right _ hp)
      exact SP.mem_prs q1 q2 (by omega)
    have o1 := SP.once_eq (l := TT) (d := [])
    have o2 := SP.once_eq (l := BB) (d := [])
    refine seq_abs fun R hR => ?_
    walk_at "rd"
    refine ⟨TT, h15, m1, _, h15, ?_⟩
    rw [List.length_map]
    refine cif_by (fun q => nw fun r => ?_) (fun q1 => ?_)
    · have := o1.mpr ⟨r.1, fun _ _ z => nomatch z⟩; simp at q; simp at this; omega
    refine ⟨BB, h25, m2, _, h25, ?_⟩
    rw [List.length_map]
    refine cif_by (fun q => nw fun r => ?_) (fun q2 => ?_)
    · have := o2.mpr ⟨r.2.1, fun _ _ z => nomatch z⟩; simp at q; simp at this; omega
    refine ⟨_, h25, ?_⟩
    rw [List.length_map]
    refine cif_by (fun q => nw fun r => ?_) (fun q3 => ?_)
    · simp at q; omega
    refine cif_by (fun q => nw fun r => ?_) (fun q4 => ?_)
    · simp at q; omega
    have k1 := SP.once_len (d := []) (l := TT)
    have k2 := SP.once_len (d := []) (l := BB)
    have g1 : DM.Good c TT := ⟨(o1.mp (by simp at q1 k1 ⊢; omega)).1, fun p hp => hall p (List.mem_append_left _ hp)⟩
    have g2 : DM.Good c BB := ⟨(o2.mp (by simp at q2 k2 ⊢; omega)).1, fun p hp => hall p (List.mem_append_right _ hp)⟩
    have hc : 1 ≤ c ∧ c ≤ 6 := by simp at q4; omega
    have b6 : BB.length ≤ 6 := by simp at q3; omega
    have t15 := g1.len hc.2
    have b15 := g2.len hc.2
    subst hR
    refine seq_abs fun R hR => ?_
    walk_at "rd"
    refine ⟨TT, BB, h15, h25, hc, g1, g2, fun ts us pt st pu su => ?_⟩
    try walk_at "rd"
    have tw : Two c ts us := ⟨hc, g1.perm pt, g2.perm pu, by rw [pu.length_eq]; exact b6, st, su⟩
    by_cases e : wtx c ts us = L
    · refine cif_neg (by simp [e]) ?_
      subst hR
      walk_at "rd"
      refine ⟨TT, h15, g1.nd, fun p hp => by have := g1.lo p hp; omega, by omega, fun r3 T3 hr3 pT3 sT3 => ?_⟩
      have eT3 : T3 = ts := DM.perm_eq pT3 sT3 pt st
      subst eT3
      try walk_at "rd"
      refine ⟨BB, (put_ne (ne_none h25 hr3)).trans h25, g2.nd, fun p hp => by have := g2.lo p hp; omega, by omega, fun r4 B3 hr4 pB3 sB3 => ?_⟩
      have eB3 : B3 = us := DM.perm_eq pB3 sB3 pu su
      subst eB3
      have s8 := s5.put (o := .lst (T3.map prV)) (s5.free hr3)
      try walk_at "rd"
      exact ⟨small_size (by decide), H, s8.put (s8.free hr4), hQ c T3 B3 tw e.symm⟩
    · refine cif_pos (by simp [e]) ⟨H, s5, hN fun ⟨c', ts', bs', tw', e'⟩ => ?_⟩
      obtain ⟨z1, z2⟩ := wy c' ts' bs' tw' e'
      have z0 := wc c' ts' bs' tw' e'
      subst z0
      subst z1
      subst z2
      have q1 : ts = _ := DM.perm_eq pt st (List.Perm.refl _) tw'.2.2.2.2.1
      have q2 : us = _ := DM.perm_eq pu su (List.Perm.refl _) tw'.2.2.2.2.2
      rw [q1, q2] at e
      exact e e'.symm
  · exact h.elim

theorem G_law_right (T : Tx K mg t) : FnOk' P w K mg base CX0 7 t.a_law_right t.d_law_right ["_law_text"] sp_right := by
  refine okU (k := 6) T.F_law_right sc_law_right (fun vs H Q E h => by
    unfold sp_right at h
    split at h
    · rfl
    · exact h.elim) (fun cdv A outer s H E B hr => ⟨_, (qss_cons (qs_set (i := 1) sc_law_right.nd rfl (by first | exact Or.inl rfl | exact Or.inr rfl) (qe_call (G_law_drawing_of T) (hr.mono (by decide)) rfl T.g_law_drawing_of T.F_law_drawing_of.kp T.B_law_drawing_of (qa_cons (qv 0) qa_nil)))
    (qss_cons (qs_set (i := 2) sc_law_right.nd rfl (by first | exact Or.inl rfl | exact Or.inr rfl) qe_non)
    (qss_cons (qs_set (i := 3) sc_law_right.nd rfl (by first | exact Or.inl rfl | exact Or.inr rfl) qe_non)
    (qss_cons (qs_try (i := 4) (j := 2) ⟨rfl, rfl, rfl⟩ sc_law_right.nd rfl rfl rfl rfl T.x_DoingError rfl T.g_DoingError
    (qxs_one (qx_set (i := 3) sc_law_right.nd rfl (Or.inl rfl) (px_methO (px_call ⟨rfl, rfl, rfl⟩ (G_read T) (hr.mono (by decide)) rfl T.g_read T.F_read.kp T.B_read (qa_cons (qv 0) qa_nil)) T.cl_Drawing T.m_Drawing_shape (G_Drawing_shape T) (hr.mono (by decide)) T.B_Drawing_shape))))
    (qss_cons (qs_if (qt_cmp op_notN vr_notN (qv 1) qe_non (nomark _))
    (qss_one (qs_ret (qe_and (qe_cmp op_isN vr_isN (qv 2) qe_non (nomark _)) (qe_one (qe_call (G_law_same T 4) (hr.mono (by decide)) rfl T.g_law_same T.F_law_same.kp T.B_law_same (qa_cons (qv 3) (qa_cons (qv 1) qa_nil)))))))
    qss_nil)
    (qss_cons (qs_if (qt_bool (qw_or (qt_cmp op_isN vr_isN (qv 2) qe_non (nomark _)) (qw_or1 (qt_cmp (op_neU hr.units) vr_eq (qe_call (G_law_kinds T) (hr.mono (by decide)) rfl T.g_law_kinds T.F_law_kinds.kp T.B_law_kinds (qa_cons (qv 2) qa_nil)) (qe_lst (qa_cons qe_str qa_nil)) (nomark _)))))
    (qss_one (qs_ret qe_bl))
    qss_nil)
    (qss_one (qs_ret (qe_and (qe_call (G_law_whole T) (hr.mono (by decide)) rfl T.g_law_whole T.F_law_whole.kp T.B_law_whole (qa_cons (qe_at (qv 2) rfl) qa_nil)) (qe_one (qe_cmp (op_eqU hr.units) vr_eq (qe_at (qv 2) rfl) qe_int (nomark _)))))))))))), ?_⟩)
  intro vs H Q E h
  unfold sp_right at h
  split at h
  · rename_i z
    obtain ⟨L, rfl, hL, h⟩ := h
    refine seq_abs fun R hR => ?_
    walk_at "rd"
    by_cases hw : IsW L
    · obtain ⟨c, ts, bs, tw, e⟩ := id hw
      have t15 := tw.2.1.len tw.1.2
      have b15 := tw.2.2.1.len tw.1.2
      refine ⟨L, rfl, hL, fun c' ts' bs' tw' e' => ?_, fun n => absurd hw n⟩
      obtain ⟨rfl, rfl, rfl⟩ := w_uniq tw e tw' e'
      subst hR
      refine seq_abs fun R hR => ?_
      walk_at "rd"
      subst hR
      refine seq_abs fun R hR => ?_
      walk_at "rd"
      subst hR
      refine seq_abs fun R hR => ?_
      walk_at "rd"
      refine ⟨L, rfl, hL, fun c' ts' bs' tw' e' x dx H1 s1 hx => ?_, fun n => absurd hw n⟩
      obtain ⟨rfl, rfl, rfl⟩ := w_uniq tw e tw' e'
      refine ⟨⟨dx, _, hx, by rfl⟩, dx, _, _, _, hx, ?_⟩
      subst hR
      walk_at "rd"
      exact ⟨pl_D t15 b15, H, s1, h⟩
    · refine ⟨L, rfl, hL, fun c' ts' bs' tw' e' => absurd ⟨c', ts', bs', tw', e'⟩ hw, fun _ => ?_⟩
      subst hR
      refine seq_abs fun R hR => ?_
      walk_at "rd"
      subst hR
      refine seq_abs fun R hR => ?_
      walk_at "rd"
      subst hR
      refine seq_abs fun R hR => ?_
      walk_at "rd"
      refine ⟨L, rfl, hL, fun c' ts' bs' tw' e' => absurd ⟨c', ts', bs', tw', e'⟩ hw, fun _ H1 s1 => ⟨_, rfl, ⟨T.xi_NoText.c0, T.s_NoText⟩, fun a ha => ?_⟩⟩
      subst hR
      walk_at "rd"
      refine ⟨0, rfl, fun r hr => ⟨small_size (by decide), fun p hp => ?_⟩⟩
      have ea : put H1 a (exo t.a_NoText (some 0)) a = some (.excA t.a_NoText 0) := put_same
      have s2 := s1.put (o := exo t.a_NoText (some 0)) (s1.free ha)
      generalize put H1 a (exo t.a_NoText (some 0)) = H2 at *
      have ea2 := (put_ne (o := .lst [PV.str (Str.ofString "NoText")]) (ne_none ea hr)).trans ea
      have er : put H2 r (.lst [PV.str (Str.ofString "NoText")]) r = some (.lst [PV.str (Str.ofString "NoText")]) := put_same
      have s3 := s2.put (o := .lst [PV.str (Str.ofString "NoText")]) (s2.free hr)
      generalize put H2 r (.lst [PV.str (Str.ofString "NoText")]) = H3 at *
      refine ⟨_, (put_ne (ne_none er hp)).trans er, by decide +kernel, cif_neg (by simp [deqs, deq]) ?_⟩
      refine ⟨_, _, 0, (put_ne (ne_none ea2 hp)).trans ea2, T.xi_NoText, ?_⟩
      try walk_at "rd"
      exact ⟨_, _, 0, (put_ne (ne_none ea2 hp)).trans ea2, T.xi_NoText, H, s3.put (s3.free hp), h⟩
  · exact h.elim

theorem G_law_bent (T : Tx K mg t) : FnOk' P w K mg base CX0 1 t.a_law_bent t.d_law_bent ["_law_text", "_law_cell", "_law_more"] sp_bent := by
  refine okU (k := 0) T.F_law_bent sc_law_bent (fun vs H Q E h => by
    unfold sp_bent at h
    split at h
    · rfl
    · exact h.elim) (fun cdv A outer s H E B hr => ⟨_, (qss_cons (qs_set (i := 3) sc_law_bent.nd rfl (by first | exact Or.inl rfl | exact Or.inr rfl) qe_str)
    (qss_cons (qs_set (i := 4) sc_law_bent.nd rfl (by first | exact Or.inl rfl | exact Or.inr rfl) (qe_ixS (qv 3) (qe_mod (qe_fdiv (qv 1) qe_int) (qe_callB call_len_str vc_lenS rfl T.b_len PySem.boot_len (qa_cons (qv 3) qa_nil))) (fun _ _ => rfl)))
    (qss_cons (qs_if (qt_cmp (op_eqU hr.units) vr_eq (qe_mod (qe_fdiv (qv 1) qe_int) qe_int) qe_int (nomark _))
    (qss_one (qs_set (i := 4) sc_law_bent.nd rfl (by first | exact Or.inl rfl | exact Or.inr rfl) (qe_ixS qe_str (qe_mod (qe_fdiv (qv 1) qe_int) qe_int) (fun _ _ => rfl))))
    qss_nil)
    (qss_cons (qs_set (i := 5) sc_law_bent.nd rfl (by first | exact Or.inl rfl | exact Or.inr rfl) (qe_mod (qv 2) (qe_add (qe_callB call_len_str vc_lenS rfl T.b_len PySem.boot_len (qa_cons (qv 0) qa_nil)) qe_int)))
    (qss_cons (qs_if (qt_cmp op_lt vr_lt (qe_mod (qv 1) qe_int) qe_int (nomark _))
    (qss_one (qs_ret (qe_addS (qe_addS (qe_sliceS (qv 0) qo_none (qo_some (qv 5))) (qv 4)) (qe_sliceS (qv 0) (qo_some (qe_add (qv 5) (qe_mod (qv 1) qe_int))) qo_none))))
    qss_nil)
    (qss_cons (qs_if (qt_cmp (op_eqU hr.units) vr_eq (qe_mod (qv 1) qe_int) qe_int (nomark _))
    (qss_one (qs_ret (qe_addS (qe_sliceS (qv 0) qo_none (qo_some (qv 5))) (qe_sliceS (qv 0) (qo_some (qe_add (qv 5) qe_int)) qo_none))))
    qss_nil)
    (qss_cons (qs_if (qt_cmp (op_eqU hr.units) vr_eq (qe_mod (qv 1) qe_int) qe_int (nomark _))
    (qss_one (qs_ret (qe_sliceS (qv 0) qo_none (qo_some (qv 5)))))
    qss_nil)
    (qss_cons (qs_set (i := 6) sc_law_bent.nd rfl (by first | exact Or.inl rfl | exact Or.inr rfl) (qe_bmS PySem.F.plainAttrs_str PySem.F.slot_str_split PySem.F.type_str_split mt_split vm_split (qv 0) (qa_cons qe_str qa_nil)))
    (qss_cons (qs_set (i := 7) sc_law_bent.nd rfl (by first | exact Or.inl rfl | exact Or.inr rfl) (qe_mod (qv 2) (qe_callB call_len_seq vc_len rfl T.b_len PySem.boot_len (qa_cons (qv 6) qa_nil))))
    (qss_cons (qs_if (qt_cmp (op_eqU hr.units) vr_eq (qe_mod (qv 1) qe_int) qe_int (nomark _))
    (qss_one (qs_ret (qe_bmS PySem.F.plainAttrs_str PySem.F.slot_str_join PySem.F.type_str_join mt_join vm_join qe_str (qa_cons (qe_cat (qe_slice (qv 6) qo_none (qo_some (qv 7))) (qe_slice (qv 6) (qo_some (qe_sub (qv 7) qe_int)) qo_none)) qa_nil))))
    qss_nil)
    (qss_cons (qs_if (qt_cmp (op_eqU hr.units) vr_eq (qe_mod (qv 1) qe_int) qe_int (nomark _))
    (qss_one (qs_ret (qe_bmS PySem.F.plainAttrs_str PySem.F.slot_str_join PySem.F.type_str_join mt_join vm_join qe_str (qa_cons (qe_cat (qe_slice (qv 6) qo_none (qo_some qe_int)) (qe_rev1 (qe_slice (qv 6) (qo_some qe_int) qo_none) (qo_some (qe_neg qe_int)))) qa_nil))))
    qss_nil)
    (qss_cons (qs_if (qt_bool (qw_and (qt_cmp (op_eqU hr.units) vr_eq (qe_mod (qv 1) qe_int) qe_int (nomark _)) (qw_and1 (qt_cmp op_gt vr_gt (qv 7) qe_int (nomark _)))))
    (qss_one (qs_ret (qe_bmS PySem.F.plainAttrs_str PySem.F.slot_str_join PySem.F.type_str_join mt_join vm_join qe_str (qa_cons (qe_cat (qe_cat (qe_slice (qv 6) qo_none (qo_some (qv 7))) (qe_lst (qa_cons (qe_revS (qe_ix (qv 6) (qv 7) (fun _ _ => rfl)) (qo_some (qe_neg qe_int))) qa_nil))) (qe_slice (qv 6) (qo_some (qe_add (qv 7) qe_int)) qo_none)) qa_nil))))
    qss_nil)
    (qss_one (qs_ret (qe_addS (qe_addS (qe_addS (qe_addS (qv 0) qe_str) (qe_ixS qe_str (qe_mod (qv 2) qe_int) (fun _ _ => rfl))) (qe_ixS qe_str (qe_mod (qe_fdiv (qv 2) qe_int) qe_int) (fun _ _ => rfl))) (qe_ixS qe_str (qe_mod (qe_fdiv (qv 2) qe_int) qe_int) (fun _ _ => rfl))))))))))))))))), ?_⟩)
  intro vs H Q E h
  unfold sp_bent at h
  split at h
  · rename_i z c m
    obtain ⟨L, rfl, hl, h⟩ := h
    have hS := sg_len
    refine seq_abs fun R hR => ?_
    walk_at "rd"
    subst hR
    generalize (Str.ofString " !\"#$&'()*+,-./0123456789:;<=>?@ABCDEFGHIJKLMNOPQRSTUVWXYZ[\\]^_`abcdefghijklmnopqrstuvwxyz{|}~") = S at *
    refine seq_abs fun R hR => ?_
    walk_at "rd"
    have f0 := fm (a := c.fdiv 16) (b := (S.length : Int)) (by omega)
    obtain ⟨s0, e0⟩ := atI_ex (l := S.cps.toList) f0.1 f0.2
    refine ⟨cdvB (by decide) (by decide), line_ge (by omega), by omega, line_ge (by omega), s0, e0, ?_⟩
    subst hR
    refine seq_abs fun R hR => ?_
    walk_at "rd"
    have key : ∀ s1 : Nat, R { nx := fun x H => ∃ H3, U.Sub H3 H ∧ Q PV.non H3, rt := fun v H => ∃ H3, U.Sub H3 H ∧ Q v H3 } [some (.str (sT L)), some (.int c), some (.int m), some (.str S), some (.str (sT [s1])), none, none, none] H := fun s1 => by
      subst hR
      refine seq_abs fun R hR => ?_
      walk_at "rd"
      have fa := fm (a := m) (b := ((L.length : Nat) : Int) + 1) (by omega)
      refine ⟨line_ge (by omega), by omega, ?_⟩
      generalize m.fmod (((L.length : Nat) : Int) + 1) = at_ at *
      have c8 := fm (a := c) (b := 8) (by decide)
      have l1 := sl_to (L := L) fa.1 (by omega)
      have lt1 := len_take (n := at_.toNat) (L := L)
      subst hR
      refine seq_abs fun R hR => ?_
      walk_at "rd"
      refine ⟨by decide, cif_by (fun _ => ?_) (fun _ => ?_)⟩
      · refine ⟨line_ge (by omega), ?_⟩
        rw [l1, sl_from (by omega)]
        try walk_at "rd"
        have lt2 := len_drop (n := (at_ + c.fmod 8).toNat) (L := L)
        exact ⟨line_ge (by first | omega | (simp only [List.length_append, List.length_cons, List.length_nil]; omega)), by decide, line_ge (by first | omega | (simp only [List.length_append, List.length_cons, List.length_nil]; omega)), line_ge (by first | omega | (simp only [List.length_append, List.length_cons, List.length_nil]; omega)), H, Sub.refl _, h _ (by first | omega | (simp only [List.length_append, List.length_cons, List.length_nil]; omega))⟩
      subst hR
      refine seq_abs fun R hR => ?_
      walk_at "rd"
      refine ⟨by decide, cif_by (fun _ => ?_) (fun _ => ?_)⟩
      · refine ⟨line_ge (by first | omega | (simp only [List.length_append, List.length_cons, List.length_nil]; omega)), ?_⟩
        rw [l1, sl_from (by omega)]
        try walk_at "rd"
        have lt2 := len_drop (n := (at_ + 1).toNat) (L := L)
        exact ⟨line_ge (by first | omega | (simp only [List.length_append, List.length_cons, List.length_nil]; omega)), line_ge (by first | omega | (simp only [List.length_append, List.length_cons, List.length_nil]; omega)), H, Sub.refl _, h _ (by first | omega | (simp only [List.length_append, List.length_cons, List.length_nil]; omega))⟩
      subst hR
      refine seq_abs fun R hR => ?_
      walk_at "rd"
      refine ⟨by decide, cif_by (fun _ => ?_) (fun _ => ?_)⟩
      · rw [l1]
        exact ⟨line_ge (by first | omega | (simp only [List.length_append, List.length_cons, List.length_nil]; omega)), H, Sub.refl _, h _ (by first | omega | (simp only [List.length_append, List.length_cons, List.length_nil]; omega))⟩
      subst hR
      obtain ⟨a0, ys, es, eL, na, ny⟩ := split_ex L
      have sL : sm (a0 :: ys) ≤ 101 := by rw [sm_bf, ← eL]; omega
      refine seq_abs fun R hR => ?_
      walk_at "rd"
      refine ⟨rfl, line_ge (by omega), fun r hr => ?_⟩
      rw [es]
      generalize hz : a0 :: ys = zs at *
      have lz : 1 ≤ zs.length := by rw [← hz]; simp
      have lz2 : zs.length ≤ 101 := by have : zs.length ≤ sm zs := by unfold sm; omega
                                       omega
      have e1 : put H r (.lst ((zs.map sT).map PV.str)) r = some (.lst (zs.map sv)) := by rw [put_same]; congr 2; rw [List.map_map]; rfl
      have u1 := (Sub.refl H).put (o := .lst ((zs.map sT).map PV.str)) hr
      generalize put H r (.lst ((zs.map sT).map PV.str)) = H1 at *
      subst hR
      refine seq_abs fun R hR => ?_
      walk_at "rd"
      refine ⟨_, e1, by rw [List.length_map]; omega, ?_⟩
      rw [List.length_map]
      have fp := fm (a := m) (b := ((zs.length : Nat) : Int)) (by omega)
      generalize m.fmod ((zs.length : Nat) : Int) = pl at *
      subst hR
      refine seq_abs fun R hR => ?_
      walk_at "rd"
      refine ⟨by decide, cif_by (fun _ => ?_) (fun _ => ?_)⟩
      · skip
        refine ⟨_, e1, fun q1 hq1 => ?_⟩
        obtain ⟨m1, emm1, subm1⟩ := cut_sub sv zs none (some pl)
        rw [emm1]
        have e2 := (put_ne (o := .lst (m1.map sv)) (ne_none e1 hq1)).trans e1
        have kq1 : put H1 q1 (.lst (m1.map sv)) q1 = some (.lst (m1.map sv)) := put_same
        have u2 := u1.put (o := .lst (m1.map sv)) (u1.free hq1)
        generalize put H1 q1 (.lst (m1.map sv)) = H2 at *
        try walk_at "rd"
        refine ⟨_, e2, fun q2 hq2 => ?_⟩
        obtain ⟨m2, emm2, subm2⟩ := cut_sub sv zs (some (pl - 1)) none
        rw [emm2]
        have kq1b := (put_ne (o := .lst (m2.map sv)) (ne_none kq1 hq2)).trans kq1
        have kq2 : put H2 q2 (.lst (m2.map sv)) q2 = some (.lst (m2.map sv)) := put_same
        have u3 := u2.put (o := .lst (m2.map sv)) (u2.free hq2)
        generalize put H2 q2 (.lst (m2.map sv)) = H3 at *
        try walk_at "rd"
        have b1 := sm_sub subm1
        have b2 := sm_sub subm2
        have ll1 : m1.length ≤ zs.length := subm1.length_le
        have ll2 : m2.length ≤ zs.length := subm2.length_le
        refine ⟨_, _, kq1b, rfl, line_ge (by rw [List.length_map, List.length_map]; omega), fun q3 hq3 => ?_⟩
        try walk_at "rd"
        have ey : m1.map sv ++ m2.map sv = ((m1 ++ m2).map sT).map PV.str := by rw [List.map_map, ← List.map_append]; rfl
        have sms := sm_sum (m1 ++ m2)
        obtain ⟨M, eM, lM⟩ := join_ex (m1 ++ m2)
        rw [sm_app] at lM sms
        refine ⟨(m1 ++ m2).map sT, ey, by decide, by omega, H, u3.put (u3.free hq3), ?_⟩
        rw [eM]
        exact h M (by omega)
      subst hR
      refine seq_abs fun R hR => ?_
      walk_at "rd"
      refine ⟨by decide, cif_by (fun _ => ?_) (fun _ => ?_)⟩
      · skip
        refine ⟨_, e1, fun q1 hq1 => ?_⟩
        obtain ⟨m1, emm1, subm1⟩ := cut_sub sv zs none (some 1)
        rw [emm1]
        have e2 := (put_ne (o := .lst (m1.map sv)) (ne_none e1 hq1)).trans e1
        have kq1 : put H1 q1 (.lst (m1.map sv)) q1 = some (.lst (m1.map sv)) := put_same
        have u2 := u1.put (o := .lst (m1.map sv)) (u1.free hq1)
        generalize put H1 q1 (.lst (m1.map sv)) = H2 at *
        try walk_at "rd"
        refine ⟨_, e2, fun q2 hq2 => ?_⟩
        obtain ⟨m2, emm2, subm2⟩ := cut_sub sv zs (some 1) none
        rw [emm2]
        have kq1b := (put_ne (o := .lst (m2.map sv)) (ne_none kq1 hq2)).trans kq1
        have kq2 : put H2 q2 (.lst (m2.map sv)) q2 = some (.lst (m2.map sv)) := put_same
        have u3 := u2.put (o := .lst (m2.map sv)) (u2.free hq2)
        generalize put H2 q2 (.lst (m2.map sv)) = H3 at *
        try walk_at "rd"
        have b1 := sm_sub subm1
        have b2 := sm_sub subm2
        have ll1 : m1.length ≤ zs.length := subm1.length_le
        have ll2 : m2.length ≤ zs.length := subm2.length_le
        intro q3 hq3
        rw [← List.map_reverse]
        have u4 := u3.put (o := .lst (m2.reverse.map sv)) (u3.free hq3)
        refine ⟨_, _, (put_ne (ne_none kq1b hq3)).trans kq1b, rfl, line_ge (by rw [List.length_map, List.length_map, List.length_reverse]; omega), fun q4 hq4 => ?_⟩
        try walk_at "rd"
        have ey : m1.map sv ++ m2.reverse.map sv = ((m1 ++ m2.reverse).map sT).map PV.str := by rw [List.map_map, ← List.map_append]; rfl
        have sms := sm_sum (m1 ++ m2.reverse)
        obtain ⟨M, eM, lM⟩ := join_ex (m1 ++ m2.reverse)
        rw [sm_app, sm_rev] at lM sms
        refine ⟨(m1 ++ m2.reverse).map sT, ey, by decide, by omega, H, u4.put (u4.free hq4), ?_⟩
        rw [eM]
        exact h M (by omega)
      subst hR
      refine seq_abs fun R hR => ?_
      walk_at "rd"
      have last : R { nx := fun x H => ∃ H3, U.Sub H3 H ∧ Q PV.non H3, rt := fun v H => ∃ H3, U.Sub H3 H ∧ Q v H3 } [some (.str (sT L)), some (.int c), some (.int m), some (.str S), some (.str (sT [s1])), some (.int at_), some (.ref r), some (.int pl)] H1 := by
        subst hR
        walk_at "rd"
        have g1 := fm (a := m) (b := 6) (by decide)
        have g2 := fm (a := m.fdiv 6) (b := 2) (by decide)
        have g3 := fm (a := m.fdiv 12) (b := 6) (by decide)
        obtain ⟨x1, y1⟩ := atI_ex (l := (sT [97, 98, 99, 100, 101, 102]).cps.toList) g1.1 (by rw [sT_cps]; exact g1.2)
        obtain ⟨x2, y2⟩ := atI_ex (l := (sT [62, 126]).cps.toList) g2.1 (by rw [sT_cps]; exact g2.2)
        obtain ⟨x3, y3⟩ := atI_ex (l := (sT [97, 98, 99, 100, 101, 102]).cps.toList) g3.1 (by rw [sT_cps]; exact g3.2)
        exact ⟨line_ge (by first | omega | (simp only [List.length_append, List.length_cons, List.length_nil]; omega)), by decide, line_ge (by decide), x1, y1, line_ge (by first | omega | (simp only [List.length_append, List.length_cons, List.length_nil]; omega)), cdvB (by decide) (by decide), by decide, line_ge (by decide), x2, y2, line_ge (by first | omega | (simp only [List.length_append, List.length_cons, List.length_nil]; omega)), cdvB (by decide) (by decide), by decide, line_ge (by decide), x3, y3, line_ge (by first | omega | (simp only [List.length_append, List.length_cons, List.length_nil]; omega)), H, u1, h _ (by first | omega | (simp only [List.length_append, List.length_cons, List.length_nil]; omega))⟩
      refine ⟨by decide, cif_by (fun _ => cif_by (fun _ => ?_) (fun _ => last)) (fun _ => last)⟩
      refine ⟨_, e1, fun q1 hq1 => ?_⟩
      obtain ⟨m1, emm1, subm1⟩ := cut_sub sv zs none (some pl)
      rw [emm1]
      have e2 := (put_ne (o := .lst (m1.map sv)) (ne_none e1 hq1)).trans e1
      have kq1 : put H1 q1 (.lst (m1.map sv)) q1 = some (.lst (m1.map sv)) := put_same
      have u2 := u1.put (o := .lst (m1.map sv)) (u1.free hq1)
      generalize put H1 q1 (.lst (m1.map sv)) = H2 at *
      try walk_at "rd"
      refine ⟨_, e2, ?_⟩
      obtain ⟨w, hw, mw⟩ : ∃ w, atI (zs.map sv) pl = some (sv w) ∧ w ∈ zs := by
        have hlt : pl.toNat < zs.length := by omega
        unfold atI ixN
        rw [if_pos fp.1, if_pos (by rw [List.length_map]; omega)]
        exact ⟨zs[pl.toNat], by show (zs.map sv)[pl.toNat]? = _; rw [List.getElem?_map, List.getElem?_eq_getElem hlt]; rfl, List.getElem_mem hlt⟩
      rw [hw]
      try walk_at "rd"
      have lw := sm_le mw
      refine ⟨line_ge (by omega), fun y hy => ?_⟩
      obtain ⟨v, rfl, lv⟩ := str_ex y
      rw [sT_len] at hy
      refine ⟨small_size (by decide), fun q2 hq2 => ?_⟩
      have kq1b := (put_ne (o := .lst [PV.str (sT v)]) (ne_none kq1 hq2)).trans kq1
      have e3 := (put_ne (o := .lst [PV.str (sT v)]) (ne_none e2 hq2)).trans e2
      have u3 := u2.put (o := .lst [PV.str (sT v)]) (u2.free hq2)
      generalize put H2 q2 (.lst [PV.str (sT v)]) = H3 at *
      have b1 := sm_sub subm1
      have ll1 : m1.length ≤ zs.length := subm1.length_le
      refine ⟨_, _, kq1b, rfl, line_ge (by rw [List.length_map]; simp only [List.length_cons, List.length_nil]; omega), fun q3 hq3 => ?_⟩
      have em3 : m1.map sv ++ [PV.str (sT v)] = (m1 ++ [v]).map sv := by rw [List.map_append]; rfl
      rw [em3]
      have e4 := (put_ne (o := .lst ((m1 ++ [v]).map sv)) (ne_none e3 hq3)).trans e3
      have k3 : put H3 q3 (.lst ((m1 ++ [v]).map sv)) q3 = some (.lst ((m1 ++ [v]).map sv)) := put_same
      have u4 := u3.put (o := .lst ((m1 ++ [v]).map sv)) (u3.free hq3)
      generalize put H3 q3 (.lst ((m1 ++ [v]).map sv)) = H4 at *
      try walk_at "rd"
      refine ⟨_, e4, fun q4 hq4 => ?_⟩
      obtain ⟨m2, emm2, subm2⟩ := cut_sub sv zs (some (pl + 1)) none
      rw [emm2]
      have k3b := (put_ne (o := .lst (m2.map sv)) (ne_none k3 hq4)).trans k3
      have kq4 : put H4 q4 (.lst (m2.map sv)) q4 = some (.lst (m2.map sv)) := put_same
      have u5 := u4.put (o := .lst (m2.map sv)) (u4.free hq4)
      generalize put H4 q4 (.lst (m2.map sv)) = H5 at *
      try walk_at "rd"
      have b2 := sm_sub subm2
      have ll2 : m2.length ≤ zs.length := subm2.length_le
      refine ⟨_, _, k3b, rfl, line_ge (by rw [List.length_map, List.length_map, List.length_append]; simp only [List.length_cons, List.length_nil]; omega), fun q5 hq5 => ?_⟩
      try walk_at "rd"
      have sv1 : sm [v] = v.length + 1 := by simp [sm]
      have ey : (m1 ++ [v]).map sv ++ m2.map sv = (((m1 ++ [v]) ++ m2).map sT).map PV.str := by rw [List.map_map, ← List.map_append]; rfl
      have sms := sm_sum ((m1 ++ [v]) ++ m2)
      obtain ⟨M, eM, lM⟩ := join_ex ((m1 ++ [v]) ++ m2)
      rw [sm_app, sm_app] at lM sms
      refine ⟨((m1 ++ [v]) ++ m2).map sT, ey, by decide, by omega, H, u5.put (u5.free hq5), ?_⟩
      rw [eM]
      exact h M (by omega)
    have f18 := fm (a := c.fdiv 16) (b := 18) (by decide)
    obtain ⟨s2, e2⟩ := atI_ex (l := (sT [32, 97, 98, 99, 100, 101, 102, 103, 62, 126, 58, 48, 49, 50, 51, 52, 53, 54]).cps.toList) f18.1 (by rw [sT_cps]; exact f18.2)
    exact ⟨cdvB (by decide) (by decide), by decide, cif_by (fun _ => ⟨cdvB (by decide) (by decide), by decide, line_ge (by decide), s2, e2, key s2⟩) (fun _ => key s0)⟩
  · exact h.elim

theorem G_law (T : Tx K mg t) : FnOk' P w K mg base CX0 8 t.a_law t.d_law ["_law_script"] spL := by
  refine okU (k := 7) T.F_law sc_law (fun vs H Q E h => by
    unfold spL at h
    split at h
    · rfl
    · exact h.elim) (fun cdv A outer s H E B hr => ⟨_, (qss_cons (qs_asg (qe_call (G_law_pairs T) (hr.mono (by decide)) rfl T.g_law_pairs T.F_law_pairs.kp T.B_law_pairs (qa_cons (qv 0) (qa_cons qe_int qa_nil))) (qg_tup (n := 3) rfl (qgs_cons (qg_name (i := 1) sc_law.nd rfl (by first | exact Or.inl rfl | exact Or.inr rfl)) (qgs_cons (qg_name (i := 2) sc_law.nd rfl (by first | exact Or.inl rfl | exact Or.inr rfl)) (qgs_cons (qg_name (i := 3) sc_law.nd rfl (by first | exact Or.inl rfl | exact Or.inr rfl)) qgs_nil)))))
    (qss_cons (qs_set (i := 4) sc_law.nd rfl (by first | exact Or.inl rfl | exact Or.inr rfl) (qe_call (G_law_written T) (hr.mono (by decide)) rfl T.g_law_written T.F_law_written.kp T.B_law_written (qa_cons (qv 1) (qa_cons (qv 2) (qa_cons (qv 3) qa_nil)))))
    (qss_cons (qs_set (i := 5) sc_law.nd rfl (by first | exact Or.inl rfl | exact Or.inr rfl) (qe_call (G_law_cell_at T) (hr.mono (by decide)) rfl T.g_law_cell_at T.F_law_cell_at.kp T.B_law_cell_at (qa_cons (qv 0) (qa_cons qe_int qa_nil))))
    (qss_cons (qs_for PassesOwn.never rfl (qi_seq (qe_cat (qe_lst (qa_cons qe_int qa_nil)) (qe_slice (qv 0) (qo_some qe_int) (qo_some qe_int)))) (qg_name (i := 6) sc_law.nd rfl (by first | exact Or.inl rfl | exact Or.inr rfl))
    (qss_cons (qs_if (qt_not (qt_val (qe_call (G_law_right T) (hr.mono (by decide)) rfl T.g_law_right T.F_law_right.kp T.B_law_right (qa_cons (qe_call (G_law_bent T) (hr.mono (by decide)) rfl T.g_law_bent T.F_law_bent.kp T.B_law_bent (qa_cons (qv 4) (qa_cons (qv 6) (qa_cons (qv 5) qa_nil)))) qa_nil))))
      (qss_one (qs_ret qe_bl))
      qss_nil)
      (qss_one (qs_set (i := 5) sc_law.nd rfl (by first | exact Or.inl rfl | exact Or.inr rfl) (qe_fdiv (qv 6) qe_int)))))
    (qss_cons (qs_setC (i := 7) sc_law.nd rfl (by first | exact Or.inl rfl | exact Or.inr rfl) (N2 := ["_law_k"]) (nt := 1) (js := []) (cok (sc := defScope s_law) (by exact rfl) (by repeat (first | exact trivial | refine ⟨rfl, ?_⟩)) rfl (by rfl) (by decide +kernel) (by decide +kernel) (by rfl) (by decide +kernel) (by rfl) (by rfl)) rfl (qi_seq (qe_tup (qa_cons qe_int (qa_cons qe_int (qa_cons qe_int (qa_cons qe_int (qa_cons qe_int (qa_cons qe_int (qa_cons qe_int qa_nil))))))))) (fun s0 H0 fp ps => ⟨(qg_name (i := 0) (show List.Nodup (["_law_k"] : List Str) by decide +kernel) rfl (by first | exact Or.inl rfl | exact Or.inr rfl)), qif_nil, (qe_tup (qa_cons (qe_fdiv (qv 0) qe_int) (qa_cons (qe_add (qe_add qe_int (qe_fdiv (qv 0) qe_int)) (qe_mod (qv 0) qe_int)) qa_nil)))⟩))
    (qss_one (qs_ret (qe_and (qe_call (G_law_right T) (hr.mono (by decide)) rfl T.g_law_right T.F_law_right.kp T.B_law_right (qa_cons (qe_call (G_law_written T) (hr.mono (by decide)) rfl T.g_law_written T.F_law_written.kp T.B_law_written (qa_cons qe_int (qa_cons (qe_slice (qv 2) qo_none (qo_some qe_int)) (qa_cons (qv 7) qa_nil)))) qa_nil)) (qe_and (qe_call (G_law_right T) (hr.mono (by decide)) rfl T.g_law_right T.F_law_right.kp T.B_law_right (qa_cons (qv 4) qa_nil)) (qe_and (qe_call (G_law_right T) (hr.mono (by decide)) rfl T.g_law_right T.F_law_right.kp T.B_law_right (qa_cons qe_str qa_nil)) (qe_one (qe_call (G_law_right T) (hr.mono (by decide)) rfl T.g_law_right T.F_law_right.kp T.B_law_right (qa_cons qe_str qa_nil))))))))))))), ?_⟩)
  intro vs H Q E h
  unfold spL at h
  split at h
  · rename_i l
    obtain ⟨ns, rfl, hl, h⟩ := h
    refine seq_abs fun R hR => ?_
    walk_at "rd"
    refine ⟨⟨by decide, by decide⟩, ns, rfl, fun c ts bs p q hc gt gb l6 hp hq npq => ?_⟩
    try walk_at "rd"
    subst hR
    have t15 := gt.len hc.2
    have s3 : U.Sub H (put (put H p (.lst (ts.map prV))) q (.lst (bs.map prV))) := ((Sub.refl H).put hp).put hq
    have e1 : put (put H p (.lst (ts.map prV))) q (.lst (bs.map prV)) p = some (.lst (ts.map prV)) := (put_ne npq).trans put_same
    have e2 : put (put H p (.lst (ts.map prV))) q (.lst (bs.map prV)) q = some (.lst (bs.map prV)) := put_same
    generalize put (put H p (.lst (ts.map prV))) q (.lst (bs.map prV)) = H3 at *
    refine seq_abs fun R hR => ?_
    walk_at "rd"
    refine ⟨ts, bs, e1, e2, hc, gt, gb, fun T1 B1 pT sT1 pB sB1 => ?_⟩
    subst hR
    have lw := len_wtx (c := c) (ts := T1) (bs := B1)
    have lL : (wtx c T1 B1).length ≤ 100 := by rw [lw, pT.length_eq, pB.length_eq]; omega
    generalize wtx c T1 B1 = L at *
    refine seq_abs fun R hR => ?_
    walk_at "rd"
    refine ⟨⟨by decide, by decide⟩, ns, rfl, ?_⟩
    generalize ns.getD (2 : Int).toNat 0 = l0 at *
    subst hR
    refine seq_abs fun R1 hR1 => ?_
    walk_at "rd"
    refine ⟨small_size (by decide), fun p1 hp1 p2 hp2 => ?_⟩
    obtain ⟨ms, em, lm, _⟩ := cut_map PV.int ns (some 3) (some 63)
    have n12 : p1 ≠ p2 := fun e => by subst e; rw [put_same] at hp2; cases hp2
    rw [em]
    refine ⟨_, _, (put_ne n12).trans put_same, rfl, by rw [List.length_map]; exact line_ge (by simp only [List.length_cons, List.length_nil]; omega), fun qq hqq => ?_⟩
    have eL : [PV.int 0] ++ ms.map PV.int = (0 :: ms).map PV.int := rfl
    rw [eL]
    generalize (0 :: ms) = cs at *
    have h1 : H3 p1 = none := hp1
    have h2 : H3 p2 = none := by rw [put_ne n12.symm] at hp2; exact hp2
    have s0 : U.Sub H3 (put (put H3 p1 (.lst [PV.int 0])) p2 (.lst (ms.map PV.int))) := ((Sub.refl H3).put h1).put h2
    have s1 := (s0.put (o := .lst (cs.map PV.int)) (s0.free hqq))
    have hq0 : put (put (put H3 p1 (.lst [PV.int 0])) p2 (.lst (ms.map PV.int))) qq (.lst (cs.map PV.int)) qq = some (.lst (cs.map PV.int)) := put_same
    generalize put (put (put H3 p1 (.lst [PV.int 0])) p2 (.lst (ms.map PV.int))) qq (.lst (cs.map PV.int)) = H4 at *
    refine for_at (fun i σ H2 => ∃ (l1 : Int) (z6 z7 : Option PV), σ = [some (.fls (ns.map PV.int)), some (.int c), some (.ref p), some (.ref q), some (.str (sT L)), some (.int l1), z6, z7] ∧ H2 = H4) ?_ ?_ ⟨l0, _, _, rfl, rfl⟩
    · rintro σ H2 ⟨l1, z6, z7, rfl, rfl⟩
      refine ⟨hq0, ?_⟩
      have e1' := s1 _ _ e1
      have s4 := s3.trans s1
      subst hR1
      dsimp only
      refine seq_abs fun R hR => ?_
      walk_at "rd"
      refine ⟨small_size (by decide), fun acc hacc => ?_⟩
      refine comp_pure fS (fun _ => true) (fun σ => ∃ z, σ = [z]) (by decide) (fun _ => trivial) ?_ ?_ ⟨_, rfl⟩
      · rintro y hy l σ R' ⟨z, rfl⟩ hl kT kF
        obtain ⟨k, rfl⟩ : ∃ k, y = .int k := by
          simp only [List.mem_cons, List.not_mem_nil, or_false] at hy
          rcases hy with rfl | rfl | rfl | rfl | rfl | rfl | rfl <;> exact ⟨_, rfl⟩
        walk_at "rd"
        exact ⟨cdvB (by decide) (by decide), cdvB (by decide) (by decide), by decide, small_size (by decide), hl, by rw [put_put]; exact kT rfl _ ⟨_, rfl⟩⟩
      have es : (([PV.int 0, PV.int 1, PV.int 2, PV.int 3, PV.int 4, PV.int 5, PV.int 6].filter fun _ => true).map fS) = sev.map prV := rfl
      rw [es]
      have s5 := s4.put (o := .lst (sev.map prV)) (s4.free hacc)
      have e5 := (put_ne (o := .lst (sev.map prV)) (ne_none e1' hacc)).trans e1'
      have k5 : put H2 acc (.lst (sev.map prV)) acc = some (.lst (sev.map prV)) := put_same
      generalize put H2 acc (.lst (sev.map prV)) = H5 at *
      subst hR
      walk_at "rd"
      refine ⟨_, e5, fun q5 hq5 => ?_⟩
      rw [cut_z]
      try walk_at "rd"
      refine ⟨[], sev, rfl, (put_ne (ne_none k5 hq5)).trans k5, ⟨by decide, by decide⟩, ⟨by decide, by decide⟩, sev_good, fun T2 B2 pt st pb sb => ⟨_, rfl, ?_, L, rfl, by omega, [55, 58], rfl, by decide, [], rfl, by decide, H, s5.put (s5.free hq5), h⟩⟩
      have z1 := pt.length_eq
      have z2 := pb.length_eq
      rw [len_wtx, z1, z2]
      decide
    · rintro G i y σ H2 hy ⟨l1, z6, z7, rfl, rfl⟩ kk
      refine ⟨hq0, ?_⟩
      rw [List.getElem?_map] at hy
      cases hg : cs[i]? with
      | none => rw [hg] at hy; cases hy
      | some ce =>
        rw [hg] at hy
        cases hy
        simp only [vName, List.set_cons_zero, List.set_cons_succ]
        walk_at "rd"
        exact ⟨L, rfl, lL, fun M lM => ⟨M, rfl, lM, cdvB (by decide) (by decide), kk _ _ ⟨_, _, _, rfl, rfl⟩⟩⟩
  · exact h.elim

end
theorem txt_mk {K : PySem.W.Frag} {h : Heap} {mg : Str → Option Value} {f_NoText_init f_is_pair f_are_pairs f_Drawing_init f_Drawing_shape f_pair_text f_written f_pairs_with f_read f_law_cell_at f_law_whole f_law_mixed f_law_pairs f_law_written f_law_same f_law_kinds f_law_bent f_law_drawing_of f_law_right f_law k_BadPaper k_BadStep k_DoingError k_Drawing k_NoAnswer k_NoBow k_NoCount k_NoDoor k_NoFormula k_NoFraction k_NoName k_NoNest k_NoQuestion k_NoRoad k_NoRule k_NoSets k_NoShare k_NoText k_NoThinning k_NoTie k_NoValue k_NoWorld : Addr} (X : K.In h) (G : h.Ns mainGlobals mg)
    {tk_COUNTS : Tok}
    {tk_LETTERS : Tok}
    {od_NoText_init an_NoText_init od_is_pair an_is_pair od_are_pairs an_are_pairs od_Drawing_init an_Drawing_init od_Drawing_shape an_Drawing_shape od_pair_text an_pair_text od_written an_written od_pairs_with an_pairs_with od_read an_read od_law_cell_at an_law_cell_at od_law_whole an_law_whole od_law_mixed an_law_mixed od_law_pairs an_law_pairs od_law_written an_law_written od_law_same an_law_same od_law_kinds an_law_kinds od_law_bent an_law_bent od_law_drawing_of an_law_drawing_of od_law_right an_law_right od_law an_law : Option Addr} {sl_NoText_init sl_is_pair sl_are_pairs sl_Drawing_init sl_Drawing_shape sl_pair_text sl_written sl_pairs_with sl_read sl_law_cell_at sl_law_whole sl_law_mixed sl_law_pairs sl_law_written sl_law_same sl_law_kinds sl_law_bent sl_law_drawing_of sl_law_right sl_law : Array (Option Value)} {oc_NoText_init kV_NoText_init dc_NoText_init pm_NoText_init cd_NoText_init ct_NoText_init oc_is_pair kV_is_pair dc_is_pair pm_is_pair cd_is_pair ct_is_pair oc_are_pairs kV_are_pairs dc_are_pairs pm_are_pairs cd_are_pairs ct_are_pairs oc_Drawing_init kV_Drawing_init dc_Drawing_init pm_Drawing_init cd_Drawing_init ct_Drawing_init oc_Drawing_shape kV_Drawing_shape dc_Drawing_shape pm_Drawing_shape cd_Drawing_shape ct_Drawing_shape oc_pair_text kV_pair_text dc_pair_text pm_pair_text cd_pair_text ct_pair_text oc_written kV_written dc_written pm_written cd_written ct_written oc_pairs_with kV_pairs_with dc_pairs_with pm_pairs_with cd_pairs_with ct_pairs_with oc_read kV_read dc_read pm_read cd_read ct_read oc_law_cell_at kV_law_cell_at dc_law_cell_at pm_law_cell_at cd_law_cell_at ct_law_cell_at oc_law_whole kV_law_whole dc_law_whole pm_law_whole cd_law_whole ct_law_whole oc_law_mixed kV_law_mixed dc_law_mixed pm_law_mixed cd_law_mixed ct_law_mixed oc_law_pairs kV_law_pairs dc_law_pairs pm_law_pairs cd_law_pairs ct_law_pairs oc_law_written kV_law_written dc_law_written pm_law_written cd_law_written ct_law_written oc_law_same kV_law_same dc_law_same pm_law_same cd_law_same ct_law_same oc_law_kinds kV_law_kinds dc_law_kinds pm_law_kinds cd_law_kinds ct_law_kinds oc_law_bent kV_law_bent dc_law_bent pm_law_bent cd_law_bent ct_law_bent oc_law_drawing_of kV_law_drawing_of dc_law_drawing_of pm_law_drawing_of cd_law_drawing_of ct_law_drawing_of oc_law_right kV_law_right dc_law_right pm_law_right cd_law_right ct_law_right oc_law kV_law dc_law pm_law cd_law ct_law : Value}
    {tk_MOST_BOWS tk_MOST_NAMES : Tok}
    (C_BadPaper : PySem.W.nsIn K mainGlobals "BadPaper" = some (some (.ref k_BadPaper)))
    (C_BadStep : PySem.W.nsIn K mainGlobals "BadStep" = some (some (.ref k_BadStep)))
    (C_DoingError : PySem.W.nsIn K mainGlobals "DoingError" = some (some (.ref k_DoingError)))
    (C_Drawing : PySem.W.nsIn K mainGlobals "Drawing" = some (some (.ref k_Drawing)))
    (C_NoAnswer : PySem.W.nsIn K mainGlobals "NoAnswer" = some (some (.ref k_NoAnswer)))
    (C_NoBow : PySem.W.nsIn K mainGlobals "NoBow" = some (some (.ref k_NoBow)))
    (C_NoCount : PySem.W.nsIn K mainGlobals "NoCount" = some (some (.ref k_NoCount)))
    (C_NoDoor : PySem.W.nsIn K mainGlobals "NoDoor" = some (some (.ref k_NoDoor)))
    (C_NoFormula : PySem.W.nsIn K mainGlobals "NoFormula" = some (some (.ref k_NoFormula)))
    (C_NoFraction : PySem.W.nsIn K mainGlobals "NoFraction" = some (some (.ref k_NoFraction)))
    (C_NoName : PySem.W.nsIn K mainGlobals "NoName" = some (some (.ref k_NoName)))
    (C_NoNest : PySem.W.nsIn K mainGlobals "NoNest" = some (some (.ref k_NoNest)))
    (C_NoQuestion : PySem.W.nsIn K mainGlobals "NoQuestion" = some (some (.ref k_NoQuestion)))
    (C_NoRoad : PySem.W.nsIn K mainGlobals "NoRoad" = some (some (.ref k_NoRoad)))
    (C_NoRule : PySem.W.nsIn K mainGlobals "NoRule" = some (some (.ref k_NoRule)))
    (C_NoSets : PySem.W.nsIn K mainGlobals "NoSets" = some (some (.ref k_NoSets)))
    (C_NoShare : PySem.W.nsIn K mainGlobals "NoShare" = some (some (.ref k_NoShare)))
    (C_NoText : PySem.W.nsIn K mainGlobals "NoText" = some (some (.ref k_NoText)))
    (C_NoThinning : PySem.W.nsIn K mainGlobals "NoThinning" = some (some (.ref k_NoThinning)))
    (C_NoTie : PySem.W.nsIn K mainGlobals "NoTie" = some (some (.ref k_NoTie)))
    (C_NoValue : PySem.W.nsIn K mainGlobals "NoValue" = some (some (.ref k_NoValue)))
    (C_NoWorld : PySem.W.nsIn K mainGlobals "NoWorld" = some (some (.ref k_NoWorld)))
    (a_NoText_init : PySem.W.findIn K (.ref k_NoText) "__init__" = some (some (.ref f_NoText_init)))
    (i_NoText_init : PySem.W.isFn K (.ref f_NoText_init) = true)
    (l_NoText_init : K.lookup f_NoText_init = some ⟨oc_NoText_init, od_NoText_init, .func (PySem.W.fnOf "__init__" "NoText.__init__" (defArgs s_NoText_init) (defBody s_NoText_init) (defScope s_NoText_init) .none kV_NoText_init dc_NoText_init pm_NoText_init an_NoText_init cd_NoText_init ct_NoText_init), sl_NoText_init⟩)
    (c_NoText_init : PySem.W.codeIn K cd_NoText_init "NoText.__init__" = true)
    (k_NoText_init : PySem.W.keepIn K (.ref f_NoText_init) = true)
    (a_is_pair : PySem.W.nsIn K mainGlobals "is_pair" = some (some (.ref f_is_pair)))
    (l_is_pair : K.lookup f_is_pair = some ⟨oc_is_pair, od_is_pair, .func (PySem.W.fnOf "is_pair" "is_pair" (defArgs s_is_pair) (defBody s_is_pair) (defScope s_is_pair) .none kV_is_pair dc_is_pair pm_is_pair an_is_pair cd_is_pair ct_is_pair), sl_is_pair⟩)
    (c_is_pair : PySem.W.codeIn K cd_is_pair "is_pair" = true)
    (k_is_pair : PySem.W.keepIn K (.ref f_is_pair) = true)
    (a_are_pairs : PySem.W.nsIn K mainGlobals "are_pairs" = some (some (.ref f_are_pairs)))
    (l_are_pairs : K.lookup f_are_pairs = some ⟨oc_are_pairs, od_are_pairs, .func (PySem.W.fnOf "are_pairs" "are_pairs" (defArgs s_are_pairs) (defBody s_are_pairs) (defScope s_are_pairs) .none kV_are_pairs dc_are_pairs pm_are_pairs an_are_pairs cd_are_pairs ct_are_pairs), sl_are_pairs⟩)
    (c_are_pairs : PySem.W.codeIn K cd_are_pairs "are_pairs" = true)
    (k_are_pairs : PySem.W.keepIn K (.ref f_are_pairs) = true)
    (a_Drawing_init : PySem.W.findIn K (.ref k_Drawing) "__init__" = some (some (.ref f_Drawing_init)))
    (i_Drawing_init : PySem.W.isFn K (.ref f_Drawing_init) = true)
    (l_Drawing_init : K.lookup f_Drawing_init = some ⟨oc_Drawing_init, od_Drawing_init, .func (PySem.W.fnOf "__init__" "Drawing.__init__" (defArgs s_Drawing_init) (defBody s_Drawing_init) (defScope s_Drawing_init) .none kV_Drawing_init dc_Drawing_init pm_Drawing_init an_Drawing_init cd_Drawing_init ct_Drawing_init), sl_Drawing_init⟩)
    (c_Drawing_init : PySem.W.codeIn K cd_Drawing_init "Drawing.__init__" = true)
    (k_Drawing_init : PySem.W.keepIn K (.ref f_Drawing_init) = true)
    (a_Drawing_shape : PySem.W.findIn K (.ref k_Drawing) "shape" = some (some (.ref f_Drawing_shape)))
    (i_Drawing_shape : PySem.W.isFn K (.ref f_Drawing_shape) = true)
    (l_Drawing_shape : K.lookup f_Drawing_shape = some ⟨oc_Drawing_shape, od_Drawing_shape, .func (PySem.W.fnOf "shape" "Drawing.shape" (defArgs s_Drawing_shape) (defBody s_Drawing_shape) (defScope s_Drawing_shape) .none kV_Drawing_shape dc_Drawing_shape pm_Drawing_shape an_Drawing_shape cd_Drawing_shape ct_Drawing_shape), sl_Drawing_shape⟩)
    (c_Drawing_shape : PySem.W.codeIn K cd_Drawing_shape "Drawing.shape" = true)
    (k_Drawing_shape : PySem.W.keepIn K (.ref f_Drawing_shape) = true)
    (a_pair_text : PySem.W.nsIn K mainGlobals "pair_text" = some (some (.ref f_pair_text)))
    (l_pair_text : K.lookup f_pair_text = some ⟨oc_pair_text, od_pair_text, .func (PySem.W.fnOf "pair_text" "pair_text" (defArgs s_pair_text) (defBody s_pair_text) (defScope s_pair_text) .none kV_pair_text dc_pair_text pm_pair_text an_pair_text cd_pair_text ct_pair_text), sl_pair_text⟩)
    (c_pair_text : PySem.W.codeIn K cd_pair_text "pair_text" = true)
    (k_pair_text : PySem.W.keepIn K (.ref f_pair_text) = true)
    (a_written : PySem.W.nsIn K mainGlobals "written" = some (some (.ref f_written)))
    (l_written : K.lookup f_written = some ⟨oc_written, od_written, .func (PySem.W.fnOf "written" "written" (defArgs s_written) (defBody s_written) (defScope s_written) .none kV_written dc_written pm_written an_written cd_written ct_written), sl_written⟩)
    (c_written : PySem.W.codeIn K cd_written "written" = true)
    (k_written : PySem.W.keepIn K (.ref f_written) = true)
    (a_pairs_with : PySem.W.nsIn K mainGlobals "pairs_with" = some (some (.ref f_pairs_with)))
    (l_pairs_with : K.lookup f_pairs_with = some ⟨oc_pairs_with, od_pairs_with, .func (PySem.W.fnOf "pairs_with" "pairs_with" (defArgs s_pairs_with) (defBody s_pairs_with) (defScope s_pairs_with) .none kV_pairs_with dc_pairs_with pm_pairs_with an_pairs_with cd_pairs_with ct_pairs_with), sl_pairs_with⟩)
    (c_pairs_with : PySem.W.codeIn K cd_pairs_with "pairs_with" = true)
    (k_pairs_with : PySem.W.keepIn K (.ref f_pairs_with) = true)
    (a_read : PySem.W.nsIn K mainGlobals "read" = some (some (.ref f_read)))
    (l_read : K.lookup f_read = some ⟨oc_read, od_read, .func (PySem.W.fnOf "read" "read" (defArgs s_read) (defBody s_read) (defScope s_read) .none kV_read dc_read pm_read an_read cd_read ct_read), sl_read⟩)
    (c_read : PySem.W.codeIn K cd_read "read" = true)
    (k_read : PySem.W.keepIn K (.ref f_read) = true)
    (a_law_cell_at : PySem.W.nsIn K mainGlobals "_law_cell_at" = some (some (.ref f_law_cell_at)))
    (l_law_cell_at : K.lookup f_law_cell_at = some ⟨oc_law_cell_at, od_law_cell_at, .func (PySem.W.fnOf "_law_cell_at" "_law_cell_at" (defArgs s_law_cell_at) (defBody s_law_cell_at) (defScope s_law_cell_at) .none kV_law_cell_at dc_law_cell_at pm_law_cell_at an_law_cell_at cd_law_cell_at ct_law_cell_at), sl_law_cell_at⟩)
    (c_law_cell_at : PySem.W.codeIn K cd_law_cell_at "_law_cell_at" = true)
    (k_law_cell_at : PySem.W.keepIn K (.ref f_law_cell_at) = true)
    (a_law_whole : PySem.W.nsIn K mainGlobals "_law_whole" = some (some (.ref f_law_whole)))
    (l_law_whole : K.lookup f_law_whole = some ⟨oc_law_whole, od_law_whole, .func (PySem.W.fnOf "_law_whole" "_law_whole" (defArgs s_law_whole) (defBody s_law_whole) (defScope s_law_whole) .none kV_law_whole dc_law_whole pm_law_whole an_law_whole cd_law_whole ct_law_whole), sl_law_whole⟩)
    (c_law_whole : PySem.W.codeIn K cd_law_whole "_law_whole" = true)
    (k_law_whole : PySem.W.keepIn K (.ref f_law_whole) = true)
    (a_law_mixed : PySem.W.nsIn K mainGlobals "_law_mixed" = some (some (.ref f_law_mixed)))
    (l_law_mixed : K.lookup f_law_mixed = some ⟨oc_law_mixed, od_law_mixed, .func (PySem.W.fnOf "_law_mixed" "_law_mixed" (defArgs s_law_mixed) (defBody s_law_mixed) (defScope s_law_mixed) .none kV_law_mixed dc_law_mixed pm_law_mixed an_law_mixed cd_law_mixed ct_law_mixed), sl_law_mixed⟩)
    (c_law_mixed : PySem.W.codeIn K cd_law_mixed "_law_mixed" = true)
    (k_law_mixed : PySem.W.keepIn K (.ref f_law_mixed) = true)
    (a_law_pairs : PySem.W.nsIn K mainGlobals "_law_pairs" = some (some (.ref f_law_pairs)))
    (l_law_pairs : K.lookup f_law_pairs = some ⟨oc_law_pairs, od_law_pairs, .func (PySem.W.fnOf "_law_pairs" "_law_pairs" (defArgs s_law_pairs) (defBody s_law_pairs) (defScope s_law_pairs) .none kV_law_pairs dc_law_pairs pm_law_pairs an_law_pairs cd_law_pairs ct_law_pairs), sl_law_pairs⟩)
    (c_law_pairs : PySem.W.codeIn K cd_law_pairs "_law_pairs" = true)
    (k_law_pairs : PySem.W.keepIn K (.ref f_law_pairs) = true)
    (a_law_written : PySem.W.nsIn K mainGlobals "_law_written" = some (some (.ref f_law_written)))
    (l_law_written : K.lookup f_law_written = some ⟨oc_law_written, od_law_written, .func (PySem.W.fnOf "_law_written" "_law_written" (defArgs s_law_written) (defBody s_law_written) (defScope s_law_written) .none kV_law_written dc_law_written pm_law_written an_law_written cd_law_written ct_law_written), sl_law_written⟩)
    (c_law_written : PySem.W.codeIn K cd_law_written "_law_written" = true)
    (k_law_written : PySem.W.keepIn K (.ref f_law_written) = true)
    (a_law_same : PySem.W.nsIn K mainGlobals "_law_same" = some (some (.ref f_law_same)))
    (l_law_same : K.lookup f_law_same = some ⟨oc_law_same, od_law_same, .func (PySem.W.fnOf "_law_same" "_law_same" (defArgs s_law_same) (defBody s_law_same) (defScope s_law_same) .none kV_law_same dc_law_same pm_law_same an_law_same cd_law_same ct_law_same), sl_law_same⟩)
    (c_law_same : PySem.W.codeIn K cd_law_same "_law_same" = true)
    (k_law_same : PySem.W.keepIn K (.ref f_law_same) = true)
    (a_law_kinds : PySem.W.nsIn K mainGlobals "_law_kinds" = some (some (.ref f_law_kinds)))
    (l_law_kinds : K.lookup f_law_kinds = some ⟨oc_law_kinds, od_law_kinds, .func (PySem.W.fnOf "_law_kinds" "_law_kinds" (defArgs s_law_kinds) (defBody s_law_kinds) (defScope s_law_kinds) .none kV_law_kinds dc_law_kinds pm_law_kinds an_law_kinds cd_law_kinds ct_law_kinds), sl_law_kinds⟩)
    (c_law_kinds : PySem.W.codeIn K cd_law_kinds "_law_kinds" = true)
    (k_law_kinds : PySem.W.keepIn K (.ref f_law_kinds) = true)
    (a_law_bent : PySem.W.nsIn K mainGlobals "_law_bent" = some (some (.ref f_law_bent)))
    (l_law_bent : K.lookup f_law_bent = some ⟨oc_law_bent, od_law_bent, .func (PySem.W.fnOf "_law_bent" "_law_bent" (defArgs s_law_bent) (defBody s_law_bent) (defScope s_law_bent) .none kV_law_bent dc_law_bent pm_law_bent an_law_bent cd_law_bent ct_law_bent), sl_law_bent⟩)
    (c_law_bent : PySem.W.codeIn K cd_law_bent "_law_bent" = true)
    (k_law_bent : PySem.W.keepIn K (.ref f_law_bent) = true)
    (a_law_drawing_of : PySem.W.nsIn K mainGlobals "_law_drawing_of" = some (some (.ref f_law_drawing_of)))
    (l_law_drawing_of : K.lookup f_law_drawing_of = some ⟨oc_law_drawing_of, od_law_drawing_of, .func (PySem.W.fnOf "_law_drawing_of" "_law_drawing_of" (defArgs s_law_drawing_of) (defBody s_law_drawing_of) (defScope s_law_drawing_of) .none kV_law_drawing_of dc_law_drawing_of pm_law_drawing_of an_law_drawing_of cd_law_drawing_of ct_law_drawing_of), sl_law_drawing_of⟩)
    (c_law_drawing_of : PySem.W.codeIn K cd_law_drawing_of "_law_drawing_of" = true)
    (k_law_drawing_of : PySem.W.keepIn K (.ref f_law_drawing_of) = true)
    (a_law_right : PySem.W.nsIn K mainGlobals "_law_right" = some (some (.ref f_law_right)))
    (l_law_right : K.lookup f_law_right = some ⟨oc_law_right, od_law_right, .func (PySem.W.fnOf "_law_right" "_law_right" (defArgs s_law_right) (defBody s_law_right) (defScope s_law_right) .none kV_law_right dc_law_right pm_law_right an_law_right cd_law_right ct_law_right), sl_law_right⟩)
    (c_law_right : PySem.W.codeIn K cd_law_right "_law_right" = true)
    (k_law_right : PySem.W.keepIn K (.ref f_law_right) = true)
    (a_law : PySem.W.nsIn K mainGlobals "law" = some (some (.ref f_law)))
    (l_law : K.lookup f_law = some ⟨oc_law, od_law, .func (PySem.W.fnOf "law" "law" (defArgs s_law) (defBody s_law) (defScope s_law) .none kV_law dc_law pm_law an_law cd_law ct_law), sl_law⟩)
    (c_law : PySem.W.codeIn K cd_law "law" = true)
    (k_law : PySem.W.keepIn K (.ref f_law) = true)
    (pg_Drawing : PySem.W.plainGet K k_Drawing Str.empty = true)
    (hd_Drawing : PySem.W.hasDictIn K k_Drawing = true)
    (po_Drawing : PySem.W.plainOver K k_Drawing = true)
    (sa_Drawing : PySem.W.findIn K (.ref k_Drawing) "__setattr__" = some (some (.builtin "object.__setattr__")))
    (mk_Drawing : PySem.W.makesIn K k_Drawing = true)
    (kc_Drawing : PySem.W.keepIn K (.ref k_Drawing) = true)
    (xe_DoingError : PySem.W.excIn K k_DoingError [.type "ValueError", .type "Exception", .type "BaseException", .type "object"] "ValueError.__new__" = true)
    (xo_DoingError : PySem.W.mroIn K k_DoingError (.type "object") = some true)
    (xb_DoingError : PySem.W.mroIn K k_DoingError (.type "BaseException") = some true)
    (xg_DoingError : PySem.W.findIn K (.ref k_DoingError) "__getattribute__" = some (some (.builtin "BaseException.__getattribute__")))
    (xt_DoingError : PySem.W.findIn K (.ref k_DoingError) "__getattr__" = some none)
    (xc_DoingError : PySem.W.findIn K (.ref k_DoingError) "__class__" = some (some (.builtin "object.__class__")))
    (xe_NoBow : PySem.W.excIn K k_NoBow [.type "ValueError", .type "Exception", .type "BaseException", .type "object"] "ValueError.__new__" = true)
    (xo_NoBow : PySem.W.mroIn K k_NoBow (.type "object") = some true)
    (xb_NoBow : PySem.W.mroIn K k_NoBow (.type "BaseException") = some true)
    (xg_NoBow : PySem.W.findIn K (.ref k_NoBow) "__getattribute__" = some (some (.builtin "BaseException.__getattribute__")))
    (xt_NoBow : PySem.W.findIn K (.ref k_NoBow) "__getattr__" = some none)
    (xc_NoBow : PySem.W.findIn K (.ref k_NoBow) "__class__" = some (some (.builtin "object.__class__")))
    (xe_NoCount : PySem.W.excIn K k_NoCount [.type "ValueError", .type "Exception", .type "BaseException", .type "object"] "ValueError.__new__" = true)
    (xo_NoCount : PySem.W.mroIn K k_NoCount (.type "object") = some true)
    (xb_NoCount : PySem.W.mroIn K k_NoCount (.type "BaseException") = some true)
    (xg_NoCount : PySem.W.findIn K (.ref k_NoCount) "__getattribute__" = some (some (.builtin "BaseException.__getattribute__")))
    (xt_NoCount : PySem.W.findIn K (.ref k_NoCount) "__getattr__" = some none)
    (xc_NoCount : PySem.W.findIn K (.ref k_NoCount) "__class__" = some (some (.builtin "object.__class__")))
    (xe_NoTie : PySem.W.excIn K k_NoTie [.type "ValueError", .type "Exception", .type "BaseException", .type "object"] "ValueError.__new__" = true)
    (xo_NoTie : PySem.W.mroIn K k_NoTie (.type "object") = some true)
    (xb_NoTie : PySem.W.mroIn K k_NoTie (.type "BaseException") = some true)
    (xg_NoTie : PySem.W.findIn K (.ref k_NoTie) "__getattribute__" = some (some (.builtin "BaseException.__getattribute__")))
    (xt_NoTie : PySem.W.findIn K (.ref k_NoTie) "__getattr__" = some none)
    (xc_NoTie : PySem.W.findIn K (.ref k_NoTie) "__class__" = some (some (.builtin "object.__class__")))
    (s_NoCount : PySem.W.mroIn K k_NoCount (.ref k_DoingError) = some true)
    (s_NoTie : PySem.W.mroIn K k_NoTie (.ref k_DoingError) = some true)
    (s_NoBow : PySem.W.mroIn K k_NoBow (.ref k_DoingError) = some true)
    (s_NoText : PySem.W.mroIn K k_NoText (.ref k_DoingError) = some true)
    (kk_NoCount_ValueError : PySem.W.kitOne K (.ref k_NoCount) (.type "ValueError") = some true)
    (kk_NoCount_NoText : PySem.W.kitOne K (.ref k_NoCount) (.ref k_NoText) = some false)
    (kk_NoCount_BadStep : PySem.W.kitOne K (.ref k_NoCount) (.ref k_BadStep) = some false)
    (kk_NoCount_NoFormula : PySem.W.kitOne K (.ref k_NoCount) (.ref k_NoFormula) = some false)
    (kk_NoCount_NoQuestion : PySem.W.kitOne K (.ref k_NoCount) (.ref k_NoQuestion) = some false)
    (kk_NoCount_NoAnswer : PySem.W.kitOne K (.ref k_NoCount) (.ref k_NoAnswer) = some false)
    (kk_NoCount_NoThinning : PySem.W.kitOne K (.ref k_NoCount) (.ref k_NoThinning) = some false)
    (kk_NoCount_NoDoor : PySem.W.kitOne K (.ref k_NoCount) (.ref k_NoDoor) = some false)
    (kk_NoCount_NoNest : PySem.W.kitOne K (.ref k_NoCount) (.ref k_NoNest) = some false)
    (kk_NoCount_BadPaper : PySem.W.kitOne K (.ref k_NoCount) (.ref k_BadPaper) = some false)
    (kk_NoCount_NoRule : PySem.W.kitOne K (.ref k_NoCount) (.ref k_NoRule) = some false)
    (kk_NoCount_NoRoad : PySem.W.kitOne K (.ref k_NoCount) (.ref k_NoRoad) = some false)
    (kk_NoCount_NoShare : PySem.W.kitOne K (.ref k_NoCount) (.ref k_NoShare) = some false)
    (kk_NoCount_NoValue : PySem.W.kitOne K (.ref k_NoCount) (.ref k_NoValue) = some false)
    (kk_NoCount_NoWorld : PySem.W.kitOne K (.ref k_NoCount) (.ref k_NoWorld) = some false)
    (kk_NoCount_NoSets : PySem.W.kitOne K (.ref k_NoCount) (.ref k_NoSets) = some false)
    (kk_NoCount_NoName : PySem.W.kitOne K (.ref k_NoCount) (.ref k_NoName) = some false)
    (kk_NoCount_NoBow : PySem.W.kitOne K (.ref k_NoCount) (.ref k_NoBow) = some false)
    (kk_NoCount_NoTie : PySem.W.kitOne K (.ref k_NoCount) (.ref k_NoTie) = some false)
    (kk_NoCount_NoCount : PySem.W.kitOne K (.ref k_NoCount) (.ref k_NoCount) = some true)
    (kk_NoCount_NoFraction : PySem.W.kitOne K (.ref k_NoCount) (.ref k_NoFraction) = some false)
    (kk_NoTie_ValueError : PySem.W.kitOne K (.ref k_NoTie) (.type "ValueError") = some true)
    (kk_NoTie_NoText : PySem.W.kitOne K (.ref k_NoTie) (.ref k_NoText) = some false)
    (kk_NoTie_BadStep : PySem.W.kitOne K (.ref k_NoTie) (.ref k_BadStep) = some false)
    (kk_NoTie_NoFormula : PySem.W.kitOne K (.ref k_NoTie) (.ref k_NoFormula) = some false)
    (kk_NoTie_NoQuestion : PySem.W.kitOne K (.ref k_NoTie) (.ref k_NoQuestion) = some false)
    (kk_NoTie_NoAnswer : PySem.W.kitOne K (.ref k_NoTie) (.ref k_NoAnswer) = some false)
    (kk_NoTie_NoThinning : PySem.W.kitOne K (.ref k_NoTie) (.ref k_NoThinning) = some false)
    (kk_NoTie_NoDoor : PySem.W.kitOne K (.ref k_NoTie) (.ref k_NoDoor) = some false)
    (kk_NoTie_NoNest : PySem.W.kitOne K (.ref k_NoTie) (.ref k_NoNest) = some false)
    (kk_NoTie_BadPaper : PySem.W.kitOne K (.ref k_NoTie) (.ref k_BadPaper) = some false)
    (kk_NoTie_NoRule : PySem.W.kitOne K (.ref k_NoTie) (.ref k_NoRule) = some false)
    (kk_NoTie_NoRoad : PySem.W.kitOne K (.ref k_NoTie) (.ref k_NoRoad) = some false)
    (kk_NoTie_NoShare : PySem.W.kitOne K (.ref k_NoTie) (.ref k_NoShare) = some false)
    (kk_NoTie_NoValue : PySem.W.kitOne K (.ref k_NoTie) (.ref k_NoValue) = some false)
    (kk_NoTie_NoWorld : PySem.W.kitOne K (.ref k_NoTie) (.ref k_NoWorld) = some false)
    (kk_NoTie_NoSets : PySem.W.kitOne K (.ref k_NoTie) (.ref k_NoSets) = some false)
    (kk_NoTie_NoName : PySem.W.kitOne K (.ref k_NoTie) (.ref k_NoName) = some false)
    (kk_NoTie_NoBow : PySem.W.kitOne K (.ref k_NoTie) (.ref k_NoBow) = some false)
    (kk_NoTie_NoTie : PySem.W.kitOne K (.ref k_NoTie) (.ref k_NoTie) = some true)
    (kk_NoTie_NoCount : PySem.W.kitOne K (.ref k_NoTie) (.ref k_NoCount) = some false)
    (kk_NoTie_NoFraction : PySem.W.kitOne K (.ref k_NoTie) (.ref k_NoFraction) = some false)
    (kk_NoBow_ValueError : PySem.W.kitOne K (.ref k_NoBow) (.type "ValueError") = some true)
    (kk_NoBow_NoText : PySem.W.kitOne K (.ref k_NoBow) (.ref k_NoText) = some false)
    (kk_NoBow_BadStep : PySem.W.kitOne K (.ref k_NoBow) (.ref k_BadStep) = some false)
    (kk_NoBow_NoFormula : PySem.W.kitOne K (.ref k_NoBow) (.ref k_NoFormula) = some false)
    (kk_NoBow_NoQuestion : PySem.W.kitOne K (.ref k_NoBow) (.ref k_NoQuestion) = some false)
    (kk_NoBow_NoAnswer : PySem.W.kitOne K (.ref k_NoBow) (.ref k_NoAnswer) = some false)
    (kk_NoBow_NoThinning : PySem.W.kitOne K (.ref k_NoBow) (.ref k_NoThinning) = some false)
    (kk_NoBow_NoDoor : PySem.W.kitOne K (.ref k_NoBow) (.ref k_NoDoor) = some false)
    (kk_NoBow_NoNest : PySem.W.kitOne K (.ref k_NoBow) (.ref k_NoNest) = some false)
    (kk_NoBow_BadPaper : PySem.W.kitOne K (.ref k_NoBow) (.ref k_BadPaper) = some false)
    (kk_NoBow_NoRule : PySem.W.kitOne K (.ref k_NoBow) (.ref k_NoRule) = some false)
    (kk_NoBow_NoRoad : PySem.W.kitOne K (.ref k_NoBow) (.ref k_NoRoad) = some false)
    (kk_NoBow_NoShare : PySem.W.kitOne K (.ref k_NoBow) (.ref k_NoShare) = some false)
    (kk_NoBow_NoValue : PySem.W.kitOne K (.ref k_NoBow) (.ref k_NoValue) = some false)
    (kk_NoBow_NoWorld : PySem.W.kitOne K (.ref k_NoBow) (.ref k_NoWorld) = some false)
    (kk_NoBow_NoSets : PySem.W.kitOne K (.ref k_NoBow) (.ref k_NoSets) = some false)
    (kk_NoBow_NoName : PySem.W.kitOne K (.ref k_NoBow) (.ref k_NoName) = some false)
    (kk_NoBow_NoBow : PySem.W.kitOne K (.ref k_NoBow) (.ref k_NoBow) = some true)
    (kk_NoBow_NoTie : PySem.W.kitOne K (.ref k_NoBow) (.ref k_NoTie) = some false)
    (kk_NoBow_NoCount : PySem.W.kitOne K (.ref k_NoBow) (.ref k_NoCount) = some false)
    (kk_NoBow_NoFraction : PySem.W.kitOne K (.ref k_NoBow) (.ref k_NoFraction) = some false)
    (kk_NoText_ValueError : PySem.W.kitOne K (.ref k_NoText) (.type "ValueError") = some true)
    (kk_NoText_NoText : PySem.W.kitOne K (.ref k_NoText) (.ref k_NoText) = some true)
    (kk_NoText_BadStep : PySem.W.kitOne K (.ref k_NoText) (.ref k_BadStep) = some false)
    (kk_NoText_NoFormula : PySem.W.kitOne K (.ref k_NoText) (.ref k_NoFormula) = some false)
    (kk_NoText_NoQuestion : PySem.W.kitOne K (.ref k_NoText) (.ref k_NoQuestion) = some false)
    (kk_NoText_NoAnswer : PySem.W.kitOne K (.ref k_NoText) (.ref k_NoAnswer) = some false)
    (kk_NoText_NoThinning : PySem.W.kitOne K (.ref k_NoText) (.ref k_NoThinning) = some false)
    (kk_NoText_NoDoor : PySem.W.kitOne K (.ref k_NoText) (.ref k_NoDoor) = some false)
    (kk_NoText_NoNest : PySem.W.kitOne K (.ref k_NoText) (.ref k_NoNest) = some false)
    (kk_NoText_BadPaper : PySem.W.kitOne K (.ref k_NoText) (.ref k_BadPaper) = some false)
    (kk_NoText_NoRule : PySem.W.kitOne K (.ref k_NoText) (.ref k_NoRule) = some false)
    (kk_NoText_NoRoad : PySem.W.kitOne K (.ref k_NoText) (.ref k_NoRoad) = some false)
    (kk_NoText_NoShare : PySem.W.kitOne K (.ref k_NoText) (.ref k_NoShare) = some false)
    (kk_NoText_NoValue : PySem.W.kitOne K (.ref k_NoText) (.ref k_NoValue) = some false)
    (kk_NoText_NoWorld : PySem.W.kitOne K (.ref k_NoText) (.ref k_NoWorld) = some false)
    (kk_NoText_NoSets : PySem.W.kitOne K (.ref k_NoText) (.ref k_NoSets) = some false)
    (kk_NoText_NoName : PySem.W.kitOne K (.ref k_NoText) (.ref k_NoName) = some false)
    (kk_NoText_NoBow : PySem.W.kitOne K (.ref k_NoText) (.ref k_NoBow) = some false)
    (kk_NoText_NoTie : PySem.W.kitOne K (.ref k_NoText) (.ref k_NoTie) = some false)
    (kk_NoText_NoCount : PySem.W.kitOne K (.ref k_NoText) (.ref k_NoCount) = some false)
    (kk_NoText_NoFraction : PySem.W.kitOne K (.ref k_NoText) (.ref k_NoFraction) = some false)
    (z_ValueError : PySem.W.nsIn K mainGlobals "ValueError" = some none)
    (z_all : PySem.W.nsIn K mainGlobals "all" = some none)
    (z_bool : PySem.W.nsIn K mainGlobals "bool" = some none)
    (z_int : PySem.W.nsIn K mainGlobals "int" = some none)
    (z_isinstance : PySem.W.nsIn K mainGlobals "isinstance" = some none)
    (z_len : PySem.W.nsIn K mainGlobals "len" = some none)
    (z_list : PySem.W.nsIn K mainGlobals "list" = some none)
    (z_range : PySem.W.nsIn K mainGlobals "range" = some none)
    (z_set : PySem.W.nsIn K mainGlobals "set" = some none)
    (z_sorted : PySem.W.nsIn K mainGlobals "sorted" = some none)
    (z_str : PySem.W.nsIn K mainGlobals "str" = some none)
    (z_tuple : PySem.W.nsIn K mainGlobals "tuple" = some none)
    (v_MOST_BOWS : PySem.W.nsIn K mainGlobals "MOST_BOWS" = some (some (.int 6 tk_MOST_BOWS)))
    (v_MOST_NAMES : PySem.W.nsIn K mainGlobals "MOST_NAMES" = some (some (.int 6 tk_MOST_NAMES)))
    (n_Drawing_bows : PySem.W.findIn K (.ref k_Drawing) "bows" = some none)
    (n_Drawing_count : PySem.W.findIn K (.ref k_Drawing) "count" = some none)
    (n_Drawing_ties : PySem.W.findIn K (.ref k_Drawing) "ties" = some none)
    (v_COUNTS : PySem.W.nsIn K mainGlobals "COUNTS" = some (some (.str "0123456" tk_COUNTS)))
    (v_LETTERS : PySem.W.nsIn K mainGlobals "LETTERS" = some (some (.str "abcdef" tk_LETTERS)))
    (ye : excI K k_NoText = true)
    (yo : PySem.W.mroIn K k_NoText (.type "object") = some true)
    (yb : PySem.W.mroIn K k_NoText (.type "BaseException") = some true)
    (yg : PySem.W.findIn K (.ref k_NoText) "__getattribute__" = some (some (.builtin "BaseException.__getattribute__")))
    (yt : PySem.W.findIn K (.ref k_NoText) "__getattr__" = some none)
    (yc : PySem.W.findIn K (.ref k_NoText) "__class__" = some (some (.builtin "object.__class__")))
    (ys : PySem.W.findIn K (.ref k_NoText) "__setattr__" = some (some (.builtin "object.__setattr__")))
    (yn : PySem.W.findIn K (.ref k_NoText) "at" = some none)
    (yk : PySem.W.keepIn K (.ref k_NoText) = true)
    (yr : PySem.W.readsIn K k_DoingError (.type "type") = true)
    (yf : PySem.W.findCls K (.ref k_DoingError) (.type "type") "__init__" = some (.val (.builtin "ValueError.__init__")))
    (yz : PySem.W.specialIn K (.ref k_DoingError) "__getattribute__" = some (some (.builtin "type.__getattribute__"))) :
    ∃ t : Ad, Tx K mg t ∧ t.a_law = f_law ∧ ∀ (s : Shared) (v : Value), BindsTo s t.d_law ⟨[v], []⟩ [("_law_script", v)] := by
  have F_NoText_init := fun_mk (st := s_NoText_init) l_NoText_init c_NoText_init k_NoText_init
  have B_NoText_init := F_NoText_init.binds (ps := ["self", "at"]) fun _ _ _ _ _ _ us hl => len2 (P := fun us => bindArgs _ ⟨us, []⟩ = pure (List.zip _ us)) (fun _ _ => rfl) us hl
  have F_is_pair := fun_mk (st := s_is_pair) l_is_pair c_is_pair k_is_pair
  have B_is_pair := F_is_pair.binds (ps := ["count", "pair"]) fun _ _ _ _ _ _ us hl => len2 (P := fun us => bindArgs _ ⟨us, []⟩ = pure (List.zip _ us)) (fun _ _ => rfl) us hl
  have F_are_pairs := fun_mk (st := s_are_pairs) l_are_pairs c_are_pairs k_are_pairs
  have B_are_pairs := F_are_pairs.binds (ps := ["count", "pairs"]) fun _ _ _ _ _ _ us hl => len2 (P := fun us => bindArgs _ ⟨us, []⟩ = pure (List.zip _ us)) (fun _ _ => rfl) us hl
  have F_Drawing_init := fun_mk (st := s_Drawing_init) l_Drawing_init c_Drawing_init k_Drawing_init
  have B_Drawing_init := F_Drawing_init.binds (ps := ["self", "count", "ties", "bows"]) fun _ _ _ _ _ _ us hl => len4 (P := fun us => bindArgs _ ⟨us, []⟩ = pure (List.zip _ us)) (fun _ _ _ _ => rfl) us hl
  have F_Drawing_shape := fun_mk (st := s_Drawing_shape) l_Drawing_shape c_Drawing_shape k_Drawing_shape
  have B_Drawing_shape := F_Drawing_shape.binds (ps := ["self"]) fun _ _ _ _ _ _ us hl => len1 (P := fun us => bindArgs _ ⟨us, []⟩ = pure (List.zip _ us)) (fun _ => rfl) us hl
  have F_pair_text := fun_mk (st := s_pair_text) l_pair_text c_pair_text k_pair_text
  have B_pair_text := F_pair_text.binds (ps := ["pair", "sign"]) fun _ _ _ _ _ _ us hl => len2 (P := fun us => bindArgs _ ⟨us, []⟩ = pure (List.zip _ us)) (fun _ _ => rfl) us hl
  have F_written := fun_mk (st := s_written) l_written c_written k_written
  have B_written := F_written.binds (ps := ["drawing"]) fun _ _ _ _ _ _ us hl => len1 (P := fun us => bindArgs _ ⟨us, []⟩ = pure (List.zip _ us)) (fun _ => rfl) us hl
  have F_pairs_with := fun_mk (st := s_pairs_with) l_pairs_with c_pairs_with k_pairs_with
  have B_pairs_with := F_pairs_with.binds (ps := ["parts", "sign"]) fun _ _ _ _ _ _ us hl => len2 (P := fun us => bindArgs _ ⟨us, []⟩ = pure (List.zip _ us)) (fun _ _ => rfl) us hl
  have F_read := fun_mk (st := s_read) l_read c_read k_read
  have B_read := F_read.binds (ps := ["text"]) fun _ _ _ _ _ _ us hl => len1 (P := fun us => bindArgs _ ⟨us, []⟩ = pure (List.zip _ us)) (fun _ => rfl) us hl
  have F_law_cell_at := fun_mk (st := s_law_cell_at) l_law_cell_at c_law_cell_at k_law_cell_at
  have B_law_cell_at := F_law_cell_at.binds (ps := ["_law_script", "_law_k"]) fun _ _ _ _ _ _ us hl => len2 (P := fun us => bindArgs _ ⟨us, []⟩ = pure (List.zip _ us)) (fun _ _ => rfl) us hl
  have F_law_whole := fun_mk (st := s_law_whole) l_law_whole c_law_whole k_law_whole
  have B_law_whole := F_law_whole.binds (ps := ["_law_found"]) fun _ _ _ _ _ _ us hl => len1 (P := fun us => bindArgs _ ⟨us, []⟩ = pure (List.zip _ us)) (fun _ => rfl) us hl
  have F_law_mixed := fun_mk (st := s_law_mixed) l_law_mixed c_law_mixed k_law_mixed
  have B_law_mixed := F_law_mixed.binds (ps := ["_law_cell", "_law_many"]) fun _ _ _ _ _ _ us hl => len2 (P := fun us => bindArgs _ ⟨us, []⟩ = pure (List.zip _ us)) (fun _ _ => rfl) us hl
  have F_law_pairs := fun_mk (st := s_law_pairs) l_law_pairs c_law_pairs k_law_pairs
  have B_law_pairs := F_law_pairs.binds (ps := ["_law_script", "_law_at"]) fun _ _ _ _ _ _ us hl => len2 (P := fun us => bindArgs _ ⟨us, []⟩ = pure (List.zip _ us)) (fun _ _ => rfl) us hl
  have F_law_written := fun_mk (st := s_law_written) l_law_written c_law_written k_law_written
  have B_law_written := F_law_written.binds (ps := ["_law_count", "_law_ties", "_law_bows"]) fun _ _ _ _ _ _ us hl => len3 (P := fun us => bindArgs _ ⟨us, []⟩ = pure (List.zip _ us)) (fun _ _ _ => rfl) us hl
  have F_law_same := fun_mk (st := s_law_same) l_law_same c_law_same k_law_same
  have B_law_same := F_law_same.binds (ps := ["_law_found", "_law_due"]) fun _ _ _ _ _ _ us hl => len2 (P := fun us => bindArgs _ ⟨us, []⟩ = pure (List.zip _ us)) (fun _ _ => rfl) us hl
  have F_law_kinds := fun_mk (st := s_law_kinds) l_law_kinds c_law_kinds k_law_kinds
  have B_law_kinds := F_law_kinds.binds (ps := ["_law_e"]) fun _ _ _ _ _ _ us hl => len1 (P := fun us => bindArgs _ ⟨us, []⟩ = pure (List.zip _ us)) (fun _ => rfl) us hl
  have F_law_bent := fun_mk (st := s_law_bent) l_law_bent c_law_bent k_law_bent
  have B_law_bent := F_law_bent.binds (ps := ["_law_text", "_law_cell", "_law_more"]) fun _ _ _ _ _ _ us hl => len3 (P := fun us => bindArgs _ ⟨us, []⟩ = pure (List.zip _ us)) (fun _ _ _ => rfl) us hl
  have F_law_drawing_of := fun_mk (st := s_law_drawing_of) l_law_drawing_of c_law_drawing_of k_law_drawing_of
  have B_law_drawing_of := F_law_drawing_of.binds (ps := ["_law_text"]) fun _ _ _ _ _ _ us hl => len1 (P := fun us => bindArgs _ ⟨us, []⟩ = pure (List.zip _ us)) (fun _ => rfl) us hl
  have F_law_right := fun_mk (st := s_law_right) l_law_right c_law_right k_law_right
  have B_law_right := F_law_right.binds (ps := ["_law_text"]) fun _ _ _ _ _ _ us hl => len1 (P := fun us => bindArgs _ ⟨us, []⟩ = pure (List.zip _ us)) (fun _ => rfl) us hl
  have F_law := fun_mk (st := s_law) l_law c_law k_law
  have B_law := F_law.binds (ps := ["_law_script"]) fun _ _ _ _ _ _ us hl => len1 (P := fun us => bindArgs _ ⟨us, []⟩ = pure (List.zip _ us)) (fun _ => rfl) us hl
  exact ⟨⟨f_NoText_init, _, f_is_pair, _, f_are_pairs, _, f_Drawing_init, _, f_Drawing_shape, _, f_pair_text, _, f_written, _, f_pairs_with, _, f_read, _, f_law_cell_at, _, f_law_whole, _, f_law_mixed, _, f_law_pairs, _, f_law_written, _, f_law_same, _, f_law_kinds, _, f_law_bent, _, f_law_drawing_of, _, f_law_right, _, f_law, _, k_BadPaper, k_BadStep, k_DoingError, k_Drawing, k_NoAnswer, k_NoBow, k_NoCount, k_NoDoor, k_NoFormula, k_NoFraction, k_NoName, k_NoNest, k_NoQuestion, k_NoRoad, k_NoRule, k_NoSets, k_NoShare, k_NoText, k_NoThinning, k_NoTie, k_NoValue, k_NoWorld⟩, ⟨F_NoText_init,
    B_NoText_init,
    F_is_pair,
    B_is_pair,
    PySem.W.mg_of X G a_is_pair,
    F_are_pairs,
    B_are_pairs,
    PySem.W.mg_of X G a_are_pairs,
    F_Drawing_init,
    B_Drawing_init,
    F_Drawing_shape,
    B_Drawing_shape,
    ⟨a_Drawing_shape, i_Drawing_shape, k_Drawing_shape⟩,
    F_pair_text,
    B_pair_text,
    PySem.W.mg_of X G a_pair_text,
    F_written,
    B_written,
    PySem.W.mg_of X G a_written,
    F_pairs_with,
    B_pairs_with,
    PySem.W.mg_of X G a_pairs_with,
    F_read,
    B_read,
    PySem.W.mg_of X G a_read,
    F_law_cell_at,
    B_law_cell_at,
    PySem.W.mg_of X G a_law_cell_at,
    F_law_whole,
    B_law_whole,
    PySem.W.mg_of X G a_law_whole,
    F_law_mixed,
    B_law_mixed,
    PySem.W.mg_of X G a_law_mixed,
    F_law_pairs,
    B_law_pairs,
    PySem.W.mg_of X G a_law_pairs,
    F_law_written,
    B_law_written,
    PySem.W.mg_of X G a_law_written,
    F_law_same,
    B_law_same,
    PySem.W.mg_of X G a_law_same,
    F_law_kinds,
    B_law_kinds,
    PySem.W.mg_of X G a_law_kinds,
    F_law_bent,
    B_law_bent,
    PySem.W.mg_of X G a_law_bent,
    F_law_drawing_of,
    B_law_drawing_of,
    PySem.W.mg_of X G a_law_drawing_of,
    F_law_right,
    B_law_right,
    PySem.W.mg_of X G a_law_right,
    F_law,
    B_law,
    PySem.W.mg_of X G a_law,
    PySem.W.mg_of X G C_BadPaper,
    PySem.W.mg_of X G C_BadStep,
    PySem.W.mg_of X G C_DoingError,
    PySem.W.mg_of X G C_Drawing,
    ⟨pg_Drawing, hd_Drawing, po_Drawing, sa_Drawing⟩,
    ⟨mk_Drawing, a_Drawing_init, i_Drawing_init, kc_Drawing⟩,
    PySem.W.mg_of X G C_NoAnswer,
    PySem.W.mg_of X G C_NoBow,
    PySem.W.mg_of X G C_NoCount,
    PySem.W.mg_of X G C_NoDoor,
    PySem.W.mg_of X G C_NoFormula,
    PySem.W.mg_of X G C_NoFraction,
    PySem.W.mg_of X G C_NoName,
    PySem.W.mg_of X G C_NoNest,
    PySem.W.mg_of X G C_NoQuestion,
    PySem.W.mg_of X G C_NoRoad,
    PySem.W.mg_of X G C_NoRule,
    PySem.W.mg_of X G C_NoSets,
    PySem.W.mg_of X G C_NoShare,
    PySem.W.mg_of X G C_NoText,
    PySem.W.mg_of X G C_NoThinning,
    PySem.W.mg_of X G C_NoTie,
    PySem.W.mg_of X G C_NoValue,
    PySem.W.mg_of X G C_NoWorld,
    ⟨xe_DoingError, xo_DoingError, xb_DoingError, xg_DoingError, xt_DoingError, xc_DoingError⟩,
    ⟨xe_NoBow, xo_NoBow, xb_NoBow, xg_NoBow, xt_NoBow, xc_NoBow⟩,
    ⟨xe_NoCount, xo_NoCount, xb_NoCount, xg_NoCount, xt_NoCount, xc_NoCount⟩,
    ⟨xe_NoTie, xo_NoTie, xb_NoTie, xg_NoTie, xt_NoTie, xc_NoTie⟩,
    s_NoCount,
    kk_NoCount_ValueError,
    kk_NoCount_NoText,
    kk_NoCount_BadStep,
    kk_NoCount_NoFormula,
    kk_NoCount_NoQuestion,
    kk_NoCount_NoAnswer,
    kk_NoCount_NoThinning,
    kk_NoCount_NoDoor,
    kk_NoCount_NoNest,
    kk_NoCount_BadPaper,
    kk_NoCount_NoRule,
    kk_NoCount_NoRoad,
    kk_NoCount_NoShare,
    kk_NoCount_NoValue,
    kk_NoCount_NoWorld,
    kk_NoCount_NoSets,
    kk_NoCount_NoName,
    kk_NoCount_NoBow,
    kk_NoCount_NoTie,
    kk_NoCount_NoCount,
    kk_NoCount_NoFraction,
    s_NoTie,
    kk_NoTie_ValueError,
    kk_NoTie_NoText,
    kk_NoTie_BadStep,
    kk_NoTie_NoFormula,
    kk_NoTie_NoQuestion,
    kk_NoTie_NoAnswer,
    kk_NoTie_NoThinning,
    kk_NoTie_NoDoor,
    kk_NoTie_NoNest,
    kk_NoTie_BadPaper,
    kk_NoTie_NoRule,
    kk_NoTie_NoRoad,
    kk_NoTie_NoShare,
    kk_NoTie_NoValue,
    kk_NoTie_NoWorld,
    kk_NoTie_NoSets,
    kk_NoTie_NoName,
    kk_NoTie_NoBow,
    kk_NoTie_NoTie,
    kk_NoTie_NoCount,
    kk_NoTie_NoFraction,
    s_NoBow,
    kk_NoBow_ValueError,
    kk_NoBow_NoText,
    kk_NoBow_BadStep,
    kk_NoBow_NoFormula,
    kk_NoBow_NoQuestion,
    kk_NoBow_NoAnswer,
    kk_NoBow_NoThinning,
    kk_NoBow_NoDoor,
    kk_NoBow_NoNest,
    kk_NoBow_BadPaper,
    kk_NoBow_NoRule,
    kk_NoBow_NoRoad,
    kk_NoBow_NoShare,
    kk_NoBow_NoValue,
    kk_NoBow_NoWorld,
    kk_NoBow_NoSets,
    kk_NoBow_NoName,
    kk_NoBow_NoBow,
    kk_NoBow_NoTie,
    kk_NoBow_NoCount,
    kk_NoBow_NoFraction,
    s_NoText,
    kk_NoText_ValueError,
    kk_NoText_NoText,
    kk_NoText_BadStep,
    kk_NoText_NoFormula,
    kk_NoText_NoQuestion,
    kk_NoText_NoAnswer,
    kk_NoText_NoThinning,
    kk_NoText_NoDoor,
    kk_NoText_NoNest,
    kk_NoText_BadPaper,
    kk_NoText_NoRule,
    kk_NoText_NoRoad,
    kk_NoText_NoShare,
    kk_NoText_NoValue,
    kk_NoText_NoWorld,
    kk_NoText_NoSets,
    kk_NoText_NoName,
    kk_NoText_NoBow,
    kk_NoText_NoTie,
    kk_NoText_NoCount,
    kk_NoText_NoFraction,
    PySem.W.mg_none_of X G z_ValueError,
    PySem.W.mg_none_of X G z_all,
    PySem.W.mg_none_of X G z_bool,
    PySem.W.mg_none_of X G z_int,
    PySem.W.mg_none_of X G z_isinstance,
    PySem.W.mg_none_of X G z_len,
    PySem.W.mg_none_of X G z_list,
    PySem.W.mg_none_of X G z_range,
    PySem.W.mg_none_of X G z_set,
    PySem.W.mg_none_of X G z_sorted,
    PySem.W.mg_none_of X G z_str,
    PySem.W.mg_none_of X G z_tuple,
    ⟨_, PySem.W.mg_of X G v_MOST_BOWS, ⟨_, rfl⟩⟩,
    ⟨_, PySem.W.mg_of X G v_MOST_NAMES, ⟨_, rfl⟩⟩,
    n_Drawing_bows,
    n_Drawing_count,
    n_Drawing_ties,
    ⟨_, PySem.W.mg_of X G v_COUNTS, ⟨_, rfl⟩⟩,
    ⟨_, PySem.W.mg_of X G v_LETTERS, ⟨_, rfl⟩⟩,
    ⟨ye, yo, yb, yg, yt, yc, ys, yn, a_NoText_init, i_NoText_init, yk⟩, ⟨yr, yf, yz⟩⟩, rfl, fun s v => .of_eq rfl⟩
theorem tx_of {K : PySem.W.Frag} {mg : Str → Option Value} {f : Addr} {x : Str} (h : ∃ t : Ad, Tx K mg t ∧ t.a_law = f ∧ ∀ (s : Shared) (v : Value), BindsTo s t.d_law ⟨[v], []⟩ [(x, v)]) (e : mg "law" = some (.ref f)) :
    ∃ t : Ad, Tx K mg t ∧ mg "law" = some (.ref t.a_law) ∧ ∀ (s : Shared) (v : Value), BindsTo s t.d_law ⟨[v], []⟩ [(x, v)] := by
  obtain ⟨t, T, rfl, b⟩ := h
  exact ⟨t, T, e, b⟩
end Lw
open PySem PySem.W PyProof.Rows
set_option maxRecDepth 100000 in
set_option maxHeartbeats 0 in
theorem PySem.Challenge.cw_doingbook_k82_what_is_no_drawings_text_holds : PySem.Challenge.rw_doingbook_k82_what_is_no_drawings_text.Holds := by
  w_on; o_law; k_head; (case hw => w_witness2)
  k_fill
  refine L2.walk_ofK (l := PySem.Challenge.rw_doingbook_k82_what_is_no_drawings_text) (n := 63) (k := 8) (x := "_law_script") (CX := L2.CX0) (sp := fun K => U.lowSp K U.spL) rfl (by decide) rfl ⟨rfl, by decide, by decide⟩ (fun w h Y => PySem.W.kIn_of Y) ?F (fun K H a ns hl hO hS => U.spL_start hl hO hS) (fun _ _ _ _ z => z)
  case F =>
    intro w mg fa h KX G hmg
    have T : ∃ t : Lw.Ad, Lw.Tx (L2.KOf KX) mg t ∧ mg "law" = some (.ref t.a_law) ∧ ∀ (s : Shared) (v : Value), BindsTo s t.d_law ⟨[v], []⟩ [("_law_script", v)] := by
      dsimp only [L2.KOf]
      refine' Lw.tx_of (Lw.txt_mk KX G ?C_BadPaper ?C_BadStep ?C_DoingError ?C_Drawing ?C_NoAnswer ?C_NoBow ?C_NoCount ?C_NoDoor ?C_NoFormula ?C_NoFraction ?C_NoName ?C_NoNest ?C_NoQuestion ?C_NoRoad ?C_NoRule ?C_NoSets ?C_NoShare ?C_NoText ?C_NoThinning ?C_NoTie ?C_NoValue ?C_NoWorld ?a_NoText_init ?i_NoText_init ?l_NoText_init ?c_NoText_init ?k_NoText_init ?a_is_pair ?l_is_pair ?c_is_pair ?k_is_pair ?a_are_pairs ?l_are_pairs ?c_are_pairs ?k_are_pairs ?a_Drawing_init ?i_Drawing_init ?l_Drawing_init ?c_Drawing_init ?k_Drawing_init ?a_Drawing_shape ?i_Drawing_shape ?l_Drawing_shape ?c_Drawing_shape ?k_Drawing_shape ?a_pair_text ?l_pair_text ?c_pair_text ?k_pair_text ?a_written ?l_written ?c_written ?k_written ?a_pairs_with ?l_pairs_with ?c_pairs_with ?k_pairs_with ?a_read ?l_read ?c_read ?k_read ?a_law_cell_at ?l_law_cell_at ?c_law_cell_at ?k_law_cell_at ?a_law_whole ?l_law_whole ?c_law_whole ?k_law_whole ?a_law_mixed ?l_law_mixed ?c_law_mixed ?k_law_mixed ?a_law_pairs ?l_law_pairs ?c_law_pairs ?k_law_pairs ?a_law_written ?l_law_written ?c_law_written ?k_law_written ?a_law_same ?l_law_same ?c_law_same ?k_law_same ?a_law_kinds ?l_law_kinds ?c_law_kinds ?k_law_kinds ?a_law_bent ?l_law_bent ?c_law_bent ?k_law_bent ?a_law_drawing_of ?l_law_drawing_of ?c_law_drawing_of ?k_law_drawing_of ?a_law_right ?l_law_right ?c_law_right ?k_law_right ?a_law ?l_law ?c_law ?k_law ?pg_Drawing ?hd_Drawing ?po_Drawing ?sa_Drawing ?mk_Drawing ?kc_Drawing ?xe_DoingError ?xo_DoingError ?xb_DoingError ?xg_DoingError ?xt_DoingError ?xc_DoingError ?xe_NoBow ?xo_NoBow ?xb_NoBow ?xg_NoBow ?xt_NoBow ?xc_NoBow ?xe_NoCount ?xo_NoCount ?xb_NoCount ?xg_NoCount ?xt_NoCount ?xc_NoCount ?xe_NoTie ?xo_NoTie ?xb_NoTie ?xg_NoTie ?xt_NoTie ?xc_NoTie ?s_NoCount ?s_NoTie ?s_NoBow ?s_NoText ?kk_NoCount_ValueError ?kk_NoCount_NoText ?kk_NoCount_BadStep ?kk_NoCount_NoFormula ?kk_NoCount_NoQuestion ?kk_NoCount_NoAnswer ?kk_NoCount_NoThinning ?kk_NoCount_NoDoor ?kk_NoCount_NoNest ?kk_NoCount_BadPaper ?kk_NoCount_NoRule ?kk_NoCount_NoRoad ?kk_NoCount_NoShare ?kk_NoCount_NoValue ?kk_NoCount_NoWorld ?kk_NoCount_NoSets ?kk_NoCount_NoName ?kk_NoCount_NoBow ?kk_NoCount_NoTie ?kk_NoCount_NoCount ?kk_NoCount_NoFraction ?kk_NoTie_ValueError ?kk_NoTie_NoText ?kk_NoTie_BadStep ?kk_NoTie_NoFormula ?kk_NoTie_NoQuestion ?kk_NoTie_NoAnswer ?kk_NoTie_NoThinning ?kk_NoTie_NoDoor ?kk_NoTie_NoNest ?kk_NoTie_BadPaper ?kk_NoTie_NoRule ?kk_NoTie_NoRoad ?kk_NoTie_NoShare ?kk_NoTie_NoValue ?kk_NoTie_NoWorld ?kk_NoTie_NoSets ?kk_NoTie_NoName ?kk_NoTie_NoBow ?kk_NoTie_NoTie ?kk_NoTie_NoCount ?kk_NoTie_NoFraction ?kk_NoBow_ValueError ?kk_NoBow_NoText ?kk_NoBow_BadStep ?kk_NoBow_NoFormula ?kk_NoBow_NoQuestion ?kk_NoBow_NoAnswer ?kk_NoBow_NoThinning ?kk_NoBow_NoDoor ?kk_NoBow_NoNest ?kk_NoBow_BadPaper ?kk_NoBow_NoRule ?kk_NoBow_NoRoad ?kk_NoBow_NoShare ?kk_NoBow_NoValue ?kk_NoBow_NoWorld ?kk_NoBow_NoSets ?kk_NoBow_NoName ?kk_NoBow_NoBow ?kk_NoBow_NoTie ?kk_NoBow_NoCount ?kk_NoBow_NoFraction ?kk_NoText_ValueError ?kk_NoText_NoText ?kk_NoText_BadStep ?kk_NoText_NoFormula ?kk_NoText_NoQuestion ?kk_NoText_NoAnswer ?kk_NoText_NoThinning ?kk_NoText_NoDoor ?kk_NoText_NoNest ?kk_NoText_BadPaper ?kk_NoText_NoRule ?kk_NoText_NoRoad ?kk_NoText_NoShare ?kk_NoText_NoValue ?kk_NoText_NoWorld ?kk_NoText_NoSets ?kk_NoText_NoName ?kk_NoText_NoBow ?kk_NoText_NoTie ?kk_NoText_NoCount ?kk_NoText_NoFraction ?z_ValueError ?z_all ?z_bool ?z_int ?z_isinstance ?z_len ?z_list ?z_range ?z_set ?z_sorted ?z_str ?z_tuple ?v_MOST_BOWS ?v_MOST_NAMES ?n_Drawing_bows ?n_Drawing_count ?n_Drawing_ties ?v_COUNTS ?v_LETTERS ?ye ?yo ?yb ?yg ?yt ?yc ?ys ?yn ?yk ?yr ?yf ?yz) ?tl
      (case C_BadPaper => k_is)
      (case C_BadStep => k_is)
      (case C_DoingError => k_is)
      (case C_Drawing => k_is)
      (case C_NoAnswer => k_is)
      (case C_NoBow => k_is)
      (case C_NoCount => k_is)
      (case C_NoDoor => k_is)
      (case C_NoFormula => k_is)
      (case C_NoFraction => k_is)
      (case C_NoName => k_is)
      (case C_NoNest => k_is)
      (case C_NoQuestion => k_is)
      (case C_NoRoad => k_is)
      (case C_NoRule => k_is)
      (case C_NoSets => k_is)
      (case C_NoShare => k_is)
      (case C_NoText => k_is)
      (case C_NoThinning => k_is)
      (case C_NoTie => k_is)
      (case C_NoValue => k_is)
      (case C_NoWorld => k_is)
      (case a_NoText_init => k_is)
      (case i_NoText_init => k_is)
      (case l_NoText_init => k_is)
      (case c_NoText_init => k_is)
      (case k_NoText_init => k_is)
      (case a_is_pair => k_is)
      (case l_is_pair => k_is)
      (case c_is_pair => k_is)
      (case k_is_pair => k_is)
      (case a_are_pairs => k_is)
      (case l_are_pairs => k_is)
      (case c_are_pairs => k_is)
      (case k_are_pairs => k_is)
      (case a_Drawing_init => k_is)
      (case i_Drawing_init => k_is)
      (case l_Drawing_init => k_is)
      (case c_Drawing_init => k_is)
      (case k_Drawing_init => k_is)
      (case a_Drawing_shape => k_is)
      (case i_Drawing_shape => k_is)
      (case l_Drawing_shape => k_is)
      (case c_Drawing_shape => k_is)
      (case k_Drawing_shape => k_is)
      (case a_pair_text => k_is)
      (case l_pair_text => k_is)
      (case c_pair_text => k_is)
      (case k_pair_text => k_is)
      (case a_written => k_is)
      (case l_written => k_is)
      (case c_written => k_is)
      (case k_written => k_is)
      (case a_pairs_with => k_is)
      (case l_pairs_with => k_is)
      (case c_pairs_with => k_is)
      (case k_pairs_with => k_is)
      (case a_read => k_is)
      (case l_read => k_is)
      (case c_read => k_is)
      (case k_read => k_is)
      (case a_law_cell_at => k_is)
      (case l_law_cell_at => k_is)
      (case c_law_cell_at => k_is)
      (case k_law_cell_at => k_is)
      (case a_law_whole => k_is)
      (case l_law_whole => k_is)
      (case c_law_whole => k_is)
      (case k_law_whole => k_is)
      (case a_law_mixed => k_is)
      (case l_law_mixed => k_is)
      (case c_law_mixed => k_is)
      (case k_law_mixed => k_is)
      (case a_law_pairs => k_is)
      (case l_law_pairs => k_is)
      (case c_law_pairs => k_is)
      (case k_law_pairs => k_is)
      (case a_law_written => k_is)
      (case l_law_written => k_is)
      (case c_law_written => k_is)
      (case k_law_written => k_is)
      (case a_law_same => k_is)
      (case l_law_same => k_is)
      (case c_law_same => k_is)
      (case k_law_same => k_is)
      (case a_law_kinds => k_is)
      (case l_law_kinds => k_is)
      (case c_law_kinds => k_is)
      (case k_law_kinds => k_is)
      (case a_law_bent => k_is)
      (case l_law_bent => k_is)
      (case c_law_bent => k_is)
      (case k_law_bent => k_is)
      (case a_law_drawing_of => k_is)
      (case l_law_drawing_of => k_is)
      (case c_law_drawing_of => k_is)
      (case k_law_drawing_of => k_is)
      (case a_law_right => k_is)
      (case l_law_right => k_is)
      (case c_law_right => k_is)
      (case k_law_right => k_is)
      (case a_law => k_is)
      (case l_law => k_is)
      (case c_law => k_is)
      (case k_law => k_is)
      (case pg_Drawing => k_is)
      (case hd_Drawing => k_is)
      (case po_Drawing => k_is)
      (case sa_Drawing => k_is)
      (case mk_Drawing => k_is)
      (case kc_Drawing => k_is)
      (case xe_DoingError => kernel_rfl)
      (case xo_DoingError => k_is)
      (case xb_DoingError => k_is)
      (case xg_DoingError => k_is)
      (case xt_DoingError => k_is)
      (case xc_DoingError => k_is)
      (case xe_NoBow => kernel_rfl)
      (case xo_NoBow => k_is)
      (case xb_NoBow => k_is)
      (case xg_NoBow => k_is)
      (case xt_NoBow => k_is)
      (case xc_NoBow => k_is)
      (case xe_NoCount => kernel_rfl)
      (case xo_NoCount => k_is)
      (case xb_NoCount => k_is)
      (case xg_NoCount => k_is)
      (case xt_NoCount => k_is)
      (case xc_NoCount => k_is)
      (case xe_NoTie => kernel_rfl)
      (case xo_NoTie => k_is)
      (case xb_NoTie => k_is)
      (case xg_NoTie => k_is)
      (case xt_NoTie => k_is)
      (case xc_NoTie => k_is)
      (case s_NoCount => k_is)
      (case s_NoTie => k_is)
      (case s_NoBow => k_is)
      (case s_NoText => k_is)
      (case kk_NoCount_ValueError => kit_is)
      (case kk_NoCount_NoText => kit_is)
      (case kk_NoCount_BadStep => kit_is)
      (case kk_NoCount_NoFormula => kit_is)
      (case kk_NoCount_NoQuestion => kit_is)
      (case kk_NoCount_NoAnswer => kit_is)
      (case kk_NoCount_NoThinning => kit_is)
      (case kk_NoCount_NoDoor => kit_is)
      (case kk_NoCount_NoNest => kit_is)
      (case kk_NoCount_BadPaper => kit_is)
      (case kk_NoCount_NoRule => kit_is)
      (case kk_NoCount_NoRoad => kit_is)
      (case kk_NoCount_NoShare => kit_is)
      (case kk_NoCount_NoValue => kit_is)
      (case kk_NoCount_NoWorld => kit_is)
      (case kk_NoCount_NoSets => kit_is)
      (case kk_NoCount_NoName => kit_is)
      (case kk_NoCount_NoBow => kit_is)
      (case kk_NoCount_NoTie => kit_is)
      (case kk_NoCount_NoCount => kit_is)
      (case kk_NoCount_NoFraction => kit_is)
      (case kk_NoTie_ValueError => kit_is)
      (case kk_NoTie_NoText => kit_is)
      (case kk_NoTie_BadStep => kit_is)
      (case kk_NoTie_NoFormula => kit_is)
      (case kk_NoTie_NoQuestion => kit_is)
      (case kk_NoTie_NoAnswer => kit_is)
      (case kk_NoTie_NoThinning => kit_is)
      (case kk_NoTie_NoDoor => kit_is)
      (case kk_NoTie_NoNest => kit_is)
      (case kk_NoTie_BadPaper => kit_is)
      (case kk_NoTie_NoRule => kit_is)
      (case kk_NoTie_NoRoad => kit_is)
      (case kk_NoTie_NoShare => kit_is)
      (case kk_NoTie_NoValue => kit_is)
      (case kk_NoTie_NoWorld => kit_is)
      (case kk_NoTie_NoSets => kit_is)
      (case kk_NoTie_NoName => kit_is)
      (case kk_NoTie_NoBow => kit_is)
      (case kk_NoTie_NoTie => kit_is)
      (case kk_NoTie_NoCount => kit_is)
      (case kk_NoTie_NoFraction => kit_is)
      (case kk_NoBow_ValueError => kit_is)
      (case kk_NoBow_NoText => kit_is)
      (case kk_NoBow_BadStep => kit_is)
      (case kk_NoBow_NoFormula => kit_is)
      (case kk_NoBow_NoQuestion => kit_is)
      (case kk_NoBow_NoAnswer => kit_is)
      (case kk_NoBow_NoThinning => kit_is)
      (case kk_NoBow_NoDoor => kit_is)
      (case kk_NoBow_NoNest => kit_is)
      (case kk_NoBow_BadPaper => kit_is)
      (case kk_NoBow_NoRule => kit_is)
      (case kk_NoBow_NoRoad => kit_is)
      (case kk_NoBow_NoShare => kit_is)
      (case kk_NoBow_NoValue => kit_is)
      (case kk_NoBow_NoWorld => kit_is)
      (case kk_NoBow_NoSets => kit_is)
      (case kk_NoBow_NoName => kit_is)
      (case kk_NoBow_NoBow => kit_is)
      (case kk_NoBow_NoTie => kit_is)
      (case kk_NoBow_NoCount => kit_is)
      (case kk_NoBow_NoFraction => kit_is)
      (case kk_NoText_ValueError => kit_is)
      (case kk_NoText_NoText => kit_is)
      (case kk_NoText_BadStep => kit_is)
      (case kk_NoText_NoFormula => kit_is)
      (case kk_NoText_NoQuestion => kit_is)
      (case kk_NoText_NoAnswer => kit_is)
      (case kk_NoText_NoThinning => kit_is)
      (case kk_NoText_NoDoor => kit_is)
      (case kk_NoText_NoNest => kit_is)
      (case kk_NoText_BadPaper => kit_is)
      (case kk_NoText_NoRule => kit_is)
      (case kk_NoText_NoRoad => kit_is)
      (case kk_NoText_NoShare => kit_is)
      (case kk_NoText_NoValue => kit_is)
      (case kk_NoText_NoWorld => kit_is)
      (case kk_NoText_NoSets => kit_is)
      (case kk_NoText_NoName => kit_is)
      (case kk_NoText_NoBow => kit_is)
      (case kk_NoText_NoTie => kit_is)
      (case kk_NoText_NoCount => kit_is)
      (case kk_NoText_NoFraction => kit_is)
      (case z_ValueError => k_is)
      (case z_all => k_is)
      (case z_bool => k_is)
      (case z_int => k_is)
      (case z_isinstance => k_is)
      (case z_len => k_is)
      (case z_list => k_is)
      (case z_range => k_is)
      (case z_set => k_is)
      (case z_sorted => k_is)
      (case z_str => k_is)
      (case z_tuple => k_is)
      (case v_MOST_BOWS => k_is)
      (case v_MOST_NAMES => k_is)
      (case n_Drawing_bows => k_is)
      (case n_Drawing_count => k_is)
      (case n_Drawing_ties => k_is)
      (case v_COUNTS => k_is)
      (case v_LETTERS => k_is)
      (case ye => kernel_rfl)
      (case yo => k_is)
      (case yb => k_is)
      (case yg => k_is)
      (case yt => k_is)
      (case yc => k_is)
      (case ys => k_is)
      (case yn => k_is)
      (case yk => k_is)
      (case yr => k_is)
      (case yf => k_is)
      (case yz => k_is)
      (case tl => exact PySem.W.mg_of KX G (by k_is))
    obtain ⟨t, T, e, hb⟩ := T
    have e0 := hmg.symm.trans e
    cases e0
    exact ⟨t.d_law, hb, fun base kb nb => Lw.G_law T⟩
